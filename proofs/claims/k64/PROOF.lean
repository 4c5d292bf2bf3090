import PyProof.Rows.All
import Wide.All
import OpenK.AllK
import Wide.FinOn
import Lean
import PyProof.EqAt
import PyProof.EqKinds
import PyProof.TupleCall
import KE.KRevIter
import KE.KRevSl
import PyProof.AttrMiss
import KE.KDictOf
import PyProof.FactsAll.enumerate
import PyProof.FactsAll.zip
import PyProof.ListRange
import PyProof.FactsAll.list_1
import KE.KDictList
import PyProof.StrOps2
import PyProof.Rows.SetFrom
import PyProof.CollectStr
import PyProof.Rows.SortWalk
import KE.KSortTup
import KE.KDictList
import PyProof.FactsAll.range_2
import PyProof.P3Eq
import KE.KEqDict
import PyProof.Rows.Range3
import PySem.Challenge.RW_turnguard_k64_whole_thinned
set_option Elab.async false
set_option linter.all false
set_option maxRecDepth 100000
def aq:=@PySem.wpAny_bind
def aL:=@PySem.wpAny_pure
def c9:=@PySem.Heap.get?_push_of_some
def iE:=@PySem.Heap.get?_push_size
def fu{α:Type}{l:List α}{i:Nat}{a:α}(h:l[i]?=some a):∃h:i<l.length,l[i]=a:=List.getElem?_eq_some_iff.mp h
def fO{α:Type}{l:List α}{i:Nat}(h:i<l.length):l[i]?=some l[i]:=List.getElem?_eq_getElem h
def fB{α:Type}{l:List α}{i:Nat}{a:α}(h:l[i]?=some a):a∈l:=List.mem_of_getElem? h
def mJ{α:Type}{l:List α}{i:Nat}{a:α}:l.getD i a=l[i]?.getD a:=List.getD_eq_getElem?_getD
def jT:¬(false=true):=Bool.false_ne_true
noncomputable section
local macro_rules | `(tactic| walk_at "sc")=>`(tactic| exact⟨rfl, rfl, rfl, by decide +kernel, rfl, by decide +kernel, by decide +kernel⟩)
abbrev aD:=PySem.W.Frag
section
open PySem PySem.Spec PyProof.Rows
def iw:=@Around.under_plainId
def kZ:=@Array.forIn_toList
def gw:=@Array.getElem?_eq_getElem
def qj:=@Array.getElem?_eq_none
def mK:=@Array.getElem?_eq_some_iff
def fS:=@Array.getElem?_toList
def cX:=@Array.length_toList
def rH:=@Bool.and_eq_true
def rJ:=@Bool.false_and
def bV:=@Bool.false_eq_true
def gp:=@Bool.not_true
def we:=@Calls.callWith_builtin
def wg:=@Calls.call_function_entry
def rK:=@Classical.byContradiction
def j8:=@F.plain_max_loop
def wj:=@F.slot_dict_keyiterator_next
def wk:=@F.slot_dict_valueiterator_next
def wm:=@F.slot_tuple_iterator_next
def rL:=@Heap.SameBut.refl
def jD:=@Heap.SameBut.update
def fU:=@Heap.get?_update_ne
def j9:=@Heap.get?_update_other
def fE:=@Heap.get?_update_self
def aK:=@Heap.lt_size
def fF:=@Heap.size_push
def gF:=@Int.toNat_natCast
def mW:=@List.Perm.refl
def jE:=@List.any_cons
def mX:=@List.append_assoc
def i0:=@List.append_nil
def wo:=@List.eraseIdx_cons_succ
def jF:=@List.filter_append
def rM:=@List.filter_cons_of_neg
def rN:=@List.filter_cons_of_pos
def i6:=@List.find?_cons
def rO:=@List.flatMap_cons
def jG:=@List.forIn_cons
def k6:=@List.forIn_nil
def i7:=@List.getElem?_append_left
def iF:=@List.getElem?_append_right
def rP:=@List.getElem?_cons_succ
def jH:=@List.getElem?_eq_none
def bw:=@List.getElem?_map
def pG:=@List.getElem?_range
def pH:=@List.getElem?_set_ne
def rQ:=@List.getElem?_take_of_lt
def k7:=@List.getElem?_toArray
def pI:=@List.getElem?_zip_eq_some
def rR:=@List.getElem_inj
def rS:=@List.getElem_map
def jI:=@List.getElem_mem
def aR:=@List.length_append
def eB:=@List.length_cons
def rT:=@List.length_drop
def i8:=@List.length_filter_le
def av:=@List.length_map
def mY:=@List.length_nil
def gU:=@List.length_range
def eE:=@List.length_set
def jJ:=@List.length_singleton
def cF:=@List.length_take
def bF:=@List.map_append
def cj:=@List.map_cons
def fV:=@List.map_map
def aO:=@List.mem_append
def mZ:=@List.mem_append_left
def cA:=@List.mem_append_right
def aI:=@List.mem_cons
def dg:=@List.mem_cons_of_mem
def i9:=@List.mem_cons_self
def dM:=@List.mem_filter
def m8:=@List.mem_flatMap
def pJ:=@List.mem_iff_getElem
def fW:=@List.mem_iff_getElem?
def aF:=@List.mem_map
def k9:=@List.mem_map_of_mem
def rV:=@List.mem_or_eq_of_mem_set
def fX:=@List.mem_range
def aA:=@List.mem_singleton
def gq:=@List.nodup_append
def iG:=@List.nodup_cons
def kg:=@List.nodup_nil
def fY:=@List.not_mem_nil
def pK:=@List.pairwise_cons
def lg:=@List.pairwise_iff_getElem
def wu:=@List.pairwise_lt_range
def lq:=@List.pairwise_map
def m9:=@List.range_succ
def rW:=@List.replicate_succ
def aV:=@List.size_toArray
def cB:=@List.take_add_one
def cG:=@List.take_length
def rX:=@List.take_subset
def nc:=@Nat.le_add_right
def eU:=@Nat.le_of_ble_eq_true
def jK:=@Nat.le_of_lt
def az:=@Nat.le_refl
def lu:=@Nat.le_succ
def bJ:=@Nat.le_trans
def fZ:=@Nat.lt_irrefl
def bS:=@Nat.lt_of_lt_of_le
def aY:=@Nat.lt_or_ge
def jo:=@Nat.lt_succ_of_lt
def g8:=@Nat.lt_succ_self
def lX:=@Nat.lt_trichotomy
def jq:=@Nat.ne_of_gt
def aQ:=@Nat.ne_of_lt
def gG:=@Nat.not_lt_zero
def aH:=@Nat.zero_le
def bA:=@Ne.symm
def kh:=@Obj.cls_mapFields
def dG:=@Obj.data_mapFields
def iO:=@Obj.isFreed_of_fields
def di:=@Option.map_eq_some_iff
def lY:=@Option.toList_some
def ao:=@Or.inl
def cg:=@Or.inr
def g9:=@Paired.length
def dH:=@Paired.mono
def cH:=@Paired.snoc
def bX:=@PassesOwn.never
def ki:=@PyProof.Rows.callWith_type1
def dS:=@PySem.F.plainAttrs_list
def jr:=@PySem.F.slot_list_append
def nG:=@PySem.F.slot_list_extend
def jt:=@PySem.F.type_list_append
def nH:=@PySem.F.type_list_extend
def gf:=@PySem.W.kia_one
def ju:=@PySem.mem_of_lookup
def gh:=@True.intro
end
namespace L2
open PySem PySem.Spec PyProof.Rows
variable {x:Str}{u:Value}{H:Hp}{a b:Addr}{o:HO}{P:Program}{w:World}{h base:Heap}{t' i k n:Nat}{ch fp:List Addr}{N ps:List Str}{M:Model}{A:Around}{E:Value->Shared->Prop}{v:V}{Q:Unit->Shared->Prop}{X:Cx}{e c tg:Expr}{s:Shared}{pins:List (Addr×Obj)}{pos:Pos}{op:CmpOp}{t te:TE}{K:aD}{D:Ends}{g:TG}{body:List Stmt}{tb:TS}{xs:List V}{f:Value->Value->Sem Value}{r:R2}{us:List Value}{mg:Str->Option Value}{CX:EM}
abbrev Key:=Sum Int Str
def uP:Key->Value->Bool
 | .inl k,v=>Value.isInt k v
 | .inr x,v=>Value.isStrOf x v
def WC(w:World):Key->Int
 | .inl k=>hashInt k
 | .inr x=>hashStr w x
theorem dU:∀{k:Key}{v:Value},uP k v=true->(∃i t,k=Sum.inl i/\v=Value.int i t)\/(∃x t,k=Sum.inr x/\v=Value.str x t)
 | .inl i,v,h=>by
  obtain⟨t,e⟩:=Value.isInt_shape (k:=i) (v:=v) h;exact .inl ⟨i,t,rfl,e⟩
 | .inr x,v,h=>by obtain⟨t,e⟩:=Value.isStrOf_shape (x:=x) (v:=v) h;exact .inr ⟨x,t,rfl,e⟩
def Ew(i:Int)(t:Tok):uP (.inl i) (.int i t)=true:=by simp[uP,Value.isInt]
def Ex(x:Str)(t:Tok):uP (.inr x) (.str x t)=true:=by simp[uP,Value.isStrOf]
def OI(a b:Int):decide ((Sum.inl a:Key)=Sum.inl b)=(a==b):=by
 by_cases e:a=b
 .subst e;simp
 .have h:¬(Sum.inl a:Key)=Sum.inl b:=λq=>e (Sum.inl.inj q);rw[decide_eq_false h];exact(beq_eq_false_iff_ne.mpr e).symm
def OJ(a b:Str):decide ((Sum.inr a:Key)=Sum.inr b)=decide (a=b):=by
 by_cases e:a=b
 .subst e;simp
 .have h:¬(Sum.inr a:Key)=Sum.inr b:=λq=>e (Sum.inr.inj q);rw[decide_eq_false h,decide_eq_false e]
def OL(a:Int)(b:Str):decide ((Sum.inl a:Key)=Sum.inr b)=false:=decide_eq_false (λq=>nomatch q)
def OM(a:Str)(b:Int):decide ((Sum.inr a:Key)=Sum.inl b)=false:=decide_eq_false (λq=>nomatch q)
def bK(prog:Program)(w:World):PySem.KeyKind prog w Key where
 is:=uP
 hash:=WC w
 inj:=λv a b ha hb=>by
  rcases dU ha with⟨i,t,rfl,rfl⟩|⟨x,t,rfl,rfl⟩
  .rcases dU hb with⟨j,u,rfl,e⟩|⟨y,u,rfl,e⟩
   .injection e with e1 _;rw[e1]
   .exact nomatch e
  .rcases dU hb with⟨j,u,rfl,e⟩|⟨y,u,rfl,e⟩
   .exact nomatch e
   .injection e with e1 _;rw[e1]
 byValue:=λk v h=>by rcases dU h with⟨i,t,rfl,rfl⟩|⟨x,t,rfl,rfl⟩<;>rfl
 pyHash:=λhv h=>by
  rcases dU hv with⟨i,t,rfl,rfl⟩|⟨x,t,rfl,rfl⟩
  .exact wpAny_pyHash_int h
  .exact wpAny_pyHash_str h
 eqBool:=λhu hv h=>by
  rcases dU hu with⟨i,t,rfl,rfl⟩|⟨x,t,rfl,rfl⟩
  .rcases dU hv with⟨j,u,rfl,rfl⟩|⟨y,u,rfl,rfl⟩
   .rw[OI] at h;exact wpAny_eqBool_int h
   .rw[OL] at h;exact SeqAt.EqAt.int_str i t y u _ _ _ _ h
  .rcases dU hv with⟨j,u,rfl,rfl⟩|⟨y,u,rfl,rfl⟩
   .rw[OM] at h;exact SeqAt.EqAt.str_int x t j u _ _ _ _ h
   .rw[OJ] at h;exact wpAny_eqBool_str h
 «strs»:=λk x t v h=>by
  rcases dU h with⟨i,u,rfl,e⟩|⟨y,u,rfl,e⟩
  .exact nomatch e
  .injection e with e1 _;subst e1;cases v<;>rfl
def yh(prog:Program)(w:World)(i:Int)(t:Tok):(bK prog w).is (.inl i) (.int i t)=true:=Ew i t
def ly(prog:Program)(w:World)(x:Str)(t:Tok):(bK prog w).is (.inr x) (.str x t)=true:=Ex x t
inductive V where
 | cY|bl (b:Bool)|int (i:Int)|str (x:Str) | Ey (b:Array UInt8) | Rq (b:UInt64)|ref (a:Addr)|ty (n:String)
 deriving DecidableEq
def RelV:V->Value->Prop
 | .cY,u=>u=Value.none
 | .bl b,u=>u=Value.bool b
 | .int i,u=>∃t,u=Value.int i t
 | .str x,u=>∃t,u=Value.str x t
 | .Ey b,u=>∃t,u=Value.bytes b t
 | .Rq b,u=>∃t,u=Value.float b t
 | .ref a,u=>u=Value.ref a
 | .ty n,u=>u=Value.type n
abbrev Vals:List V->List Value->Prop:=Paired RelV
theorem Vals.length{xs:List V}{us:List Value}(r:Vals xs us):xs.length=us.length:=g9 r
theorem Vals.get:∀{xs:List V}{us:List Value}{i:Nat}{x:V},Vals xs us->xs[i]?=some x->∃u,us[i]?=some u/\RelV x u
 | _,_,_,_,.nil,e=>by simp at e
 | _,_,0,_,.cons r _,e=>by simp at e;subst e;exact⟨_,rfl,r⟩
 | _,_,i+1,x,.cons _ t,e=>by obtain⟨u,h1,h2⟩:=Vals.get (i:=i) (x:=x) t (by simpa using e);exact⟨u,by simpa using h1,h2⟩
theorem Vals.set{x:V}(r:RelV x u):∀{xs:List V}{us:List Value}(i:Nat),Vals xs us->Vals (xs.set i x) (us.set i u)
 | _,_,_,.nil=>.nil
 | _,_,0,.cons _ t=>.cons r t
 | _,_,i+1,.cons q t=>.cons q (Vals.set r i t)
theorem Vals.append:∀{xs ys:List V}{us ws:List Value},Vals xs us->Vals ys ws->Vals (xs++ys) (us++ws)
 | _,_,_,_,.nil,s=>s
 | _,_,_,_,.cons r t,s=>.cons r (Vals.append t s)
theorem Vals.take:∀{xs:List V}{us:List Value}(n:Nat),Vals xs us->Vals (xs.take n) (us.take n)
 | _,_,0,_=>.nil
 | _,_,_+1,.nil=>.nil
 | _,_,n+1,.cons r t=>.cons r (Vals.take n t)
theorem Vals.drop:∀{xs:List V}{us:List Value}(n:Nat),Vals xs us->Vals (xs.drop n) (us.drop n)
 | _,_,0,r=>r
 | _,_,_+1,.nil=>.nil
 | _,_,n+1,.cons _ t=>Vals.drop n t
def lz:Option V->Option Value->Prop
 | some v,some u=>RelV v u
 | none,none=>True
 | _,_=>False
def KV{κ:Type}:List (κ×V)->List (κ×Value)->Prop:=Paired λ(p:κ×V)(q:κ×Value)=>p.1=q.1/\RelV p.2 q.2
def kV:Key->V
 | .inl i=>.int i
 | .inr x=>.str x
inductive HO where
 | lst (xs:List V)
 | tup (xs:List V)
 | dK (kvs:List (Key×V))|dT (kvs:List (List Key×V))
 | set (S:Int->Bool) (n:Nat)
 | ins (C dx:Addr) (fs:List (Str×V))
 | own (x:Addr)
 | xd (fs:List (Str×V))
 | met (f x:Addr)
 | WD (lo hi:Int)
 | CB (o:Obj) (u:HO)
 | ON (ps:Array Value)
 | ext (φ:Heap->Prop)
abbrev Hp:=Addr->Option HO
def upd(H:Hp)(a:Addr)(o:HO):Hp:=λb=>if b=a then some o else H b
def jU:upd H a o a=some o:=by unfold upd;rw[if_pos rfl]
def ck(h:b≠a):upd H a o b=H b:=by unfold upd;rw[if_neg h]
def uQ{H:Hp}{o u:HO}(h:H a=some o)(h':H b=some u)(d:o≠u):a≠b:=by intro e;subst e;rw[h] at h';exact d (Option.some.inj h')
def aW{H:Hp}{o:HO}(h:H a=some o)(h':H b=none):a≠b:=by intro e;subst e;rw[h] at h';cases h'
section
variable (P:Program)(w:World)
def cZ(H:Hp)(h:Heap)(a:Addr):HO->Prop
 | .lst xs=>xs.length<=sizeLine/\∃(its:List Value)(n:Nat),Vals xs its/\h.get? a=some { cls:=.type "list", data:=.seq its.toArray n }
 | .tup xs=>xs.length<=sizeLine/\∃its:List Value,Vals xs its/\IsTup h a its.toArray
 | .dK kvs=>kvs.length<=sizeLine/\(a==sysModules)=false/\∃vs,KV kvs vs/\h.DictOf (bK P w) a vs
 | .dT kvs=>kvs.length<=sizeLine/\(a==sysModules)=false/\∃xs:List (List Key×Addr×Value),
   Paired (λ(p:List Key×V)(q:List Key×Addr×Value)=>p.1=q.1/\H q.2.1=some (.tup (p.1.map kV))/\RelV p.2 q.2.2) kvs xs /\
   ∃o es ep,h.get? a=some o/\o.ExactDict/\o.data=.dict es ep/\es.toList=xs.map (entryOfKey (tupleKind (bK P w)))/\(xs.map (·.1)).Nodup
 | .set S n=>h.SetOf (intKind P w) a S n
 | .ins C dx fs=>H dx=some (.own a)/\fs.length<=1000/\dx≠a/\h.get? a=some (PySem.W.instObj C dx) /\
   ∃mA,h.Ns1 dx mA/\(∀f,lz (fs.lookup f) (mA f))/\PySem.Within mA (fs.map (·.1))
 | .own _=>∃o,h.get? a=some o
 | .xd fs=>∃mA,h.Ns1 a mA/\∀f,lz (fs.lookup f) (mA f)
 | .WD lo hi=>∃t u v,h.get? a=some { cls:=.type "range", data:=.fields #[.int lo t,.int hi u,.int 1 v] }
 | .CB o u=>h.get? a=some o/\cZ H h a u
 | .ON ps=>h.get? a=some { cls:=.none,data:=.fields ps }
 | .met f x=>h.get? a=some (PySem.W.methodObj (.ref f) (.ref x))
 | .ext φ=>φ h/\(∃o,h.get? a=some o)/\∀h1 h2:Heap,φ h1->(∀o,h1.get? a=some o->h2.get? a=some o)->φ h2
def ng(H:Hp)(h:Heap):Prop:=∀a o,H a=some o->cZ P w H h a o
end
section
variable {P:Program}{w:World}{H H':Hp}{h h':Heap}{a:Addr}{o:HO}
theorem cZ.lt(x:cZ P w H h a o):a<h.objs.size:=by
 cases o with
 | lst xs=>obtain⟨_,_,_,_,e⟩:=x;exact aK e
 | tup xs=>obtain⟨_,_,_,p⟩:=x;exact p.lt
 | dK kvs=>obtain⟨_,_,_,_,o,_,_,e,_⟩:=x;exact aK e
 | dT kvs=>obtain⟨_,_,_,_,o,_,_,e,_⟩:=x;exact aK e
 | set S n=>obtain⟨o,_,_,_,e,_⟩:=x;exact aK e
 | ins C dx fs=>obtain⟨_,_,_,e,_⟩:=x;exact aK e
 | own y=>obtain⟨_,e⟩:=x;exact aK e
 | xd fs=>obtain⟨_,⟨_,_,_,e,_⟩,_⟩:=x;exact aK e
 | WD lo hi=>obtain⟨_,_,_,e⟩:=x;exact aK e
 | CB ob u=>obtain⟨e,_⟩:=x;exact aK e
 | ON ps=>exact aK (show h.get? a=some _ from x)
 | met f y=>exact aK (show h.get? a=some _ from x)
 | ext φ=>obtain⟨_,⟨_,e⟩,_⟩:=x;exact aK e
theorem Paired.Ez{α β:Type}{F G:α->β->Prop}:∀{l₁:List α}{l₂:List β},Paired F l₁ l₂->(∀a b,F a b->G a b)->Paired G l₁ l₂
 | _,_,.nil,_=>.nil
 | _,_,.cons r t,f=>.cons (f _ _ r) (Paired.Ez t f)
def cZ.stay(x:cZ P w H h a o)(k:∀b u,(b=a\/H b=some (.own a))->h.get? b=some u->h'.get? b=some u)
  (ho:∀b,H b=some (.own a)->H' b=some (.own a))(ht:∀b xs,H b=some (.tup xs)->H' b=some (.tup xs)):cZ P w H' h' a o:=by
 induction o with
 | lst xs=>obtain⟨z,its,n,r,e⟩:=x;exact⟨z,its,n,r,k _ _ (.inl rfl) e⟩
 | tup xs=>obtain⟨z,its,r,ob,e,c⟩:=x;exact⟨z,its,r,ob,k _ _ (.inl rfl) e,c⟩
 | dK kvs=>obtain⟨z,y,vs,r,ob,es,ep,e,c⟩:=x;exact⟨z,y,vs,r,ob,es,ep,k _ _ (.inl rfl) e,c⟩
 | dT kvs =>
  obtain⟨z,y,xs,r,ob,es,ep,e,c⟩:=x;exact⟨z,y,xs,Paired.Ez r λp q z=>⟨z.1,ht _ _ z.2.1,z.2.2⟩,ob,es,ep,k _ _ (.inl rfl) e,c⟩
 | set S n=>obtain⟨ob,es,ep,t,e,c⟩:=x;exact⟨ob,es,ep,t,k _ _ (.inl rfl) e,c⟩
 | ins C dx fs =>
  obtain⟨d,z,ne,e,mA,⟨od,es,ep,e2,c⟩,r⟩:=x;exact⟨ho _ d,z,ne,k _ _ (.inl rfl) e,mA,⟨od,es,ep,k _ _ (.inr d) e2,c⟩,r⟩
 | own y=>obtain⟨ob,e⟩:=x;exact⟨ob,k _ _ (.inl rfl) e⟩
 | xd fs=>obtain⟨mA,⟨od,es,ep,e,c⟩,r⟩:=x;exact⟨mA,⟨od,es,ep,k _ _ (.inl rfl) e,c⟩,r⟩
 | WD lo hi=>obtain⟨t,u,v,e⟩:=x;exact⟨t,u,v,k _ _ (.inl rfl) e⟩
 | CB ob u ih=>obtain⟨e,q⟩:=x;exact⟨k _ _ (.inl rfl) e,ih q⟩
 | ON ps =>
  have e:h.get? a=some { cls:=.none,data:=.fields ps }:=x;show h'.get? a=some { cls:=.none,data:=.fields ps };exact k a _ (.inl rfl) e
 | met f y =>
  have e:h.get? a=some (PySem.W.methodObj (.ref f) (.ref y)):=x;show h'.get? a=some (PySem.W.methodObj (.ref f) (.ref y));exact k a _ (.inl rfl) e
 | ext φ=>obtain⟨p,⟨o,e⟩,st⟩:=x;exact⟨st _ _ p λo q=>k _ _ (.inl rfl) q,⟨o,k _ _ (.inl rfl) e⟩,st⟩
theorem ng.lt(x:ng P w H h)(e:H a=some o):a<h.objs.size:=(x a o e).lt
def ng.fresh(x:ng P w H h)(e:h.objs.size<=a):H a=none:=by
 cases q:H a with
 | none=>rfl
 | some u=>exact absurd (bS (x.lt q) e) (fZ _)
def ng.kept(x:ng P w H h)(k:∀b u,h.get? b=some u->h'.get? b=some u):ng P w H h':=λa o e =>
 (x a o e).stay (λb u _ q=>k b u q) (λ_ q=>q) λ_ _ q=>q
def ng.laid(x:ng P w H h)(k:∀b u,h.get? b=some u->h'.get? b=some u)(hp:h.objs.size<=a)(new:cZ P w (upd H a o) h' a o):ng P w (upd H a o) h':=λb u e=>by
 have hn:=x.fresh hp;by_cases hb:b=a
 .subst hb;rw[jU] at e;cases e;exact new
 .rw[ck hb] at e;exact(x b u e).stay (λc v _ q=>k c v q) (λc q=>by rw[ck (aW q hn)];exact q) λc xs q=>by rw[ck (aW q hn)];exact q
end
def Rd(H:Hp)(a:Addr)(u:HO):Prop:=H a=some u\/∃o,H a=some (.CB o u)
def Rd.of{u:HO}(h:H a=some u):Rd H a u:=.inl h
def Rd.ok{u:HO}(r:Rd H a u)(x:ng P w H h):cZ P w H h a u:=by
 rcases r with r|⟨o,r⟩
 .exact x a u r
 .obtain⟨_,q⟩:=x a _ r;exact q
def RS:Option HO->Prop
 | some (.lst _)=>True
 | some (.dK _)=>True
 | some (.dT _)=>True
 | some (.set _ _)=>True
 | some (.ins _ _ _)=>True
 | some (.ext _)=>True
 | _=>False
section
variable {P:Program}{w:World}{H:Hp}{h h':Heap}{x e:Addr}{o':HO}
def ng.write(ok:ng P w H h)(mu:RS (H x))(he:e=x\/H e=some (.own x))(k:∀b u,b≠e->h.get? b=some u->h'.get? b=some u)(Rr:∃u,h'.get? e=some u)
  (new:cZ P w (upd H x o') h' x o'):ng P w (upd H x o') h':=λb u q=>by
 have RT:∀c y,H c=some (.own y)->c≠x:=λc y r z=>by subst z;rw[r] at mu;exact mu
 have WE:∀c xs,H c=some (.tup xs)->c≠x:=λc xs r z=>by subst z;rw[r] at mu;exact mu
 by_cases hb:b=x
 .subst hb;rw[jU] at q;cases q;exact new
 .rw[ck hb] at q;by_cases OO:b=e
  .have q':H b=some (.own x):=by
    rcases he with z|z
    .exact absurd (OO.trans z) hb
    .rw[OO];exact z
   rw[q] at q';cases q';obtain⟨v,hv⟩:=Rr;exact⟨v,by rw[OO];exact hv⟩
  .refine(ok b u q).stay (λc v hc r=>k c v ?_ r) (λc r=>by rw[ck (RT c b r)];exact r) λc xs r=>by rw[ck (WE c xs r)];exact r
   rcases hc with rfl|hc
   .exact OO
   .rintro rfl;rcases he with z|z
    .exact RT c b hc z
    .rw[hc] at z;cases z;exact hb rfl
end
structure Un (fs ex:List Addr) (H H':Hp) (h h':Heap):Prop where
 keep:∀b o,h.get? b=some o->H b=none->b∉fs->b∉ex->h'.get? b=some o
 slot:∀b o,h.get? b=some o->H b=none->b∈fs->b∉ex->∃sl,h'.get? b=some { o with slots:=sl }
 free:∀b o,h.get? b=some o->H b=none->b∉ex->H' b=none
 there:∀b o,h.get? b=some o->b∉ex->∃o',h'.get? b=some o'
 tups:∀b xs,H b=some (.tup xs)->H' b=some (.tup xs)
 pL:∀b o u,H b=some (.CB o u)->H' b=some (.CB o u)
 qC:∀b ps,H b=some (.ON ps)->∃more,H' b=some (.ON (ps++more))
section
variable {fs fs' ex ex':List Addr}{H H1 H2:Hp}{h h1 h2 h':Heap}{a x e:Addr}{o:HO}
def Un.any(u:Un fs ex H H1 h h1){ob:Obj}(q:h.get? b=some ob)(n:H b=none)(hx:b∉ex):∃sl,h1.get? b=some { ob with slots:=sl }:=by
 by_cases hb:b∈fs
 .exact u.slot b ob q n hb hx
 .exact⟨ob.slots,u.keep b ob q n hb hx⟩
def Un.trans(a:Un fs ex H H1 h h1)(b:Un fs ex H1 H2 h1 h2):Un fs ex H H2 h h2 where
 keep:=λc ob q n hc hx=>b.keep c ob (a.keep c ob q n hc hx) (a.free c ob q n hx) hc hx
 slot:=λc ob q n hc hx=>by obtain⟨sl,e1⟩:=a.slot c ob q n hc hx;obtain⟨Gy,e2⟩:=b.slot c _ e1 (a.free c ob q n hx) hc hx;exact⟨Gy,e2⟩
 free:=λc ob q n hx=>by obtain⟨o',e1⟩:=a.there c ob q hx;exact b.free c o' e1 (a.free c ob q n hx) hx
 there:=λc ob q hx=>by obtain⟨o',e1⟩:=a.there c ob q hx;exact b.there c o' e1 hx
 tups:=λc xs q=>b.tups c xs (a.tups c xs q)
 pL:=λc ob xs q=>b.pL c ob xs (a.pL c ob xs q)
 qC:=λc ps q=>by obtain⟨m1,e1⟩:=a.qC c ps q;obtain⟨m2,e2⟩:=b.qC c _ e1;exact⟨m1++m2,by rw[e2,Array.append_assoc]⟩
def Un.kept(k:∀b u,h.get? b=some u->h'.get? b=some u):Un fs ex H H h h' :=
 ⟨λb ob q _ _ _=>k b ob q,λb ob q _ _ _=>⟨ob.slots,k b ob q⟩,λ_ _ _ n _=>n,λb ob q _=>⟨ob,k b ob q⟩,λ_ _ q=>q,λ_ _ _ q=>q,λ_ ps q=>⟨#[],by rw[q];simp⟩⟩
def Un.refl:Un fs ex H H h h:=Un.kept λ_ _ q=>q
def Un.laid(k:∀b u,h.get? b=some u->h'.get? b=some u)(hp:h.objs.size<=a)(hn:H a=none):Un fs ex H (upd H a o) h h' where
 keep:=λb u q _ _ _=>k b u q
 slot:=λb u q _ _ _=>⟨u.slots,k b u q⟩
 free:=λb u q n _=>by rw[ck (aQ (bS (aK q) hp))];exact n
 there:=λb u q _=>⟨u,k b u q⟩
 tups:=λb xs q=>by rw[ck (aW q hn)];exact q
 pL:=λb u xs q=>by rw[ck (aW q hn)];exact q
 qC:=λb ps q=>⟨#[],by rw[ck (aW q hn),q];simp⟩
def Un.write(mu:RS (H x))(he:e=x\/H e=some (.own x))(k:∀b u,b≠e->h.get? b=some u->h'.get? b=some u)(Rr:∃u,h'.get? e=some u):Un fs ex H (upd H x o) h h':=by
 have hx:∀b,H b=none->b≠x:=λb n z=>by subst z;rw[n] at mu;exact mu
 have hb:∀b,H b=none->b≠e:=λb n z=>by
  subst z;rcases he with r|r
  .exact hx b n r
  .rw[n] at r;cases r
 have hm:∀b u,H b=some u->¬RS (some u)->b≠x:=λb u q nm z=>by subst z;rw[q] at mu;exact nm mu
 refine⟨λb u q n _ _=>k b u (hb b n) q,λb u q n _ _=>⟨u.slots,k b u (hb b n) q⟩,λb u q n _=>by rw[ck (hx b n)];exact n,λb u q _=>?_,
  λb xs q=>by rw[ck (hm b _ q λz=>z)];exact q,λb u xs q=>by rw[ck (hm b _ q λz=>z)];exact q,λb ps q=>⟨#[],by rw[ck (hm b _ q λz=>z),q];simp⟩⟩
 by_cases OO:b=e
 .subst OO;exact Rr
 .exact⟨u,k b u OO q⟩
def Un.mono(u:Un fs ex H H1 h h1)(hs:∀b∈fs,b∈fs')(hx:∀b∈ex,b∈ex'):Un fs' ex' H H1 h h1 :=
 ⟨λb ob q n hb he=>u.keep b ob q n (λz=>hb (hs b z)) λz=>he (hx b z),λ_ _ q n _ he=>u.any q n λz=>he (hx _ z),λb ob q n he=>u.free b ob q n λz=>he (hx b z),λb ob q he=>u.there b ob q λz=>he (hx b z),u.tups,u.pL,u.qC⟩
end
def Vv(h:Heap)(H:Hp):List Addr:=(List.range h.objs.size).filter λa=>(H a).isSome
def wz(h:Heap)(H:Hp):Heap:=PySem.W.hideAll h (Vv h H)
def EA(h:Heap)(H:Hp):(wz h H).objs.size=h.objs.size:=PySem.W.hideAll_size _ _
def GD{o:Obj}(e:h.get? b=some o)(n:H b=none):(wz h H).get? b=some o :=
 PySem.W.hideAll_get _ e λhm=>by have q:(H b).isSome=true:=(dM.mp hm).2;rw[n] at q;simp at q
def K3{o:Obj}(e:(wz h H).get? b=some o):h.get? b=some o/\H b=none:=by
 have e':h.get? b=some o:=PySem.W.of_hideAll (Vv h H) e;refine⟨e',?_⟩;cases q:H b with
 | none=>rfl
 | some x =>
  have hm:b∈Vv h H:=dM.mpr ⟨fX.mpr (aK e'),by simp[q]⟩;have z:(wz h H).get? b=none:=PySem.W.hideAll_none (Vv h H) hm;rw[z] at e;cases e
def K4(g h:Heap)(L:Addr):List (Addr×Obj):=(List.range h.objs.size).filterMap λa=>if a=L\/(g.get? a).isSome=true then none else(h.get? a).map λo=>(a,o)
def rest(g h:Heap)(L d:Addr):List (Addr×Obj):=(K4 g h L).filter λp=>decide (p.1≠d)
structure Mod (K:aD) (mg:Str->Option Value) (base:Heap):Prop where
 RU:K.In base
 glob:base.Ns mainGlobals mg
 blt:∃mb,base.Ns builtinsNs mb/\∀x:Str,x ≠ "__name__" -> mb x=bootBuiltins x
 nolimit:base.NoLimit
structure Cx where
 prog:Program
 w:World
 K:aD
 mg:Str->Option Value
 base:Heap
 A:Around
 N:List Str
 s₀:Shared
 H₀:Hp
 env:Env
 outer:List Env
 stack:List Env
 ex:List Addr
 fn:Str->Bool
 calm:Bool
 pn:List (Addr×Obj)
 xe:Value->Shared->Prop
def frs(l:List Env):List Addr:=l.filterMap (·.frame)
abbrev Cx.fs(X:Cx):List Addr:=frs X.outer
def Vw(sc:Scope)(x:Str):Prop:=sc.names.lookup x=some .local\/sc.names.lookup x=some .cell\/sc.names.lookup x=some .free
def Loc(sc:Scope)(x:Str):Prop:=sc.names.lookup x=some .local\/sc.names.lookup x=some .cell
def Look(env:Env)(h:Heap)(m:Str->Option Value)(x:Str)(u:Value):Prop :=
 (env.kindOf x=some .local/\m x=some u)\/((env.kindOf x=some .cell\/env.kindOf x=some .free)/\∃c,env.cells.lookup x=some c/\h.IsCell c (some u))
structure Cx.Ok (X:Cx):Prop where
 mod:Mod X.K X.mg X.base
 kind:X.env.scope.kind=.function
 glob:X.env.globals=mainGlobals
 blt:X.env.builtins=builtinsNs
 above:X.s₀.heap.objs.size<=X.env.locals
 inj:∀x y c,X.env.cells.lookup x=some c->X.env.cells.lookup y=some c->x=y
 has:∀x,(X.env.kindOf x=some .cell\/X.env.kindOf x=some .free)->∃c,X.env.cells.lookup x=some c
 RW:∀x c,X.fn x=true->X.env.cells.lookup x=some c->X.s₀.heap.objs.size<=c
 hd:X.calm=true->X.A.handled=none
 frames:X.A.frames=some X.stack
 stk:X.stack=X.outer\/(X.stack=X.env::X.outer/\X.env.frame=some X.env.locals)
 ZY:∀b∈X.ex,b≠X.env.locals/\∀x c,X.env.cells.lookup x=some c->c≠b
 bs:∀b o,X.base.get? b=some o->X.s₀.heap.get? b=some o/\X.H₀ b=none
 KD:X.base.objs.size<=X.s₀.heap.objs.size
 EB:∀b o,X.base.get? b=some o->b∉X.ex
 EC:∀b∈X.ex,b∉X.fs
 qD:X.s₀.heap.FunFrames X.base X.outer
 OP:∀b∈X.fs,X.H₀ b=none
structure Inv (X:Cx) (pins:List (Addr×Obj)) (σ:List (Option V)) (H:Hp) (s:Shared):Prop where
 ok:X.Ok
 os:s.os=X.s₀.os
 bare:AllBare s.gens
 base:Un X.fs X.ex X.H₀ H X.s₀.heap s.heap
 loc:∃m,s.heap.Ns X.env.locals m/\∀(i:Nat)(x:Str)(v:V),X.N[i]?=some x->σ[i]?=some (some v)->Vw X.env.scope x->∃u,RelV v u/\Look X.env s.heap m x u
 cell:∀x c,X.env.cells.lookup x=some c->∃v,s.heap.IsCell c v
 free:H X.env.locals=none
 kP:∀x c,X.env.cells.lookup x=some c->H c=none
 pin:∀p∈X.pn++pins,s.heap.get? p.1=some p.2/\H p.1=none/\p.1≠X.env.locals/\p.1∉X.fs/\∀v,p.2.data≠.cell v
 hok:ng X.prog X.w H s.heap
 len:σ.length=X.N.length
section
variable {X:Cx}{pins:List (Addr×Obj)}{σ:List (Option V)}{H H':Hp}{s:Shared}{h':Heap}
def Cx.Ok.WG(ok:X.Ok){o:Obj}(e:X.base.get? b=some o):b∉X.fs:=λhb=>by have:=(ok.qD.mem hb).1;rw[e] at this;cases this
theorem Inv.bs(I:Inv X pins σ H s):∀b o,X.base.get? b=some o->s.heap.get? b=some o/\H b=none:=λb o e =>
 ⟨I.base.keep b o (I.ok.bs b o e).1 (I.ok.bs b o e).2 (I.ok.WG e) (I.ok.EB b o e),I.base.free b o (I.ok.bs b o e).1 (I.ok.bs b o e).2 (I.ok.EB b o e)⟩
def Inv.bk(I:Inv X pins σ H s):∀b o,X.base.get? b=some o->s.heap.get? b=some o:=λb o e=>(I.bs b o e).1
theorem Inv.mod(I:Inv X pins σ H s):Mod X.K X.mg X.base:=I.ok.mod
def Inv.wA(I:Inv X pins σ H s):X.K.In s.heap:=I.ok.mod.RU.keeps I.bk
theorem Inv.nolimit(I:Inv X pins σ H s):s.heap.NoLimit:=I.ok.mod.nolimit.keeps I.bk
def Inv.fr(I:Inv X pins σ H s):∃m,Fr X.base X.env.locals s.heap m :=
 let⟨m,hn,_⟩:=I.loc
 ⟨m,hn,I.bk,bJ I.ok.KD I.ok.above⟩
theorem Inv.lt(I:Inv X pins σ H s):X.env.locals<s.heap.objs.size:=let⟨_,hn,_⟩:=I.loc;hn.lt
def Inv.sz(I:Inv X pins σ H s):X.s₀.heap.objs.size<=s.heap.objs.size:=bJ I.ok.above (jK I.lt)
def Inv.OQ(I:Inv X pins σ H s)(h:s.heap.objs.size<=a):a∉X.fs:=λhb=>by obtain⟨_,o,ho,_⟩:=I.ok.qD.mem hb;exact absurd (bS (aK ho) (bJ I.sz h)) (fZ _)
def Inv.OR(I:Inv X pins σ H s):∀x c,X.env.cells.lookup x=some c->c≠X.env.locals:=λx c e z=>by obtain⟨v,o,ho,hd⟩:=I.cell x c e;obtain⟨m,⟨o',es,ep,ho',hd',_⟩,_⟩:=I.loc;rw[z,ho'] at ho;cases ho;rw[hd'] at hd;cases hd
theorem Inv.qD(I:Inv X pins σ H s):s.heap.FunFrames X.base X.outer:=by
 have all:∀(l:List Env),(∀b∈frs l,b∈X.fs)->X.s₀.heap.FunFrames X.base l->s.heap.FunFrames X.base l:=by
  intro l;induction l with
  | nil=>intro _ _;trivial
  | cons env r ih =>
   intro hs hl;obtain⟨hk,⟨L,o,hf,hn,ho,hd⟩,hr⟩:=hl;have hL:L∈X.fs:=hs L (by unfold frs;rw[List.filterMap_cons,hf];exact i9);obtain⟨sl,e⟩:=I.base.slot L o ho (I.ok.OP L hL) hL λz=>I.ok.EC L z hL;exact⟨hk,⟨L,_,hf,hn,e,hd⟩,ih (λb hb=>hs b (by unfold frs;rw[List.filterMap_cons,hf];exact dg _ hb)) hr⟩
 exact all X.outer (λ_ hb=>hb) I.ok.qD
theorem Inv.stack(I:Inv X pins σ H s):s.heap.FunFrames X.base X.stack:=by
 rcases I.ok.stk with e|⟨e,hf⟩
 .rw[e];exact I.qD
 .rw[e];obtain⟨m,hn,_⟩:=I.loc;refine .cons (by rw[I.ok.kind];decide) hf hn ?_ I.qD;exact Heap.get?_none_of_le (bJ I.ok.KD I.ok.above)
def Inv.wB(I:Inv X pins σ H s):∀b∈frs X.stack,b∈X.env.locals::X.fs:=λb hb=>by
 rcases I.ok.stk with e|⟨e,hf⟩
 .rw[e] at hb;exact dg _ hb
 .rw[e] at hb;unfold frs at hb;rw[List.filterMap_cons,hf] at hb;exact hb
def Inv.wC(I:Inv X pins σ H s):∀b∈frs X.stack,H b=none:=λb hb=>by
 rcases aI.mp (I.wB b hb) with e|hb
 .rw[e];exact I.free
 .obtain⟨_,o,ho,_⟩:=I.ok.qD.mem hb;exact I.base.free b o ho (I.ok.OP b hb) λz=>I.ok.EC b z hb
def Inv.step{g':Array GenState}{d':Drawn}(I:Inv X pins σ H s)
  (hch:∀b∈ch,(b∈X.ex\/X.s₀.heap.objs.size<=b)/\b≠X.env.locals/\(∀x c,X.env.cells.lookup x=some c->c≠b)/\∀p∈X.pn++pins,p.1≠b)
  (keep:∀b o,b≠X.env.locals->b∉X.fs->b∉ch->s.heap.get? b=some o->H b=none->h'.get? b=some o)
  (slot:∀b o,b≠X.env.locals->b∈X.fs->b∉ch->s.heap.get? b=some o->H b=none->∃sl,h'.get? b=some { o with slots:=sl })(free:∀b o,b∉ch->s.heap.get? b=some o->H b=none->H' b=none)
  (there:∀b o,b∉ch->s.heap.get? b=some o->∃o',h'.get? b=some o')
  (tups:∀b xs,H b=some (.tup xs)->H' b=some (.tup xs))(pL:∀b o u,H b=some (.CB o u)->H' b=some (.CB o u))(qC:∀b ps,H b=some (.ON ps)->∃more,H' b=some (.ON (ps++more)))
  (ns:∀m,s.heap.Ns X.env.locals m->h'.Ns X.env.locals m)(hok:ng X.prog X.w H' h')(hg:AllBare g'):
  Inv X pins σ H' { s with heap:=h',gens:=g',drawn:=d',toks:=t' }:=by
 have ZZ:∀b o,X.s₀.heap.get? b=some o->b≠X.env.locals:=λb o e=>aQ (bS (aK e) I.ok.above);have Vx:∀b o,X.s₀.heap.get? b=some o->b∉X.ex->b∉ch:=λb o e hx hb=>by
  rcases(hch b hb).1 with z|z
  .exact hx z
  .exact absurd (bS (aK e) z) (fZ _)
 have cellK:∀x c,X.env.cells.lookup x=some c->∀v,s.heap.IsCell c v->h'.IsCell c v:=λx c e v ⟨o,ho,hd⟩=>by
  have RX:c∉ch:=λz=>(hch c z).2.2.1 x c e rfl;by_cases hc:c∈X.fs
  .obtain⟨sl,q⟩:=slot c o (I.OR x c e) hc RX ho (I.kP x c e);exact⟨_,q,hd⟩
  .exact⟨o,keep c o (I.OR x c e) hc RX ho (I.kP x c e),hd⟩
 refine⟨I.ok,I.os,hg,⟨λb o e n hb hx=>?_,λb o e n hb hx=>?_,λb o e n hx=>?_,λb o e hx=>?_,λb xs e=>tups b xs (I.base.tups b xs e),λb o xs e=>pL b o xs (I.base.pL b o xs e),λb ps e=>?_⟩,?_,λx c e=>?_,?_,λx c e=>?_,λp hp=>?_,hok,I.len⟩
 .exact keep b o (ZZ b o e) hb (Vx b o e hx) (I.base.keep b o e n hb hx) (I.base.free b o e n hx)
 .obtain⟨sl,e1⟩:=I.base.slot b o e n hb hx;obtain⟨Gy,e2⟩:=slot b _ (ZZ b o e) hb (Vx b o e hx) e1 (I.base.free b o e n hx);exact⟨Gy,e2⟩
 .obtain⟨o',e1⟩:=I.base.there b o e hx;exact free b o' (Vx b o e hx) e1 (I.base.free b o e n hx)
 .obtain⟨o',e1⟩:=I.base.there b o e hx;exact there b o' (Vx b o e hx) e1
 .obtain⟨m1,e1⟩:=I.base.qC b ps e;obtain⟨m2,e2⟩:=qC b _ e1;exact⟨m1++m2,by rw[e2,Array.append_assoc]⟩
 .obtain⟨m,hn,hl⟩:=I.loc;refine⟨m,ns m hn,λi x v e1 e2 e3=>?_⟩;obtain⟨u,r,l⟩:=hl i x v e1 e2 e3;refine⟨u,r,?_⟩;rcases l with l|⟨k,c,e,z⟩
  .exact .inl l
  .exact .inr ⟨k,c,e,cellK x c e _ z⟩
 .obtain⟨v,z⟩:=I.cell x c e;exact⟨v,cellK x c e v z⟩
 .obtain⟨m,⟨o,_,_,ho,_⟩,_⟩:=I.loc;exact free _ o (λz=>(hch _ z).2.1 rfl) ho I.free
 .obtain⟨v,o,ho,hd⟩:=I.cell x c e;exact free c o (λz=>(hch c z).2.2.1 x c e rfl) ho (I.kP x c e)
 .obtain⟨e,n,ne,nf,d⟩:=I.pin p hp;have RX:p.1∉ch:=λz=>(hch p.1 z).2.2.2 p hp rfl;exact⟨keep p.1 p.2 ne nf RX e n,free p.1 p.2 RX e n,ne,nf,d⟩
def Inv.un(I:Inv X pins σ H s)(u:Un X.fs [] H H' s.heap h')(hok:ng X.prog X.w H' h'):Inv X pins σ H' { s with heap:=h',toks:=t' }:=by
 obtain⟨m,⟨o,es,ep,ho,r⟩,_⟩:=id I.loc;obtain⟨sl,hL⟩:=u.any ho I.free (by simp);exact I.step (g':=s.gens) (d':=s.drawn) (ch:=[]) (λ_ z=>nomatch z) (λb o _ hb _ e n=>u.keep b o e n hb (by simp)) (λb o _ hb _ e n=>u.slot b o e n hb (by simp)) (λb o _ e n=>u.free b o e n (by simp)) (λb o _ e=>u.there b o e (by simp)) u.tups u.pL u.qC (λm' hm=>by
  obtain⟨o',es',qk,ho',r'⟩:=hm;rw[ho] at ho';cases ho';exact⟨_,es',qk,hL,r'⟩) hok I.bare
def Inv.call{g':Array GenState}{d':Drawn}(I:Inv X pins σ H s)(u:Un (frs X.stack) ch H H' s.heap h')(hok:ng X.prog X.w H' h')(hg:AllBare g')
  (hch:∀b∈ch,(b∈X.ex\/X.s₀.heap.objs.size<=b)/\b≠X.env.locals/\(∀x c,X.env.cells.lookup x=some c->c≠b)/\∀p∈X.pn++pins,p.1≠b):
  Inv X pins σ H' { s with heap:=h',gens:=g',drawn:=d',toks:=t' }:=by
 obtain⟨m,⟨o,es,ep,ho,r⟩,_⟩:=id I.loc;obtain⟨sl,hL⟩:=u.any ho I.free λz=>(hch _ z).2.1 rfl;exact I.step (ch:=ch) hch (λb o hL hb hc e n=>u.keep b o e n (λz=>(aI.mp (I.wB b z)).elim hL hb) hc) (λb o _ _ hc e n=>u.any e n hc) (λb o hc e n=>u.free b o e n hc) (λb o hc e=>u.there b o e hc) u.tups u.pL u.qC (λm' hm=>by
  obtain⟨o',es',qk,ho',r'⟩:=hm;rw[ho] at ho';cases ho';exact⟨_,es',qk,hL,r'⟩) hok hg
def Inv.turned{it:Addr}(I:Inv X pins σ H s)(k:∀b o,b≠it->s.heap.get? b=some o->h'.get? b=some o)(hn:H it=none)(hL:it≠X.env.locals)
  (h1:it∈X.ex\/X.s₀.heap.objs.size<=it)(h2:∀x c,X.env.cells.lookup x=some c->c≠it)(h3:∀p∈X.pn++pins,p.1≠it):Inv X pins σ H { s with heap:=h',toks:=t' }:=by
 have RY:∀b u,H b=some u->b≠it:=λb u e z=>by rw[z,hn] at e;cases e
 refine I.step (g':=s.gens) (d':=s.drawn) (ch:=[it]) (λb hb=>?_) (λb o _ _ hc e _=>k b o (λz=>hc (by simp[z])) e) (λb o _ _ hc e _=>⟨o.slots,k b o (λz=>hc (by simp[z])) e⟩) (λ_ _ _ _ n=>n)
  (λb o hc e=>⟨o,k b o (λz=>hc (by simp[z])) e⟩) (λ_ _ e=>e) (λ_ _ _ e=>e) (λb ps e=>⟨#[],by rw[e];simp⟩) (λm hm=>?_) (λb u e=>?_) I.bare
 .have e:b=it:=by simpa using hb
  subst e;exact⟨h1,hL,h2,h3⟩
 .obtain⟨o,es,ep,ho,r⟩:=hm;exact⟨o,es,ep,k _ o (bA hL) ho,r⟩
 .refine(I.hok b u e).stay (λc v hc q=>k c v ?_ q) (λ_ q=>q) λ_ _ q=>q;rcases hc with z|z
  .rw[z];exact RY b u e
  .exact RY c _ z
def Inv.tok(I:Inv X pins σ H s)(t:Nat):Inv X pins σ H { s with toks:=t }:=I.un (h':=s.heap) (t':=t) Un.refl I.hok
theorem Inv.kept(I:Inv X pins σ H s)(k:∀b u,s.heap.get? b=some u->h'.get? b=some u):Inv X pins σ H { s with heap:=h',toks:=t' }:=I.un (Un.kept k) (I.hok.kept k)
theorem Inv.laid(I:Inv X pins σ H s)(k:∀b u,s.heap.get? b=some u->h'.get? b=some u)(hp:s.heap.objs.size<=a)(new:cZ X.prog X.w (upd H a o) h' a o):
  Inv X pins σ (upd H a o) { s with heap:=h',toks:=t' }:=I.un (Un.laid k hp (I.hok.fresh hp)) (I.hok.laid k hp new)
theorem Inv.write{x e:Addr}(I:Inv X pins σ H s)(mu:RS (H x))(he:e=x\/H e=some (.own x))(k:∀b u,b≠e->s.heap.get? b=some u->h'.get? b=some u)(Rr:∃u,h'.get? e=some u)
  (new:cZ X.prog X.w (upd H x o) h' x o):Inv X pins σ (upd H x o) { s with heap:=h',toks:=t' }:=I.un (Un.write mu he k Rr) (I.hok.write mu he k Rr new)
def Inv.lZ{M3:List (Addr×Obj)}(I:Inv X pins σ H s)(h:∀p∈M3,s.heap.get? p.1=some p.2/\H p.1=none/\p.1≠X.env.locals/\p.1∉X.fs/\∀v,p.2.data≠.cell v):Inv X M3 σ H s :=
 ⟨I.ok,I.os,I.bare,I.base,I.loc,I.cell,I.free,I.kP,λp hp=>(aO.mp hp).elim (λz=>I.pin p (mZ _ z)) (h p),I.hok,I.len⟩
def yi(hN:N.Nodup){j:Nat}(a:N[i]?=some x)(b:N[j]?=some x):i=j:=by obtain⟨h1,e1⟩:=fu a;obtain⟨h2,e2⟩:=fu b;exact(rR hN).mp (e1.trans e2.symm)
def pM(I:Inv X pins σ H s)(hN:X.N.Nodup)(hi:X.N[i]?=some x)(hx:Loc X.env.scope x)(r:RelV v u)
  (h:∀s',Inv X pins (σ.set i (some v)) H s'->(∃a,Heap.SameBut a s.heap s'.heap/\(a=X.env.locals\/X.env.cells.lookup x=some a))->Q () s')(hf:X.fn x=true\/X.env.scope.names.lookup x=some .local:=by first|exact .inl rfl|exact .inr rfl|assumption):wpAny M A (storeName X.env x u) Q E s:=by
 obtain⟨m,hn,hl⟩:=id I.loc;have hcls:(X.env.scope.kind==.class||(X.env.scope.kind==.module&&X.env.locals != X.env.globals))=false:=by rw[I.ok.kind];rfl
 have Z0:i<σ.length:=by rw[I.len];exact(fu hi).1
 have OR:=I.OR;have tracked:∀{a:Addr}{h':Heap},(∃o,s.heap.get? a=some o/\H a=none)->Heap.SameBut a s.heap h'->ng X.prog X.w H h':=λ{a h'} ha hs b ob e=>by
  obtain⟨_,_,hfree⟩:=ha;refine(I.hok b ob e).stay (λc w' hc q=>(hs.2 c ?_).trans q) (λ_ q=>q) λ_ _ q=>q;rintro rfl;rcases hc with rfl|hc
  .rw[hfree] at e;cases e
  .rw[hfree] at hc;cases hc
 rcases hx with hk|hk
 .refine wpAny_storeName_local hk hn (λh' hn' hs=>?_) hcls;obtain⟨oL,_,_,hoL,_⟩:=id hn;refine h _ ⟨I.ok,I.os,I.bare,⟨λb o e n hb hx=>?_,λb o e n hb hx=>?_,I.base.free,λb o e hx=>?_,I.base.tups,I.base.pL,I.base.qC⟩,⟨_,hn',λj y v' e1 e2 e3=>?_⟩,λy c e=>?_,I.free,I.kP,λp hp=>?_,tracked ⟨oL,hoL,I.free⟩ hs,by simpa using I.len⟩ ⟨_,hs,.inl rfl⟩
  .exact(hs.2 b (aQ (bS (aK e) I.ok.above))).trans (I.base.keep b o e n hb hx)
  .obtain⟨sl,e1⟩:=I.base.slot b o e n hb hx;exact⟨sl,(hs.2 b (aQ (bS (aK e) I.ok.above))).trans e1⟩
  .obtain⟨o',e1⟩:=I.base.there b o e hx;exact⟨o',(hs.2 b (aQ (bS (aK e) I.ok.above))).trans e1⟩
  .by_cases hj:j=i
   .subst hj;rw[hi] at e1;cases e1;rw[List.getElem?_set_self Z0] at e2;cases e2;exact⟨u,r,.inl ⟨hk,by simp⟩⟩
   .rw[pH (bA hj)] at e2;obtain⟨u',r',q⟩:=hl j y v' e1 e2 e3;refine⟨u',r',?_⟩;rcases q with⟨k,e⟩|⟨k,c,e,z⟩
    .refine .inl ⟨k,?_⟩;have:y≠x:=λe=>hj (yi hN e1 (e▸hi));simp[this,e]
    .exact .inr ⟨k,c,e,z.sameBut hs (OR y c e)⟩
  .obtain⟨w',z⟩:=I.cell y c e;exact⟨w',z.sameBut hs (OR y c e)⟩
  .obtain⟨e,n,ne,nf,d⟩:=I.pin p hp;exact⟨(hs.2 p.1 ne).trans e,n,ne,nf,d⟩
 .have hfn:X.fn x=true:=by
   rcases hf with z|z
   .exact z
   .rw[z] at hk;cases hk
  obtain⟨c,hc⟩:=I.ok.has x (.inl hk);obtain⟨w',z⟩:=I.cell x c hc;refine wpAny_storeName_cell I.ok.kind hk hc z (λh' hc' hs=>?_);obtain⟨oc,hoc,WH⟩:=id z;refine h { s with heap:=h' } ⟨I.ok,I.os,I.bare,⟨λb o e n hb hx=>?_,λb o e n hb hx=>?_,I.base.free,λb o e hx=>?_,I.base.tups,I.base.pL,I.base.qC⟩,⟨m,hn.sameBut hs (bA (OR x c hc)),λj y v' e1 e2 e3=>?_⟩,λy c' e=>?_,I.free,I.kP,λp hp=>?_,tracked ⟨oc,hoc,I.kP x c hc⟩ hs,by simpa using I.len⟩ ⟨c,hs,.inr hc⟩
  .exact(hs.2 b (aQ (bS (aK e) (I.ok.RW x c hfn hc)))).trans (I.base.keep b o e n hb hx)
  .obtain⟨sl,e1⟩:=I.base.slot b o e n hb hx;exact⟨sl,(hs.2 b (aQ (bS (aK e) (I.ok.RW x c hfn hc)))).trans e1⟩
  .obtain⟨o',e1⟩:=I.base.there b o e hx;exact⟨o',(hs.2 b (aQ (bS (aK e) (I.ok.RW x c hfn hc)))).trans e1⟩
  .by_cases hj:j=i
   .subst hj;rw[hi] at e1;cases e1;rw[List.getElem?_set_self Z0] at e2;cases e2;exact⟨u,r,.inr ⟨.inl hk,c,hc,hc'⟩⟩
   .rw[pH (bA hj)] at e2;obtain⟨u',r',q⟩:=hl j y v' e1 e2 e3;refine⟨u',r',?_⟩;rcases q with q|⟨k,c',e,z'⟩
    .exact .inl q
    .refine .inr ⟨k,c',e,z'.sameBut hs ?_⟩;rintro rfl;exact hj (yi hN e1 (I.ok.inj _ _ _ e hc▸hi))
  .by_cases hcc:c'=c
   .subst hcc;exact⟨_,hc'⟩
   .obtain⟨w2,z2⟩:=I.cell y c' e;exact⟨w2,z2.sameBut hs hcc⟩
  .obtain⟨e,n,ne,nf,d⟩:=I.pin p hp;refine⟨(hs.2 p.1 ?_).trans e,n,ne,nf,d⟩;intro q;rw[q,hoc] at e;have q':oc=p.2:=Option.some.inj e;exact d w' (by rw[<- q'];exact WH)
def nI(I:Inv X pins σ H s)(hN:X.N.Nodup)(hi:X.N[i]?=some x)(hx:Loc X.env.scope x)(r:RelV v u)
  (h:∀s',Inv X pins (σ.set i (some v)) H s'->Q () s')(hf:X.fn x=true\/X.env.scope.names.lookup x=some .local:=by first|exact .inl rfl|exact .inr rfl|assumption):wpAny M A (storeName X.env x u) Q E s :=
 pM I hN hi hx r (λs' I' _=>h s' I') hf
def Inv.M4{s':Shared}(I:Inv X pins σ H s)(ho:s'.os=s.os)(u:Un (frs X.stack) ch H H' s.heap s'.heap)(hok:ng X.prog X.w H' s'.heap)(hg:AllBare s'.gens)
  (hch:∀b∈ch,(b∈X.ex\/X.s₀.heap.objs.size<=b)/\b≠X.env.locals/\(∀x c,X.env.cells.lookup x=some c->c≠b)/\∀p∈X.pn++pins,p.1≠b):Inv X pins σ H' s':=by obtain⟨h',g',d',t',o'⟩:=s';have e:o'=s.os:=ho;subst e;exact I.call (g':=g') (t':=t') (d':=d') u hok hg hch
end
abbrev XK:=Value->Option Addr->Hp->Prop
abbrev St:=List (Option V)
abbrev VK:=V->Hp->Prop
abbrev TE:=St->Hp->VK->Prop
abbrev TT:=St->Hp->(Bool->Hp->Prop)->Prop
abbrev TA:=St->Hp->(List V->Hp->Prop)->Prop
structure Ends where
 nx:St->Hp->Prop
 rt:VK
 bk:St->Hp->Prop:=λ_ _=>False
 ct:St->Hp->Prop:=λ_ _=>False
abbrev TS:=Ends->St->Hp->Prop
def EP(X:Cx)(pins:List (Addr×Obj))(σ:St)(Q:VK)(u:Value)(s':Shared):Prop:=∃v H',Inv X pins σ H' s'/\RelV v u/\Q v H'
def TP(X:Cx)(pins:List (Addr×Obj))(σ:St)(Q:Bool->Hp->Prop)(b:Bool)(s':Shared):Prop:=∃H',Inv X pins σ H' s'/\Q b H'
def AP(X:Cx)(pins:List (Addr×Obj))(σ:St)(Q:List V->Hp->Prop)(us:List Value)(s':Shared):Prop:=∃vs H',Inv X pins σ H' s'/\Vals vs us/\Q vs H'
def SP(X:Cx)(pins:List (Addr×Obj))(D:Ends)(f:Flow)(s':Shared):Prop :=
 match f with
 | .next=>∃σ' H',Inv X pins σ' H' s'/\D.nx σ' H'
 | .brk=>∃σ' H',Inv X pins σ' H' s'/\D.bk σ' H'
 | .cont=>∃σ' H',Inv X pins σ' H' s'/\D.ct σ' H'
 | .ret u=>∃v σ' H',Inv X pins σ' H' s'/\RelV v u/\D.rt v H'
def PE(X:Cx)(e:Expr)(t:TE):Prop :=
 ∀(pins:List (Addr×Obj))(s:Shared)(σ:St)(H:Hp)(Q:VK),Inv X pins σ H s->t σ H Q->wpAny (model X.prog X.w) X.A (eval e X.env) (EP X pins σ Q) X.xe s
def PT(X:Cx)(e:Expr)(t:TT):Prop :=
 ∀(pins:List (Addr×Obj))(s:Shared)(σ:St)(H:Hp)(Q:Bool->Hp->Prop),Inv X pins σ H s->t σ H Q->wpAny (model X.prog X.w) X.A (isTrue e X.env (eval e X.env)) (TP X pins σ Q) X.xe s
def PW(X:Cx)(e:Expr)(t:TT):Prop :=
 ∀(whole:Sem Value)(pins:List (Addr×Obj))(s:Shared)(σ:St)(H:Hp)(Q:Bool->Hp->Prop),Inv X pins σ H s->t σ H Q->wpAny (model X.prog X.w) X.A (isTrue e X.env whole) (TP X pins σ Q) X.xe s
def PW.pt{t:TT}(h:PW X e t):PT X e t:=h _
def PA(X:Cx)(es:List Expr)(t:TA):Prop :=
 ∀(pos:Pos)(pins:List (Addr×Obj))(s:Shared)(σ:St)(H:Hp)(Q:List V->Hp->Prop),Inv X pins σ H s->t σ H Q->wpAny (model X.prog X.w) X.A (spliced (backTo pos (starEach es X.env))) (AP X pins σ Q) X.xe s
def PS(X:Cx)(st:Stmt)(t:TS):Prop :=
 ∀(pins:List (Addr×Obj))(s:Shared)(σ:St)(H:Hp)(D:Ends),Inv X pins σ H s->t D σ H->wpAny (model X.prog X.w) X.A (exec st X.env) (SP X pins D) X.xe s
def uR(X:Cx)(st:List Stmt)(t:TS):Prop :=
 ∀(pins:List (Addr×Obj))(s:Shared)(σ:St)(H:Hp)(D:Ends),Inv X pins σ H s->t D σ H->wpAny (model X.prog X.w) X.A (execs st X.env) (SP X pins D) X.xe s
def cT{α:Type}{t:Sem α}{Q Q':α->Shared->Prop}(h:wpAny M A t Q E s)(hQ:∀a s,Q a s->Q' a s):wpAny M A t Q' E s:=wpAny_mono h hQ λ_ _ x=>x
section
variable {X:Cx}
def bin{a b:Expr}{ta tb:TE}(ha:PE X a ta)(hb:PE X b tb){σ:St}{R:V->V->Hp->Prop}(I:Inv X pins σ H s)(h:ta σ H λx H1=>tb σ H1 λy H2=>R x y H2)
  {α:Type}{Q:α->Shared->Prop}{f:Value->Value->Sem α}
  (hf:∀v u s2 x y H2,Inv X pins σ H2 s2->RelV x v->RelV y u->R x y H2->wpAny (model X.prog X.w) X.A (f v u) Q X.xe s2):
  wpAny (model X.prog X.w) X.A (eval a X.env) (λv s₁=>wpAny (model X.prog X.w) X.A (eval b X.env) (λu s₂=>wpAny (model X.prog X.w) X.A (f v u) Q X.xe s₂) X.xe s₁) X.xe s:=by refine cT (ha pins s σ H _ I h) λv s1 zq=>?_;obtain⟨x,H1,I1,r1,q1⟩:=zq;refine cT (hb pins s1 σ H1 _ I1 q1) λu s2 zq=>?_;obtain⟨y,H2,I2,r2,q2⟩:=zq;exact hf v u s2 x y H2 I2 r1 r2 q2
def mG(i:Nat):TE:=λσ H Q=>∃v,σ[i]?=some (some v)/\Q v H
def tC(v:V):TE:=λ_ H Q=>Q v H
def OS(hN:X.N[i]?=some x)(hv:Vw X.env.scope x)(hd:(x==("__debug__" : Str))=false:=by decide)(hcd:(x==("__classdict__" : Str))=false:=by decide):PE X (.Name x pos) (mG i):=by
 intro pins s σ H Q I h;obtain⟨v,e,h⟩:=h;obtain⟨m,hn,hl⟩:=I.loc;obtain⟨u,r,l⟩:=hl i x v hN e hv;have fin:EP X pins σ Q u s:=⟨v,H,I,r,h⟩;rcases l with⟨hk,hm⟩|⟨hk,c,hc,hcell⟩
 .exact wpAny_Name (wpAny_loadName_local I.ok.kind hk hn hm fin) hd
 .rcases hk with hk|hk
  .exact wpAny_Name (wpAny_loadName_cell I.ok.kind hk hc hcell fin) hd
  .exact wpAny_Name (wpAny_loadName_free I.ok.kind hk hc hcell fin hcd) hd
def af{i j pos}:PE X (.Constant (.int i) j pos) (tC (.int i)):=λ_ _ _ H _ I h=>wpAny_Constant_int ⟨.int i,H,I.tok _,⟨_,rfl⟩,h⟩
def yj{b j pos}:PE X (.Constant (.bool b) j pos) (tC (.bl b)):=λ_ _ _ H _ I h=>Constant_bool ⟨.bl b,H,I,rfl,h⟩
def nh{j pos}:PE X (.Constant .none j pos) (tC .cY):=λ_ _ _ H _ I h=>Constant_none ⟨.cY,H,I,rfl,h⟩
def bz{x j pos}:PE X (.Constant (.str x) j pos) (tC (.str x)):=λ_ _ _ H _ I h=>Calls.Constant_str ⟨.str x,H,I.tok _,⟨_,rfl⟩,h⟩
def Gl(X:Cx)(x:Str):Prop:=X.env.kindOf x=some .globalImplicit
def CC{σ:St}{Q:Value->Shared->Prop}(I:Inv X pins σ H s)(hg:Gl X x)(hm:X.mg x=some u)(h:Q u s)
  (hd:(x==("__debug__" : Str))=false:=by decide):wpAny (model X.prog X.w) X.A (eval (.Name x pos) X.env) Q E s :=
 Calls.Name_function_global I.ok.kind hg (Calls.loadGlobal_global (by rw[I.ok.glob];exact I.mod.glob.keeps I.bk) hm h) hd
def jL{σ:St}{Q:Value->Shared->Prop}(I:Inv X pins σ H s)(hg:Gl X x)(hm:X.mg x=none)(hv:bootBuiltins x=some u)(h:Q u s)
  (hn:x ≠ "__name__" := by decide)(hd:(x==("__debug__" : Str))=false:=by decide):wpAny (model X.prog X.w) X.A (eval (.Name x pos) X.env) Q E s:=by obtain⟨mb,h1,h2⟩:=I.mod.blt;exact Calls.Name_function_global I.ok.kind hg (Calls.loadGlobal_builtin (by rw[I.ok.glob];exact I.mod.glob.keeps I.bk) hm (by rw[I.ok.blt];exact h1.keeps I.bk) ((h2 x hn).trans hv) h) hd
def gj(hg:Gl X x)(hm:X.mg x=some u)(r:RelV v u)(hd:(x==("__debug__" : Str))=false:=by decide):PE X (.Name x pos) (tC v) :=
 λ_ _ _ H _ I h=>CC I hg hm ⟨v,H,I,r,h⟩ hd
def K5{u:Value}(hg:Gl X x)(hm:X.mg x=none)(hv:bootBuiltins x=some u)(r:RelV v u)(hn:x ≠ "__name__" := by decide)(hd:(x==("__debug__" : Str))=false:=by decide):PE X (.Name x pos) (tC v) :=
 λ_ _ _ H _ I h=>jL I hg hm hv ⟨v,H,I,r,h⟩ hn hd
variable {a b:Expr}{ta tb:TE}{pos:Pos}
def PC(X:Cx)(op:CmpOp)(a b:Expr)(t:TE):Prop :=
 ∀(pins:List (Addr×Obj))(s:Shared)(σ:St)(H:Hp)(Q:VK),Inv X pins σ H s->t σ H Q ->
  wpAny (model X.prog X.w) X.A (eval a X.env) (λv s₁=>wpAny (model X.prog X.w) X.A (eval b X.env) (λu s₂=>wpAny (model X.prog X.w) X.A (compareOp op v u) (EP X pins σ Q) X.xe s₂) X.xe s₁) X.xe s
def GF(b:Expr)(h:op≠.In)(h2:op≠.NotIn):behindInMarks op b=false:=by
 have e1:(op==CmpOp.In)=false:=by cases op<;>first|rfl|exact absurd rfl h
 have e2:(op==CmpOp.NotIn)=false:=by cases op<;>first|rfl|exact absurd rfl h2
 cases b<;>simp[behindInMarks,e1,e2]
def tB(t:TE):TT:=λσ H Q=>t σ H λx H1=>∃c,x=.bl c/\Q c H1
def A4(h:PC X op a b t)(h1:behindInMarks op b=false:=by first|exact GF _ (by decide) (by decide)|rfl):PT X (.Compare a [op] [b] pos) (tB t):=by intro pins s σ H Q I hw;refine wpAny_isTrue_Compare1 (cT (h pins s σ H _ I hw) λv s1 h1=>cT h1 λu s2 h2=>cT h2 λc s3 zq=>?_) h1;obtain⟨x,H1,I1,r1,q1⟩:=zq;obtain⟨d,rfl,q⟩:=q1;cases r1;exact wpAny_truthy_bool ⟨H1,I1,q⟩
def rY(h:PE X e t)(he:∀whole,isTrue e X.env whole=(do let v <- whole;standAt e.pos;holding [v] (truthy v)):=by intro _;rfl):PT X e (tB t):=by intro pins s σ H Q I hw;refine isTrue_plain (cT (h pins s σ H _ I hw) λv s1 zq=>?_) (he _);obtain⟨x,H1,I1,r1,q1⟩:=zq;obtain⟨d,rfl,q⟩:=q1;cases r1;exact wpAny_truthy_bool ⟨H1,I1,q⟩
variable {tA Vy:TT}{rest:List Expr}
def RZ(t u:TT):TT:=λσ H Q=>t σ H λc H1=>if c=true then u σ H1 Q else Q false H1
def Z1(t u:TT):TT:=λσ H Q=>t σ H λc H1=>if c=true then Q true H1 else u σ H1 Q
def R1(t:TT):TT:=λσ H Q=>t σ H λc H1=>Q (!c) H1
def jv(ha:PT X a tA):PW X (.BoolOp .And [a] pos) tA:=by
 intro wh pins s σ H Q I h;refine isTrue_and (cT (ha pins s σ H Q I h) λc s1 e=>?_);cases c with
 | true=>exact isTrue_and_nil e
 | false=>exact e
def pN(ha:PT X a tA):PW X (.BoolOp .Or [a] pos) tA:=by
 intro wh pins s σ H Q I h;refine isTrue_or (cT (ha pins s σ H Q I h) λc s1 e=>?_);cases c with
 | false=>exact isTrue_or_nil e
 | true=>exact e
def kj(ha:PT X a tA)(hb:PW X (.BoolOp .And (b::rest) pos) Vy):PW X (.BoolOp .And (a::b::rest) pos) (RZ tA Vy):=by
 intro wh pins s σ H Q I h;refine isTrue_and (cT (ha pins s σ H _ I h) λc s1 zq=>?_);obtain⟨H1,I1,q1⟩:=zq;cases c with
 | true=>exact hb wh pins s1 σ H1 Q I1 q1
 | false=>exact⟨H1,I1,q1⟩
def rZ(ha:PT X a tA)(hb:PW X (.BoolOp .Or (b::rest) pos) Vy):PW X (.BoolOp .Or (a::b::rest) pos) (Z1 tA Vy):=by
 intro wh pins s σ H Q I h;refine isTrue_or (cT (ha pins s σ H _ I h) λc s1 zq=>?_);obtain⟨H1,I1,q1⟩:=zq;cases c with
 | true=>exact⟨H1,I1,q1⟩
 | false=>exact hb wh pins s1 σ H1 Q I1 q1
def wD(ha:PT X a tA):PT X (.UnaryOp .Not a pos) (R1 tA):=by intro pins s σ H Q I h;exact isTrue_not (ha pins s σ H (λc H1=>Q (!c) H1) I h)
def M5(ta tb:TE):TE:=λσ H Q=>ta σ H λx H1=>∃c,x=.bl c/\if c=true then tb σ H1 Q else Q (.bl false) H1
def R3(ta tb:TE):TE:=λσ H Q=>ta σ H λx H1=>∃c,x=.bl c/\if c=true then Q (.bl true) H1 else tb σ H1 Q
def r6{op}(h:PE X a t):PE X (.BoolOp op [a] pos) t:=λpins s σ H Q I hw=>BoolOp_one (h pins s σ H Q I hw)
def A5(ha:PE X a ta)(hb:PE X (.BoolOp .And (b::rest) pos) tb):PE X (.BoolOp .And (a::b::rest) pos) (M5 ta tb):=by
 intro pins s σ H Q I h;refine BoolOp_and (cT (ha pins s σ H _ I h) λv s1 zq=>?_);obtain⟨x,H1,I1,r1,q1⟩:=zq;obtain⟨c,rfl,q1⟩:=q1;cases r1;refine wpAny_truthy_bool ?_;cases c with
 | true=>exact hb pins s1 σ H1 Q I1 q1
 | false=>exact⟨.bl false,H1,I1,rfl,q1⟩
def M6(ha:PE X a ta)(hb:PE X (.BoolOp .Or (b::rest) pos) tb):PE X (.BoolOp .Or (a::b::rest) pos) (R3 ta tb):=by
 intro pins s σ H Q I h;refine BoolOp_or (cT (ha pins s σ H _ I h) λv s1 zq=>?_);obtain⟨x,H1,I1,r1,q1⟩:=zq;obtain⟨c,rfl,q1⟩:=q1;cases r1;refine wpAny_truthy_bool ?_;cases c with
 | false=>exact hb pins s1 σ H1 Q I1 q1
 | true=>exact⟨.bl true,H1,I1,rfl,q1⟩
def Z2(t:TT)(ta tb:TE):TE:=λσ H Q=>t σ H λc H1=>if c=true then ta σ H1 Q else tb σ H1 Q
def f7(hc:PT X c tA)(ha:PE X a ta)(hb:PE X b tb):PE X (.IfExp c a b pos) (Z2 tA ta tb):=by
 intro pins s σ H Q I h;refine wpAny_IfExp (cT (hc pins s σ H _ I h) λd s1 zq=>?_);obtain⟨H1,I1,q1⟩:=zq;cases d with
 | true=>exact ha pins s1 σ H1 Q I1 q1
 | false=>exact hb pins s1 σ H1 Q I1 q1
end
def bE(K:aD)(H:Hp)(a:Addr)(xs:List V):Prop :=
 Rd H a (.lst xs) \/
  ∃(o:Obj)(its:Array Value)(n:Nat),K.lookup a=some o/\o.cls=.type "list" /\ o.dict=none/\o.data=.seq its n/\its.size<=sizeLine/\Vals xs its.toList
def cM(K:aD)(H:Hp)(a:Addr)(xs:List V):Prop :=
 Rd H a (.tup xs) \/
  ∃(o:Obj)(its:Array Value)(n:Nat),K.lookup a=some o/\o.cls=.type "tuple" /\ o.data=.seq its n/\its.size<=sizeLine/\Vals xs its.toList
def WI:Value->Option V
 | .none=>some .cY
 | .bool b=>some (.bl b)
 | .int i _=>some (.int i)
 | .str x _=>some (.str x)
 | .bytes b _=>some (.Ey b)
 | .float b _=>some (.Rq b)
 | .ref a=>some (.ref a)
 | .type n=>some (.ty n)
 | _=>none
def RelV.abs{x:V}(r:RelV x u):WI u=some x:=by
 cases x with
 | cY=>cases r;rfl
 | bl _=>cases r;rfl
 | int _=>obtain⟨t,rfl⟩:=r;rfl
 | str _=>obtain⟨t,rfl⟩:=r;rfl
 | Ey _=>obtain⟨t,rfl⟩:=r;rfl
 | Rq _=>obtain⟨t,rfl⟩:=r;rfl
 | ref _=>cases r;rfl
 | ty _=>cases r;rfl
theorem RelV.inj{x y:V}(r:RelV x u)(q:RelV y u):x=y:=Option.some.inj (r.abs.symm.trans q.abs)
theorem Vals.inj:∀{xs ys:List V}{us:List Value},Vals xs us->Vals ys us->xs=ys
 | _,_,_,.nil,.nil=>rfl
 | _,_,_,.cons r t,.cons r' t'=>by rw[r.inj r',Vals.inj t t']
section
variable {X:Cx}{pins:List (Addr×Obj)}{σ:St}{H:Hp}{s:Shared}{a:Addr}{xs ys:List V}
def bE.of(h:H a=some (.lst xs)):bE K H a xs:=.inl (.inl h)
def cM.of(h:H a=some (.tup xs)):cM K H a xs:=.inl (.inl h)
def Inv.list(I:Inv X pins σ H s)(h:bE X.K H a xs):∃its:List Value,Vals xs its/\PlainL s.heap a its.toArray/\xs.length<=sizeLine:=by
 rcases h with h|⟨o,its,n,hk,hc,hd,hs,hz,r⟩
 .obtain⟨z,its,n,r,e⟩:=h.ok I.hok;exact⟨its,r,⟨_,n,e,rfl,rfl,rfl⟩,z⟩
 .refine⟨its.toList,r,⟨o,n,I.wA a o hk,hc,hd,by simpa using hs⟩,?_⟩;have e:=r.length;simp only[cX] at e;omega
def Inv.tuple(I:Inv X pins σ H s)(h:cM X.K H a xs):∃its:List Value,Vals xs its/\IsTup s.heap a its.toArray/\xs.length<=sizeLine:=by
 rcases h with h|⟨o,its,n,hk,hc,hs,hz,r⟩
 .obtain⟨z,its,r,p⟩:=h.ok I.hok;exact⟨its,r,p,z⟩
 .refine⟨its.toList,r,⟨o,I.wA a o hk,hc,n,by simpa using hs⟩,?_⟩;have e:=r.length;simp only[cX] at e;omega
def Inv.GG(I:Inv X pins σ H s)(h:bE X.K H a xs)(h':bE X.K H a ys):xs=ys:=by
 obtain⟨its,r,⟨o,n,e,_,_,d⟩,_⟩:=I.list h;obtain⟨its',r',⟨o',n',e',_,_,d'⟩,_⟩:=I.list h';rw[e] at e';cases e';rw[d] at d';injection d' with d1 _;have:its=its':=by simpa using congrArg Array.toList d1
 subst this;exact r.inj r'
def Inv.ED(I:Inv X pins σ H s)(h:cM X.K H a xs)(h':cM X.K H a ys):xs=ys:=by
 obtain⟨its,r,⟨o,e,_,n,d⟩,_⟩:=I.tuple h;obtain⟨its',r',⟨o',e',_,n',d'⟩,_⟩:=I.tuple h';rw[e] at e';cases e';rw[d] at d';injection d' with d1 _;have:its=its':=by simpa using congrArg Array.toList d1
 subst this;exact r.inj r'
end
abbrev Cx.pO(X:Cx)(E:Value->Shared->Prop):Cx:={ X with xe:=E }
abbrev Cx.GH(X:Cx):Cx:=X.pO λ_ _=>False
theorem Cx.Ok.pO(ok:X.Ok)(E:Value->Shared->Prop):(X.pO E).Ok :=
 ⟨ok.mod,ok.kind,ok.glob,ok.blt,ok.above,ok.inj,ok.has,ok.RW,ok.hd,ok.frames,ok.stk,ok.ZY,ok.bs,ok.KD,ok.EB,ok.EC,ok.qD,ok.OP⟩
def Cx.Ok.jM(ok:(X.pO E).Ok):X.Ok :=
 ⟨ok.mod,ok.kind,ok.glob,ok.blt,ok.above,ok.inj,ok.has,ok.RW,ok.hd,ok.frames,ok.stk,ok.ZY,ok.bs,ok.KD,ok.EB,ok.EC,ok.qD,ok.OP⟩
section
variable {X:Cx}{pins:List (Addr×Obj)}{σ:St}{H:Hp}{s:Shared}{E:Value->Shared->Prop}
theorem Inv.pO(I:Inv X pins σ H s)(E:Value->Shared->Prop):Inv (X.pO E) pins σ H s:=⟨I.ok.pO E,I.os,I.bare,I.base,I.loc,I.cell,I.free,I.kP,I.pin,I.hok,I.len⟩
theorem Inv.jM(I:Inv (X.pO E) pins σ H s):Inv X pins σ H s:=⟨I.ok.jM,I.os,I.bare,I.base,I.loc,I.cell,I.free,I.kP,I.pin,I.hok,I.len⟩
theorem SP.jM{f:Flow}{s':Shared}(h:SP (X.pO E) pins D f s'):SP X pins D f s':=by
 cases f with
 | next=>obtain⟨σ',H',I,q⟩:=h;exact⟨σ',H',I.jM,q⟩
 | brk=>obtain⟨σ',H',I,q⟩:=h;exact⟨σ',H',I.jM,q⟩
 | cont=>obtain⟨σ',H',I,q⟩:=h;exact⟨σ',H',I.jM,q⟩
 | ret u=>obtain⟨v,σ',H',I,r,q⟩:=h;exact⟨v,σ',H',I.jM,r,q⟩
theorem PE.GH(h:PE X.GH e t):PE X e t:=λpins s σ H Q I hw =>
 wpAny_mono (h pins s σ H Q (I.pO _) hw) (λ_ _ ⟨v,H',I',r,q⟩=>⟨v,H',I'.jM,r,q⟩) λ_ _ z=>False.elim z
theorem PT.GH{t:TT}(h:PT X.GH e t):PT X e t:=λpins s σ H Q I hw =>
 wpAny_mono (h pins s σ H Q (I.pO _) hw) (λ_ _ ⟨H',I',q⟩=>⟨H',I'.jM,q⟩) λ_ _ z=>False.elim z
theorem uR.GH{st:List Stmt}{t:TS}(h:uR X.GH st t):uR X st t:=λpins s σ H D I hw =>
 wpAny_mono (h pins s σ H D (I.pO _) hw) (λ_ _ q=>q.jM) λ_ _ z=>False.elim z
end
section
variable {X:Cx}{st:Stmt}{rest:List Stmt}{t u:TS}{e:Expr}{te:TE}{pos:Pos}
def M7:TS:=λD σ H=>D.nx σ H
def OT(t u:TS):TS:=λD σ H=>t { D with nx:=u D } σ H
def bu:uR X [] M7:=λ_ _ σ H _ I h=>wpAny_execs_nil ⟨σ,H,I,h⟩
def ak(h1:PS X st t)(h2:uR X rest u):uR X (st::rest) (OT t u):=by
 intro pins s σ H D I h;refine wpAny_execs_cons (cT (h1 pins s σ H { D with nx:=u D } I h) λf s1 q=>?_);cases f with
 | next =>
  obtain⟨σ',H',I',q⟩:=q;exact h2 pins s1 σ' H' D I' q
 | ret v=>exact q
 | brk=>exact q
 | cont=>exact q
def au(h1:PS X st t):uR X [st] t:=by
 intro pins s σ H D I h;refine wpAny_execs_cons (cT (h1 pins s σ H D I h) λf s1 q=>?_);cases f with
 | next=>exact wpAny_execs_nil q
 | ret v=>exact q
 | brk=>exact q
 | cont=>exact q
def Inv.quiet{σ:St}(I:Inv X pins σ H s):interactive X.env=false:=by simp[interactive,I.ok.kind]
def M8(te:TE):TS:=λD σ H=>te σ H λ_ H1=>D.nx σ H1
def fk(he:PE X e te)(hs:swapsWith e none pos.line X.env=pure false:=by rfl):PS X (.Expr e pos) (M8 te):=by intro pins s σ H D I h;exact wpAny_Expr_any (cT (he pins s σ H _ I h) λv s1 ⟨x,H1,I1,r1,q1⟩=>⟨σ,H1,I1,q1⟩) I.quiet hs
def R4(te:TE):TS:=λD σ H=>te σ H D.rt
def aJ(he:PE X e te):PS X (.Return (some e) pos) (R4 te):=by intro pins s σ H D I h;exact wpAny_Return_some (cT (he pins s σ H _ I h) λv s1 ⟨x,H1,I1,r1,q1⟩=>⟨x,σ,H1,I1,r1,q1⟩)
def R5(c:TT)(t u:TS):TS:=λD σ H=>c σ H λb H1=>if b=true then t D σ H1 else u D σ H1
def cN{a b:List Stmt}{tc:TT}(hc:PT X c tc)(ha:uR X a t)(hb:uR X b u):PS X (.If c a b pos) (R5 tc t u):=by
 intro pins s σ H D I h;refine wpAny_If (cT (hc pins s σ H _ I h) λd s1 zq=>?_);obtain⟨H1,I1,q1⟩:=zq;cases d with
 | true=>exact ha pins s1 σ H1 D I1 q1
 | false=>exact hb pins s1 σ H1 D I1 q1
def OU:TS:=λ_ _ _=>False
def GI:PS X st OU:=λ_ _ _ _ _ _ h=>h.elim
end
abbrev TG:=V->St->Hp->(St->Hp->Prop)->Prop
abbrev EE:=List V->St->Hp->(St->Hp->Prop)->Prop
def PG(X:Cx)(target:Expr)(t:TG):Prop :=
 ∀(pins:List (Addr×Obj))(s:Shared)(σ:St)(H:Hp)(v:V)(u:Value)(Q:St->Hp->Prop),Inv X pins σ H s->RelV v u->t v σ H Q ->
  wpAny (model X.prog X.w) X.A (assign target X.env u) (λ_ s'=>∃σ' H',Inv X pins σ' H' s'/\Q σ' H') X.xe s
def Rt(X:Cx)(ts:List Expr)(t:EE):Prop :=
 ∀(pins:List (Addr×Obj))(s:Shared)(σ:St)(H:Hp)(vs:List V)(us:List Value)(Q:St->Hp->Prop),Inv X pins σ H s->Vals vs us->t vs σ H Q ->
  wpAny (model X.prog X.w) X.A (assignInOrder ((assignEach ts X.env).map (·.2)) us) (λ_ s'=>∃σ' H',Inv X pins σ' H' s'/\Q σ' H') X.xe s
abbrev K6:=V->V->V->Hp->(Hp->Prop)->Prop
def R6(X:Cx)(t:K6):Prop :=
 ∀(pins:List (Addr×Obj))(s:Shared)(σ:St)(H:Hp)(o i v:V)(ov iv u:Value)(Q:Hp->Prop),Inv X pins σ H s->RelV o ov->RelV i iv->RelV v u->t o i v H Q ->
  wpAny (model X.prog X.w) X.A (setItem ov iv u) (λ_ s'=>∃H',Inv X pins σ H' s'/\Q H') X.xe s
abbrev R7:=V->V->Hp->VK->Prop
def Z3(X:Cx)(op:Operator)(t:R7):Prop :=
 ∀(pins:List (Addr×Obj))(s:Shared)(σ:St)(H:Hp)(x y:V)(v u:Value)(Q:VK),Inv X pins σ H s->RelV x v->RelV y u->t x y H Q ->
  wpAny (model X.prog X.w) X.A (inplaceOp op v u) (EP X pins σ Q) X.xe s
section
variable {X:Cx}{pos:Pos}
def iy(i:Nat):TG:=λv σ H Q=>Q (σ.set i (some v)) H
def aX(hN:X.N.Nodup)(hi:X.N[i]?=some x)(hx:Loc X.env.scope x)(hf:X.fn x=true\/X.env.scope.names.lookup x=some .local:=by first|exact .inl rfl|exact .inr rfl|assumption):PG X (.Name x pos) (iy i):=by intro pins s σ H v u Q I r h;exact wpAny_assign_Name (nI I hN hi hx r (λs' I'=>⟨_,H,I',h⟩) hf)
def R8:EE:=λvs σ H Q=>vs=[]/\Q σ H
def M9(t:TG)(u:EE):EE:=λvs σ H Q=>∃v r,vs=v::r/\t v σ H λσ' H'=>u r σ' H' Q
def gk:Rt X [] R8:=by intro pins s σ H vs us Q I r h;obtain⟨e,h⟩:=h;subst e;cases r;exact assignInOrder_nil ⟨σ,H,I,h⟩
def bG{es:List Expr}{t:TG}{u:EE}(h1:PG X e t)(h2:Rt X es u)
  (hs:(assignEach (e::es) X.env).map (·.2)=assign e X.env::(assignEach es X.env).map (·.2):=by rfl):Rt X (e::es) (M9 t u):=by
 intro pins s σ H vs us Q I r h;obtain⟨v,vr,e1,h⟩:=h;subst e1;cases r with
 | cons r rr =>
  rw[hs];refine assignInOrder_cons (cT (h1 pins s σ H _ _ _ I r h) λ_ s1 zq=>?_);obtain⟨σ1,H1,I1,q1⟩:=zq;exact h2 pins s1 σ1 H1 _ _ Q I1 rr q1
def OV(K:aD)(n:Nat)(t:EE):TG:=λv σ H Q=>∃a xs,v=.ref a/\cM K H a xs/\xs.length=n/\t xs σ H Q
def nj{es:List Expr}{t:EE}(hc:X.calm=true)(h:Rt X es t)
  (hn:(assignEach es X.env).length=n:=by rfl)(hst:(assignEach es X.env).findIdx? (·.1)=none:=by rfl):PG X (.Tuple es k pos) (OV X.K n t):=by intro pins s σ H v u Q I r hw;obtain⟨a,xs,e1,hq,hl,hw⟩:=hw;subst e1;cases r;obtain⟨its,rv,ht,hz⟩:=I.tuple hq;refine assign_Tuple_tuple (I.ok.hd hc) ht (by simp[hn,<- hl,rv.length]) hst λh' hx=>?_;have I1:Inv X pins σ H { s with heap:=h' }:=I.kept (t':=s.toks) λb o e=>hx b o (aQ (aK e)) e;exact h pins _ σ H xs _ Q I1 (by simpa using rv) hw
def R9(to ti:TE)(t:K6):TG:=λv σ H Q=>to σ H λo H1=>ti σ H1 λi H2=>t o i v H2 λH3=>Q σ H3
def ko{o i:Expr}{to ti:TE}{t:K6}(ho:PE X o to)(hi:PE X i ti)(hs:R6 X t)
  (ha:∀v,assign (.Subscript o i pos) X.env v=(do
   let ov <- holding [v] (eval o X.env);let iv <- holding [v,ov] (eval i X.env)
   standAt pos
   holding [v,ov,iv] (setItem ov iv v)
   release [v,ov,iv] []):=by intro _;rfl):PG X (.Subscript o i pos) (R9 to ti t):=by intro pins s σ H v u Q I r h;rw[ha];refine aq (wpAny_holding (cT (ho pins s σ H _ I h) λov s1 zq=>?_));obtain⟨x,H1,I1,r1,q1⟩:=zq;refine aq (wpAny_holding (cT (hi pins s1 σ H1 _ I1 q1) λiv s2 zq=>?_));obtain⟨y,H2,I2,r2,q2⟩:=zq;refine aq (wpAny_standAt (aq (wpAny_holding (cT (hs pins s2 σ H2 x y v ov iv u _ I2 r1 r2 r q2) λ_ s3 zq=>?_))));obtain⟨H3,I3,q3⟩:=zq;exact wpAny_release ⟨σ,H3,I3,q3⟩
def OW(te:TE)(g:TG):TS:=λD σ H=>te σ H λx H1=>g x σ H1 D.nx
def ja(he:PE X e te)(hg:PG X tg g)(hs:swapsWithSole [tg] e pos.line X.env=pure false:=by rfl)(hw:swappedStores [tg] e X.env=pure none:=by rfl)
  (h1:(assignEach [tg] X.env).map (·.2)=[assign tg X.env]:=by rfl):PS X (.Assign [tg] e pos) (OW te g):=by intro pins s σ H D I h;refine wpAny_Assign_stores (cT (he pins s σ H _ I h) λv s1 zq=>?_) hs hw;obtain⟨x,H1,I1,r1,q1⟩:=zq;rw[h1];exact cT (hg pins s1 σ H1 x v _ I1 r1 q1) λ_ s2 q=>q
def aE{pos':Pos}(hN:X.N.Nodup)(hi:X.N[i]?=some x)(hx:Loc X.env.scope x)(he:PE X e te)(hs:swapsWith e (some (.Name x pos')) pos.line X.env=pure false:=by rfl)(hf:X.fn x=true\/X.env.scope.names.lookup x=some .local:=by first|exact .inl rfl|exact .inr rfl|assumption):
  PS X (.Assign [.Name x pos'] e pos) (OW te (iy i)):=by intro pins s σ H D I h;refine wpAny_Assign_Name (cT (he pins s σ H _ I h) λv s1 zq=>?_) hs;obtain⟨y,H1,I1,r1,q1⟩:=zq;exact nI I1 hN hi hx r1 (λs2 I2=>⟨_,H1,I2,q1⟩) hf
def Sa(i:Nat)(te:TE)(ti:R7):TS:=λD σ H=>∃x,σ[i]?=some (some x)/\te σ H λy H1=>ti x y H1 λz H2=>D.nx (σ.set i (some z)) H2
def A6{op:Operator}{ti:R7}{pos':Pos}(hN:X.N.Nodup)(hi:X.N[i]?=some x)(hx:Loc X.env.scope x)(he:PE X e te)(ho:Z3 X op ti)(hf:X.fn x=true\/X.env.scope.names.lookup x=some .local:=by first|exact .inl rfl|exact .inr rfl|assumption):
  PS X (.AugAssign (.Name x pos') op e pos) (Sa i te ti):=by
 intro pins s σ H D I h;obtain⟨v,e1,h⟩:=h;obtain⟨m,hn,hl⟩:=I.loc;have vis:Vw X.env.scope x:=by rcases hx with k|k;exact .inl k;exact .inr (.inl k)
 obtain⟨u,r,l⟩:=hl i x v hi e1 vis;refine wpAny_AugAssign_Name ?_;have go:wpAny (model X.prog X.w) X.A (eval e X.env) (λw s₂=>wpAny (model X.prog X.w) X.A (inplaceOp op u w) (λr s₃=>wpAny (model X.prog X.w) X.A (storeName X.env x r) (λ_=>SP X pins D .next) X.xe s₃) X.xe s₂) X.xe s:=by refine cT (he pins s σ H _ I h) λw s1 zq=>?_;obtain⟨y,H1,I1,r1,q1⟩:=zq;refine cT (ho pins s1 σ H1 v y u w _ I1 r r1 q1) λz s2 zq=>?_;obtain⟨zv,H2,I2,r2,q2⟩:=zq;exact nI I2 hN hi hx r2 (λs3 I3=>⟨_,H2,I3,q2⟩) hf
 rcases l with⟨hk,hm⟩|⟨hk,c,hc,hcell⟩
 .exact wpAny_loadName_local I.ok.kind hk hn hm go
 .rcases hk with hk|hk
  .exact wpAny_loadName_cell I.ok.kind hk hc hcell go
  .rcases hx with k|k
   .have:X.env.scope.names.lookup x=some .free:=hk;rw[k] at this;cases this
   .have:X.env.scope.names.lookup x=some .free:=hk;rw[k] at this;cases this
def Z4(f:Int->Int->Int):R7:=λx y H Q=>∃i j,x=.int i/\y=.int j/\Q (.int (f i j)) H
def A7:Z3 X .Add (Z4 λi j=>i+j):=by intro pins s σ H x y v u Q I r1 r2 h;obtain⟨i,j,e1,e2,q⟩:=h;subst e1;subst e2;obtain⟨t,rfl⟩:=r1;obtain⟨t',rfl⟩:=r2;exact iadd_int ⟨.int _,H,I.tok _,⟨_,rfl⟩,q⟩
def GJ(c:TT)(tb:TS):TS:=λD σ H=>∃W:Nat->St->Hp->Prop,(∃m,W m σ H)/\∀m σ H,W m σ H ->
 c σ H λb H1=>if b=true then ∃N:St->Hp->Prop,(∀σ' H',N σ' H'->∃m',m'<m/\W m' σ' H')/\tb { D with nx:=N,ct:=N,bk:=D.nx } σ H1 else D.nx σ H1
def jV{tc:TT}(hp:PassesOwn (model X.prog X.w) X.A X.env X.xe)(hc:PT X c tc)(hb:uR X body tb):PS X (.While c body [] pos) (GJ tc tb):=by
 intro pins s σ H D I h;obtain⟨W,⟨m0,w0⟩,turn⟩:=h;refine wpAny_While (codeAny_whileLoop (λn s'=>∃σ' H',Inv X pins σ' H' s'/\W n σ' H') ?_ m0 ⟨σ,H,I,w0⟩);rintro n s1 ⟨σ1,H1,I1,w1⟩;refine wpAny_passesOwn hp (cT (hc pins s1 σ1 H1 _ I1 (turn n σ1 H1 w1)) λb s2 zq=>?_);obtain⟨H2,I2,q2⟩:=zq;cases b with
 | true =>
  obtain⟨N,hN,q2⟩:=q2;rw[if_pos rfl];refine wpAny_passesOwn hp (cT (hb pins s2 σ1 H2 _ I2 q2) λf s3 q3=>?_);cases f with
  | next =>
   obtain⟨σ3,H3,I3,n3⟩:=q3;obtain⟨m',hm,w3⟩:=hN σ3 H3 n3;exact⟨m',hm,σ3,H3,I3,w3⟩
  | cont =>
   obtain⟨σ3,H3,I3,n3⟩:=q3;obtain⟨m',hm,w3⟩:=hN σ3 H3 n3;exact⟨m',hm,σ3,H3,I3,w3⟩
  | brk=>exact q3
  | ret v=>exact q3
 | false =>
  rw[if_neg jT];exact wpAny_execs_nil ⟨σ1,H2,I2,q2⟩
end
structure It where
 go:Nat->Hp->Prop
 Gz:Nat->Hp->V->Hp->Prop
 stop:Nat->Hp->Prop
def iH(X:Cx)(pins:List (Addr×Obj))(H:Hp)(b:Addr):Prop :=
 H b=none/\b≠X.env.locals/\b∉X.fs/\(b∈X.ex\/X.s₀.heap.objs.size<=b)/\(∀x c,X.env.cells.lookup x=some c->c≠b)/\∀p∈X.pn++pins,p.1≠b
def Inv.nJ{σ:St}{H':Hp}{s:Shared}(I:Inv X pins σ H s)(hb:s.heap.objs.size<=b)(hn:H' b=none):iH X pins H' b:=by
 refine⟨hn,jq (bS I.lt hb),I.OQ hb,.inr (bJ I.sz hb),λx c e z=>?_,λp hp z=>?_⟩
 .obtain⟨v,q⟩:=I.cell x c e;exact absurd (bS q.lt (by rw[z];exact hb)) (fZ _)
 .exact absurd (bS (aK (I.pin p hp).1) (by rw[z];exact hb)) (fZ _)
structure Turn (P:Program) (w:World) (K:aD) (tg:Expr) (J:It) (fp:List Addr) (it:Addr) (tn:Nat->Heap->Prop):Prop where
 mem:it∈fp
 obj:∀i h,tn i h->∀b∈fp,∃o,h.get? b=some o/\∀v,o.data≠.cell v
 keep:∀i h h',tn i h->(∀b∈fp,∀o,h.get? b=some o->h'.get? b=some o)->tn i h'
 item:∀(X:Cx),X.prog=P->X.w=w->X.K=K->X.calm=true->∀(i:Nat)(pins:List (Addr×Obj))(s:Shared)(σ:St)(H:Hp)(E:Value->Shared->Prop),Inv X pins σ H s->(∀b∈fp,iH X pins H b)->tn i s.heap->J.go i H ->
  wpAny (model P w) X.A (pyNext (.ref it)) (λr s1=>∃u,r=some u /\
   wpAny (model P w) X.A (letOwnedTupleGo tg (.ref it) u) (λ_ s2=>∃x H',Inv X pins σ H' s2/\RelV x u/\J.Gz i H x H'/\tn (i+1) s2.heap/\∀b∈fp,H' b=none) E s1) E s
 done:∀(X:Cx),X.prog=P->X.w=w->X.K=K->X.calm=true->∀(i:Nat)(pins:List (Addr×Obj))(s:Shared)(σ:St)(H:Hp)(E:Value->Shared->Prop),Inv X pins σ H s->(∀b∈fp,iH X pins H b)->tn i s.heap->J.stop i H ->
  wpAny (model P w) X.A (pyNext (.ref it)) (λr s1=>r=none/\Inv X pins σ H s1) E s
 self:∀(A:Around)(i:Nat)(s:Shared)(Q:Value->Shared->Prop)(E:Value->Shared->Prop),tn i s.heap->Q (.ref it) s->wpAny (model P w) A (pyIter (.ref it)) Q E s
abbrev TI:=St->Hp->(It->Hp->Prop)->Prop
def Z5(X:Cx)(pins:List (Addr×Obj))(σ:St)(tg:Expr)(R:It->Hp->Prop)(itv:Value)(s2:Shared):Prop :=
 ∃(it:Addr)(fp:List Addr)(tn:Nat->Heap->Prop)(J:It)(H':Hp),itv=.ref it/\Inv X pins σ H' s2/\Turn X.prog X.w X.K tg J fp it tn/\tn 0 s2.heap/\(∀b∈fp,iH X pins H' b)/\R J H'
def PI(X:Cx)(tg iter:Expr)(wi:TI):Prop :=
 ∀(pins:List (Addr×Obj))(s:Shared)(σ:St)(H:Hp)(R:It->Hp->Prop),Inv X pins σ H s->wi σ H R ->
  wpAny (model X.prog X.w) X.A (eval iter X.env) (λv s1=>wpAny (model X.prog X.w) X.A (pyIter v) (Z5 X pins σ tg R) X.xe s1) X.xe s
def CD{it:Addr}{o:Obj}{n:String}{vs:Array Value}(ho:s.heap.get? it=some o)(hc:o.cls=.type n)(hd:o.data=.fields vs)
    (hn:["enumerate", "zip", "dict_itemiterator", "dict_reverseitemiterator", "odict_iterator", "itertools.zip_longest", "itertools.pairwise"].contains n=false)(hQ:Q () s):wpAny M A (letOwnedTupleGo tg (.ref it) u) Q E s:=by
  unfold letOwnedTupleGo;cases tg<;>first
    | exact aL hQ
    | (cases u<;>first
        | exact aL hQ
        | (refine aq (wpAny_load ho ?_)
           rw[hc,hd];show wpAny M A (if(["enumerate", "zip", "dict_itemiterator", "dict_reverseitemiterator", "odict_iterator", "itertools.zip_longest", "itertools.pairwise"].contains n&&vs[0]?==some (rawInt _))=true then _ else _) Q E s;rw[if_neg (by intro h;rw[hn,rJ] at h;cases h)];exact aL hQ))
def KH(K:aD)(a:Addr):It :=
 ⟨λi H=>∃xs x,bE K H a xs/\xs[i]?=some x,λi H x H'=>H'=H/\∀xs,bE K H a xs->xs[i]?=some x,λi H=>∃xs,bE K H a xs/\xs.length<=i⟩
def KI(K:aD)(a:Addr):It :=
 ⟨λi H=>∃xs x,cM K H a xs/\xs[i]?=some x,λi H x H'=>H'=H/\∀xs,cM K H a xs->xs[i]?=some x,λi H=>∃xs,cM K H a xs/\xs.length<=i⟩
def mL(lo:Int)(n:Nat):It:=⟨λi _=>i<n,λi H x H'=>H'=H/\x=.int (lo+i),λi _=>n<=i⟩
def EF(a it:Addr):Turn P w K tg (KH K a) [it] it (λi h=>h.IsListIter it a i) where
 mem:=by simp
 obj:=λi h st b hb=>by
  have e:b=it:=by simpa using hb
  subst e;obtain⟨o,e,c,d⟩:=st;exact⟨o,e,λv z=>by rw[d] at z;cases z⟩
 keep:=λi h h' st k=>st.at λo e=>k it (by simp) o e
 item:=by intro X hP hw hK hc i pins s σ H E I hf st hg;subst hP hw hK;obtain⟨xs,x,hq,hx⟩:=hg;obtain⟨its,rv,p,hz⟩:=I.list hq;obtain⟨u,hu,ru⟩:=rv.get hx;obtain⟨f0,f1,f2,f3,f4,f5⟩:=hf it (by simp);refine wpAny_pyNext_list_item st p.isList (x:=u) (by simpa using hu) λh' st' sb=>?_;have I1:Inv X pins σ H { s with heap:=h' }:=I.turned (t':=s.toks) (λb o hb e=>(sb.2 b hb).trans e) f0 f1 f3 f4 f5;obtain⟨o,e,c,d⟩:=id st';exact⟨u,rfl,CD (s:={ s with heap:=h' }) e c d (by decide) ⟨x,H,I1,ru,⟨rfl,λys hy=>by rw[I.GG hy hq];exact hx⟩,st',λb hb=>(hf b hb).1⟩⟩
 done:=by intro X hP hw hK hc i pins s σ H E I hf st hg;subst hP hw hK;obtain⟨xs,hq,hx⟩:=hg;obtain⟨its,rv,p,hz⟩:=I.list hq;obtain⟨f0,f1,f2,f3,f4,f5⟩:=hf it (by simp);have hl:=rv.length;exact wpAny_pyNext_list_end (I.ok.hd hc) st p.isList (by simp;omega) λh' eb=>⟨rfl,I.turned (t':=s.toks) (λb o hb e=>eb b o hb e) f0 f1 f3 f4 f5⟩
 self:=λ_ _ _ _ _ st h=>wpAny_pyIter_listiter st h
def A8(a it:Addr):Turn P w K tg (KI K a) [it] it (λi h=>h.IsTupleIter it a i) where
 mem:=by simp
 obj:=λi h st b hb=>by
  have e:b=it:=by simpa using hb
  subst e;obtain⟨o,e,c,d⟩:=st;exact⟨o,e,λv z=>by rw[d] at z;cases z⟩
 keep:=λi h h' st k=>st.at λo e=>k it (by simp) o e
 item:=by intro X hP hw hK hc i pins s σ H E I hf st hg;subst hP hw hK;obtain⟨xs,x,hq,hx⟩:=hg;obtain⟨its,rv,p,hz⟩:=I.tuple hq;obtain⟨u,hu,ru⟩:=rv.get hx;obtain⟨f0,f1,f2,f3,f4,f5⟩:=hf it (by simp);refine wpAny_pyNext_tuple_item st (show s.heap.IsTuple a its.toArray from p) (x:=u) (by simpa using hu) λh' st' sb=>?_;have I1:Inv X pins σ H { s with heap:=h' }:=I.turned (t':=s.toks) (λb o hb e=>(sb.2 b hb).trans e) f0 f1 f3 f4 f5;obtain⟨o,e,c,d⟩:=id st';exact⟨u,rfl,CD (s:={ s with heap:=h' }) e c d (by decide) ⟨x,H,I1,ru,⟨rfl,λys hy=>by rw[I.ED hy hq];exact hx⟩,st',λb hb=>(hf b hb).1⟩⟩
 done:=by intro X hP hw hK hc i pins s σ H E I hf st hg;subst hP hw hK;obtain⟨xs,hq,hx⟩:=hg;obtain⟨its,rv,p,hz⟩:=I.tuple hq;obtain⟨f0,f1,f2,f3,f4,f5⟩:=hf it (by simp);have hl:=rv.length;exact wpAny_pyNext_tuple_end (I.ok.hd hc) st (show s.heap.IsTuple a its.toArray from p) (by simp;omega) λh' eb=>⟨rfl,I.turned (t':=s.toks) (λb o hb e=>eb b o hb e) f0 f1 f3 f4 f5⟩
 self:=λ_ _ _ _ _ st h=>wpAny_pyIter_tupleiter st h
def A9(it:Addr)(lo:Int)(n:Nat):Turn P w K tg (mL lo n) [it] it (λi h=>IsRangeIter h it (lo+(i:Nat)*1) ((n:Int)-(i:Nat)) 1) where
 mem:=by simp
 obj:=λi h st b hb=>by
  have e:b=it:=by simpa using hb
  subst e;exact⟨_,st,λv z=>by
   have z':Data.fields _=Data.cell v:=z;cases z'⟩
 keep:=λi h h' st k=>k it (by simp) _ st
 item:=by intro X hP hw hK hc i pins s σ H E I hf st hg;subst hP hw hK;obtain⟨f0,f1,f2,f3,f4,f5⟩:=hf it (by simp);have W:=Walks.range (prog:=X.prog) (w:=X.w) (I.ok.hd hc) it lo 1 n;refine W.item i s _ _ hg st λv h' tk hv st' kk=>?_;obtain⟨t,rfl⟩:=hv;have I1:Inv X pins σ H { s with heap:=h',toks:=tk }:=I.turned (λb o hb e=>kk b o (by simpa using hb) e) f0 f1 f3 f4 f5;refine⟨_,rfl,CD (s:={ s with heap:=h',toks:=tk }) (n := "range_iterator") st' rfl rfl (by decide) ⟨.int (lo+i),H,I1,⟨t,?_⟩,⟨rfl,rfl⟩,st',λb hb=>(hf b hb).1⟩⟩;rw[Int.mul_one]
 done:=by intro X hP hw hK hc i pins s σ H E I hf st hg;subst hP hw hK;obtain⟨f0,f1,f2,f3,f4,f5⟩:=hf it (by simp);exact wpAny_pyNext_range_end (I.ok.hd hc) st (by have:n<=i:=hg;omega) λh' eb=>⟨rfl,I.turned (t':=s.toks) (λb o hb e=>eb b o hb e) f0 f1 f3 f4 f5⟩
 self:=λ_ _ _ _ _ st h=>wpAny_pyIter_rangeiter st h
section
variable {X:Cx}{tg:Expr}
def GK(K:aD)(tl:TE):TI:=λσ H R=>tl σ H λx H1=>∃a,x=.ref a/\(∃xs,bE K H1 a xs)/\R (KH K a) H1
def Sb(K:aD)(tl:TE):TI:=λσ H R=>tl σ H λx H1=>∃a,x=.ref a/\(∃xs,cM K H1 a xs)/\R (KI K a) H1
def cI{l:Expr}{tl:TE}(hl:PE X l tl):PI X tg l (GK X.K tl):=by
 intro pins s σ H R I h;refine cT (hl pins s σ H _ I h) λv s1 zq=>?_;obtain⟨x,H1,I1,r1,q1⟩:=zq;obtain⟨a,e,⟨xs,hq⟩,q⟩:=q1;subst e;cases r1;obtain⟨its,rv,p,hz⟩:=I1.list hq;refine wpAny_pyIter_list p.isList ?_;refine⟨s1.heap.objs.size,[s1.heap.objs.size],_,_,H1,rfl,I1.kept (t':=s1.toks) λb o e=>c9 _ e,EF a _,⟨_,iE _ rfl,rfl,rfl⟩,λb hb=>?_,q⟩;have e:b=s1.heap.objs.size:=by simpa using hb
 subst e;exact I1.nJ (az _) (I1.hok.fresh (az _))
def GL{l:Expr}{tl:TE}(hl:PE X l tl):PI X tg l (Sb X.K tl):=by
 intro pins s σ H R I h;refine cT (hl pins s σ H _ I h) λv s1 zq=>?_;obtain⟨x,H1,I1,r1,q1⟩:=zq;obtain⟨a,e,⟨xs,hq⟩,q⟩:=q1;subst e;cases r1;obtain⟨its,rv,p,hz⟩:=I1.tuple hq;refine wpAny_pyIter_tuple (show s1.heap.IsTuple a its.toArray from p) ?_;refine⟨s1.heap.objs.size,[s1.heap.objs.size],_,_,H1,rfl,I1.kept (t':=s1.toks) λb o e=>c9 _ e,A8 a _,⟨_,iE _ rfl,rfl,rfl⟩,λb hb=>?_,q⟩;have e:b=s1.heap.objs.size:=by simpa using hb
 subst e;exact I1.nJ (az _) (I1.hok.fresh (az _))
def yk{σ:St}{R:It->Hp->Prop}{lo hi:Int}{t u v:Tok}{tk:Nat}(I:Inv X pins σ H s)(h1:-(2 ^ 62)<=lo)(h2:lo<2 ^ 62)(h3:-(2 ^ 62)<=hi)(h4:hi<2 ^ 62)
  (q:R (mL lo (hi-lo).toNat) H):wpAny (model X.prog X.w) X.A (pyIter (.ref s.heap.objs.size)) (Z5 X pins σ tg R) E { s with heap:=s.heap.push { cls:=.type "range", data:=.fields #[.int lo t,.int hi u,.int 1 v] },toks:=tk }:=by
 refine wpAny_pyIter_range (IsRange.new ..) (small_one h1 h2 h3 h4) ?_;have I1:Inv X pins σ H { s with heap:=s.heap.push { cls:=.type "range", data:=.fields #[.int lo t,.int hi u,.int 1 v] },toks:=tk }:=I.kept λb o e=>c9 _ e;refine⟨(s.heap.push { cls:=.type "range", data:=.fields #[.int lo t,.int hi u,.int 1 v] }).objs.size,[(s.heap.push { cls:=.type "range", data:=.fields #[.int lo t,.int hi u,.int 1 v] }).objs.size],_,_,H,rfl,
  I1.kept (t':=tk) λb o e=>c9 _ e,A9 _ lo (hi-lo).toNat,?_,λb hb=>?_,q⟩
 .have e1:lo+((0:Nat):Int)*1=lo:=by simp
  have e2:(((hi-lo).toNat:Nat):Int)-((0:Nat):Int)=Builtin.Range.rangeSize lo hi 1:=by rw[rangeSize_one];split<;>omega
  show IsRangeIter _ _ (lo+((0:Nat):Int)*1) ((((hi-lo).toNat:Nat):Int)-((0:Nat):Int)) 1;rw[e1,e2];exact iE _ rfl
 .have e:b=(s.heap.push { cls:=.type "range", data:=.fields #[.int lo t,.int hi u,.int 1 v] }).objs.size:=by simpa using hb
  subst e;exact I1.nJ (az _) (I1.hok.fresh (az _))
def Na(ta:TA):TI:=λσ H R=>ta σ H λvs H1=>∃j:Int,vs=[.int j] /\ -(2 ^ 62)<=j/\j<2 ^ 62/\R (mL 0 j.toNat) H1
def Nb(ta:TA):TI:=λσ H R=>ta σ H λvs H1=>∃i j:Int,vs=[.int i,.int j]/\(-(2 ^ 62)<=i/\i<2 ^ 62 /\ -(2 ^ 62)<=j/\j<2 ^ 62)/\R (mL i (j-i).toNat) H1
def dw{a:Expr}{ta:TA}{p:Pos}(hg:Gl X "range")(hm:X.mg "range" = none)(ha:PA X [a] ta)(hs:starEach [a] X.env=[(false,eval a X.env)]:=by rfl):PI X tg (.Call (.Name "range" p) [a] [] pos) (Na ta):=by
 intro pins s σ H R I h;refine Call_ (jL I hg hm boot_range (ki (cT (ha pos pins s σ H _ I h) λus s1 zq=>?_) hs rfl));obtain⟨vs,H1,I1,r1,q1⟩:=zq;obtain⟨j,e,q1,q2,q⟩:=q1;subst e;cases r1 with
 | cons r rr =>
  cases rr;obtain⟨t,rfl⟩:=r;exact call_range_1 (yk I1 (by omega) (by omega) q1 q2 (by simpa using q))
def EG{a b:Expr}{ta:TA}{p:Pos}(hg:Gl X "range")(hm:X.mg "range" = none)(ha:PA X [a,b] ta)(hs:starEach [a,b] X.env=[(false,eval a X.env),(false,eval b X.env)]:=by rfl)(hs2:starEach [b] X.env=[(false,eval b X.env)]:=by rfl):
  PI X tg (.Call (.Name "range" p) [a,b] [] pos) (Nb ta):=by
 intro pins s σ H R I h;refine Call_ (jL I hg hm boot_range (ki (cT (ha pos pins s σ H _ I h) λus s1 zq=>?_) (by rw[hs,hs2]) (by rw[hs2];rfl)));obtain⟨vs,H1,I1,r1,q1⟩:=zq;obtain⟨i,j,e,⟨q1,q2,q3,q4⟩,q⟩:=q1;subst e;cases r1 with
 | cons r rr =>
  cases rr with
  | cons r' rr =>
   cases rr;obtain⟨t,rfl⟩:=r;obtain⟨t',rfl⟩:=r';exact call_range_2 (yk I1 q1 q2 q3 q4 q)
def Sd(wi:TI)(g:TG)(tb:TS):TS:=λD σ H=>wi σ H λJ H1=>∃W:Nat->Nat->St->Hp->Prop,(∃m,W 0 m σ H1)/\∀i m σ H,W i m σ H ->
 (J.stop i H/\D.nx σ H)\/(J.go i H/\∃N:St->Hp->Prop,(∀σ' H',N σ' H'->∃m',m'<m/\W (i+1) m' σ' H')/\∀x H',J.Gz i H x H'->g x σ H' λσ2 H2=>tb { D with nx:=N,ct:=N,bk:=D.nx } σ2 H2)
def lA(fp:List Addr)(h:Heap):List (Addr×Obj):=fp.filterMap λb=>(h.get? b).map λo=>(b,o)
def dZ{o:Obj}(hb:b∈fp)(e:h.get? b=some o):(b,o)∈lA fp h:=List.mem_filterMap.mpr ⟨b,hb,by rw[e];rfl⟩
def pP{p:Addr×Obj}(hp:p∈lA fp h):p.1∈fp/\h.get? p.1=some p.2:=by
 obtain⟨b,hb,e⟩:=List.mem_filterMap.mp hp;cases q:h.get? b with
 | none=>rw[q] at e;cases e
 | some o =>
  rw[q] at e;have e':(b,o)=p:=Option.some.inj e;subst e';exact⟨hb,q⟩
def Inv.pinned{σ:St}(I:Inv X pins σ H s)(hf:∀b∈fp,iH X pins H b)(ho:∀b∈fp,∃o,s.heap.get? b=some o/\∀v,o.data≠.cell v):Inv X (pins++lA fp s.heap) σ H s :=
 I.lZ λp hp=>(aO.mp hp).elim (λz=>I.pin p (cA _ z)) λz=>by obtain⟨hb,e⟩:=pP z;obtain⟨f0,f1,f2,_⟩:=hf p.1 hb;obtain⟨o,e',d⟩:=ho p.1 hb;rw[e] at e';cases e';exact⟨e,f0,f1,f2,d⟩
def Inv.lB{pl:List (Addr×Obj)}{σ:St}(I:Inv X (pins++pl) σ H s):Inv X pins σ H s:=I.lZ λp hp=>I.pin p (cA _ (mZ _ hp))
def eK{iter:Expr}{wi:TI}(hp:PassesOwn (model X.prog X.w) X.A X.env X.xe)(hc:X.calm=true)(hi:PI X tg iter wi)(hg:PG X tg g)(hb:uR X body tb)
  (hs:∀x,foldedSetIterable iter X.env x=pure x:=by intro _;rfl):PS X (.For tg iter body [] pos) (Sd wi g tb):=by
 intro pins s σ H D I h;refine wpAny_For (cT (hi pins s σ H _ I h) λv s1 h1=>cT h1 λitv s2 h2=>?_) hs;obtain⟨it,fp,tn,J,H2,e,I2,T,st2,f2,W,⟨m0,w0⟩,turn⟩:=h2;subst e;have r9:∀{H':Hp},(∀b∈fp,H' b=none)->∀b∈fp,iH X pins H' b:=λhn b hb=>⟨hn b hb,(f2 b hb).2⟩;refine codeAny_forLoop_any (λn s'=>∃i σ' H',Inv X pins σ' H' s'/\tn i s'.heap/\(∀b∈fp,H' b=none)/\W i n σ' H') ?_ m0 ⟨0,σ,H2,I2,st2,λb hb=>(f2 b hb).1,w0⟩;rintro n s3 ⟨i,σ3,H3,I3,st3,Nc,w3⟩;rcases turn i n σ3 H3 w3 with⟨stop,qn⟩|⟨go,N,hN,step⟩
 .refine wpAny_passesOwn hp (cT (T.done X rfl rfl rfl hc i pins s3 σ3 H3 X.xe I3 (r9 Nc) st3 stop) λr s4 ⟨hr,I4⟩=>?_);subst hr;exact wpAny_execs_nil ⟨σ3,H3,I4,qn⟩
 .refine wpAny_passesOwn hp (cT (T.item X rfl rfl rfl hc i pins s3 σ3 H3 X.xe I3 (r9 Nc) st3 go) λr s4 ⟨u,hr,h4⟩=>?_);subst hr;refine wpAny_passesOwn hp (cT h4 λ_ s5 zq=>?_);obtain⟨x,H5,I5,r5,y5,Ba,Se⟩:=zq;have Sf:=I5.pinned (r9 Se) (T.obj _ _ Ba);refine wpAny_passesOwn hp (cT (hg _ s5 σ3 H5 x u _ Sf r5 (step x H5 y5)) λ_ s6 zq=>?_);obtain⟨σ6,H6,I6,q6⟩:=zq;refine wpAny_passesOwn hp (cT (hb _ s6 σ6 H6 _ I6 q6) λf s7 q7=>?_);have again:∀{σ7:St}{H7:Hp},Inv X (pins++lA fp s5.heap) σ7 H7 s7->N σ7 H7->∃m,m<n/\∃i σ' H',Inv X pins σ' H' s7/\tn i s7.heap/\(∀b∈fp,H' b=none)/\W i m σ' H':=λ{σ7 H7} I7 n7=>by obtain⟨m',hm,w7⟩:=hN σ7 H7 n7;refine⟨m',hm,i+1,σ7,H7,I7.lB,T.keep _ _ _ Ba λb hb o e=>(I7.pin (b,o) (cA _ (cA _ (dZ hb e)))).1,λb hb=>?_,w7⟩;obtain⟨o,e,d⟩:=T.obj _ _ Ba b hb;exact(I7.pin (b,o) (cA _ (cA _ (dZ hb e)))).2.1
  cases f with
  | next=>obtain⟨σ7,H7,I7,n7⟩:=q7;exact again I7 n7
  | cont=>obtain⟨σ7,H7,I7,n7⟩:=q7;exact again I7 n7
  | brk=>obtain⟨σ7,H7,I7,q7⟩:=q7;exact⟨σ7,H7,I7.lB,q7⟩
  | ret v=>obtain⟨x7,σ7,H7,I7,r7,q7⟩:=q7;exact⟨x7,σ7,H7,I7.lB,r7,q7⟩
end
def GN{σ:St}(Pv:Nat->St->Hp->Prop)(h0:Pv 0 σ H)(hl:∀i σ H,i<=xs.length->Pv i σ H->bE K H a xs)
  (hs:∀i x σ H,xs[i]?=some x->Pv i σ H->g x σ H λσ2 H2=>tb { D with nx:=Pv (i+1),ct:=Pv (i+1),bk:=D.nx } σ2 H2)(hd:∀σ H,Pv xs.length σ H->D.nx σ H):
  ∃W:Nat->Nat->St->Hp->Prop,(∃m,W 0 m σ H)/\∀i m σ H,W i m σ H ->
   ((KH K a).stop i H/\D.nx σ H)\/((KH K a).go i H/\∃N:St->Hp->Prop,(∀σ' H',N σ' H'->∃m',m'<m/\W (i+1) m' σ' H')/\∀x H',(KH K a).Gz i H x H'->g x σ H' λσ2 H2=>tb { D with nx:=N,ct:=N,bk:=D.nx } σ2 H2):=by
 refine⟨λi m σ H=>m=xs.length-i/\i<=xs.length/\Pv i σ H,⟨xs.length,by simp,aH _,h0⟩,?_⟩;rintro i m σ H ⟨rfl,hi,p⟩;have q:=hl i σ H hi p;by_cases hlt:i<xs.length
 .refine .inr ⟨⟨xs,xs[i],q,by simp[hlt]⟩,Pv (i+1),λσ' H' p'=>⟨xs.length-(i+1),by omega,rfl,hlt,p'⟩,λx H' y=>?_⟩;obtain⟨e,y⟩:=y;subst e;exact hs i x σ _ (y xs q) p
 .have e:i=xs.length:=by omega
  subst e;exact .inl ⟨⟨xs,q,az _⟩,hd σ H p⟩
def K7{σ:St}(Pv:Nat->St->Hp->Prop)(h0:Pv 0 σ H)(hl:∀i σ H,i<=xs.length->Pv i σ H->cM K H a xs)
  (hs:∀i x σ H,xs[i]?=some x->Pv i σ H->g x σ H λσ2 H2=>tb { D with nx:=Pv (i+1),ct:=Pv (i+1),bk:=D.nx } σ2 H2)(hd:∀σ H,Pv xs.length σ H->D.nx σ H):
  ∃W:Nat->Nat->St->Hp->Prop,(∃m,W 0 m σ H)/\∀i m σ H,W i m σ H ->
   ((KI K a).stop i H/\D.nx σ H)\/((KI K a).go i H/\∃N:St->Hp->Prop,(∀σ' H',N σ' H'->∃m',m'<m/\W (i+1) m' σ' H')/\∀x H',(KI K a).Gz i H x H'->g x σ H' λσ2 H2=>tb { D with nx:=N,ct:=N,bk:=D.nx } σ2 H2):=by
 refine⟨λi m σ H=>m=xs.length-i/\i<=xs.length/\Pv i σ H,⟨xs.length,by simp,aH _,h0⟩,?_⟩;rintro i m σ H ⟨rfl,hi,p⟩;have q:=hl i σ H hi p;by_cases hlt:i<xs.length
 .refine .inr ⟨⟨xs,xs[i],q,by simp[hlt]⟩,Pv (i+1),λσ' H' p'=>⟨xs.length-(i+1),by omega,rfl,hlt,p'⟩,λx H' y=>?_⟩;obtain⟨e,y⟩:=y;subst e;exact hs i x σ _ (y xs q) p
 .have e:i=xs.length:=by omega
  subst e;exact .inl ⟨⟨xs,q,az _⟩,hd σ H p⟩
def EH{lo:Int}{σ:St}(Pv:Nat->St->Hp->Prop)(h0:Pv 0 σ H)
  (hs:∀i σ H,i<n->Pv i σ H->g (.int (lo+i)) σ H λσ2 H2=>tb { D with nx:=Pv (i+1),ct:=Pv (i+1),bk:=D.nx } σ2 H2)(hd:∀σ H,Pv n σ H->D.nx σ H):
  ∃W:Nat->Nat->St->Hp->Prop,(∃m,W 0 m σ H)/\∀i m σ H,W i m σ H ->
   ((mL lo n).stop i H/\D.nx σ H)\/((mL lo n).go i H/\∃N:St->Hp->Prop,(∀σ' H',N σ' H'->∃m',m'<m/\W (i+1) m' σ' H')/\∀x H',(mL lo n).Gz i H x H'->g x σ H' λσ2 H2=>tb { D with nx:=N,ct:=N,bk:=D.nx } σ2 H2):=by
 refine⟨λi m σ H=>m=n-i/\i<=n/\Pv i σ H,⟨n,by simp,aH _,h0⟩,?_⟩;rintro i m σ H ⟨rfl,hi,p⟩;by_cases hlt:i<n
 .refine .inr ⟨hlt,Pv (i+1),λσ' H' p'=>⟨n-(i+1),by omega,rfl,hlt,p'⟩,λx H' y=>?_⟩;obtain⟨e,y⟩:=y;subst e y;exact hs i σ _ hlt p
 .have e:i=n:=by omega
  subst e;exact .inl ⟨az _,hd σ H p⟩
abbrev R2:=V->V->Hp->VK->Prop
def jS(X:Cx)(f:Value->Value->Sem Value)(r:R2):Prop :=
 ∀(pins:List (Addr×Obj))(s:Shared)(σ:St)(H:Hp)(x y:V)(v u:Value)(Q:VK),Inv X pins σ H s->RelV x v->RelV y u->r x y H Q ->
  wpAny (model X.prog X.w) X.A (f v u) (EP X pins σ Q) X.xe s
def WJ(X:Cx)(f:Value->Sem Value)(r:V->Hp->VK->Prop):Prop :=
 ∀(pins:List (Addr×Obj))(s:Shared)(σ:St)(H:Hp)(x:V)(v:Value)(Q:VK),Inv X pins σ H s->RelV x v->r x H Q ->
  wpAny (model X.prog X.w) X.A (f v) (EP X pins σ Q) X.xe s
def dj(X:Cx)(f:Value)(r:List V->Hp->VK->Prop):Prop :=
 ∀(pins:List (Addr×Obj))(s:Shared)(σ:St)(H:Hp)(xs:List V)(us:List Value)(Q:VK),Inv X pins σ H s->Vals xs us->r xs H Q ->
  wpAny (model X.prog X.w) X.A (call f us) (EP X pins σ Q) X.xe s
def WL(X:Cx)(r:V->Hp->(Bool->Hp->Prop)->Prop):Prop :=
 ∀(pins:List (Addr×Obj))(s:Shared)(σ:St)(H:Hp)(x:V)(v:Value)(Q:Bool->Hp->Prop),Inv X pins σ H s->RelV x v->r x H Q ->
  wpAny (model X.prog X.w) X.A (truthy v) (TP X pins σ Q) X.xe s
def OX(r:R2)(ta tb:TE):TE:=λσ H Q=>ta σ H λx H1=>tb σ H1 λy H2=>r x y H2 Q
def Z6(r:V->Hp->VK->Prop)(ta:TE):TE:=λσ H Q=>ta σ H λx H1=>r x H1 Q
def rI(C:Int->Int->Prop)(g:Int->Int->V):R2:=λx y H Q=>∃i j,x=.int i/\y=.int j/\C i j/\Q (g i j) H
def K8(g:Int->Int->V):R2:=λx y H Q=>∃i j,x=.int i/\y=.int j/\Q (g i j) H
def rU(g:Int->V):V->Hp->VK->Prop:=λx H Q=>∃i,x=.int i/\Q (g i) H
section
variable {X:Cx}{a b c:Expr}{ta tb tc:TE}{pos:Pos}
def OY(ha:PE X a ta)(hb:PE X b tb){σ:St}{R:V->V->Hp->Prop}(I:Inv X pins σ H s)
  (h:ta σ H λx H1=>tb σ H1 λy H2=>R x y H2){Q:Value->Shared->Prop}
  (hf:∀v u s2 x y H2,Inv X pins σ H2 s2->RelV x v->RelV y u->R x y H2->wpAny (model X.prog X.w) X.A (f v u) Q X.xe s2):
  wpAny (model X.prog X.w) X.A (eval a X.env) (λv s₁=>wpAny (model X.prog X.w) X.A (eval b X.env) (λu s₂=>wpAny (model X.prog X.w) X.A (f v u) Q X.xe s₂) X.xe s₁) X.xe s:=by refine cT (ha pins s σ H _ I h) λv s1 zq=>?_;obtain⟨x,H1,I1,r1,q1⟩:=zq;refine cT (hb pins s1 σ H1 _ I1 q1) λu s2 zq=>?_;obtain⟨y,H2,I2,r2,q2⟩:=zq;exact hf v u s2 x y H2 I2 r1 r2 q2
def ay{op:Operator}(ho:jS X (binaryOp op) r)(ha:PE X a ta)(hb:PE X b tb):PE X (.BinOp a op b pos) (OX r ta tb):=by intro pins s σ H Q I h;exact wpAny_BinOp (OY ha hb I h λv u s2 x y H2 I2 rx ry q=>ho pins s2 σ H2 x y v u Q I2 rx ry q)
def lC{op:UnaryOp}{r:V->Hp->VK->Prop}(ho:WJ X (unaryOp op) r)(ha:PE X a ta):PE X (.UnaryOp op a pos) (Z6 r ta):=by intro pins s σ H Q I h;exact UnaryOp_ (cT (ha pins s σ H _ I h) λv s1 ⟨x,H1,I1,r1,q1⟩=>ho pins s1 σ H1 x v Q I1 r1 q1)
def Sg{C:Int->Int->Prop}{g:Int->Int->Int}
  (rule:∀(i j:Int)(t u:Tok)(s:Shared)(Q:Value->Shared->Prop)(E:Value->Shared->Prop),C i j->Q (.int (g i j) s.toks) { s with toks:=s.toks+1 }->wpAny (model X.prog X.w) X.A (f (.int i t) (.int j u)) Q E s):
  jS X f (rI C λi j=>.int (g i j)):=by intro pins s σ H x y v u Q I rx ry h;obtain⟨i,j,rfl,rfl,hc,q⟩:=h;obtain⟨t,rfl⟩:=rx;obtain⟨t',rfl⟩:=ry;exact rule i j t t' s _ _ hc ⟨.int (g i j),H,I.tok _,⟨_,rfl⟩,q⟩
def Si{g:Int->Int->Int}
  (rule:∀(i j:Int)(t u:Tok)(s:Shared)(Q:Value->Shared->Prop)(E:Value->Shared->Prop),Q (.int (g i j) s.toks) { s with toks:=s.toks+1 }->wpAny (model X.prog X.w) X.A (f (.int i t) (.int j u)) Q E s):
  jS X f (K8 λi j=>.int (g i j)):=by intro pins s σ H x y v u Q I rx ry h;obtain⟨i,j,rfl,rfl,q⟩:=h;obtain⟨t,rfl⟩:=rx;obtain⟨t',rfl⟩:=ry;exact rule i j t t' s _ _ ⟨.int (g i j),H,I.tok _,⟨_,rfl⟩,q⟩
def K9{g:Int->Int->Bool}
  (rule:∀(i j:Int)(t u:Tok)(s:Shared)(Q:Value->Shared->Prop)(E:Value->Shared->Prop),Q (.bool (g i j)) s->wpAny (model X.prog X.w) X.A (f (.int i t) (.int j u)) Q E s):
  jS X f (K8 λi j=>.bl (g i j)):=by intro pins s σ H x y v u Q I rx ry h;obtain⟨i,j,rfl,rfl,q⟩:=h;obtain⟨t,rfl⟩:=rx;obtain⟨t',rfl⟩:=ry;exact rule i j t t' s _ _ ⟨.bl (g i j),H,I,rfl,q⟩
def WM(i j:Int):Prop:=0<j/\j<1073741824
def WN(i j:Int):Prop:=0<=j/\j<=1000000/\i.natAbs<2 ^ 64
def OZ(i j:Int):Prop:=(-(2 ^ 64)<i/\i<2 ^ 64)\/(-(2 ^ 64)<j/\j<2 ^ 64)
def OZ.ok{i j:Int}(h:OZ i j):IntMulOk i j:=by
 rcases h with⟨h1,h2⟩|⟨h1,h2⟩
 .exact .of_left (intBits_le_64 h1 h2)
 .exact .of_right (intBits_le_64 h1 h2)
def aZ:jS X (binaryOp .Add) (K8 λi j=>.int (i+j)):=Si λ_ _ _ _ _ _ _ q=>add_int q
def iI:jS X (binaryOp .Sub) (K8 λi j=>.int (i-j)):=Si λ_ _ _ _ _ _ _ q=>sub_int q
def jb:jS X (binaryOp .Mult) (rI OZ λi j=>.int (i*j)):=Sg λ_ _ _ _ _ _ _ hc q=>mul_int q hc.ok
def bT:jS X (binaryOp .FloorDiv) (rI WM λi j=>.int (i / j)):=Sg λi j _ _ _ _ _ hc q=>by have h1:(0:Int)<j:=hc.1;have h2:j<1073741824:=hc.2;exact floordiv_int (by omega) (by rw[Int.fdiv_eq_ediv_of_nonneg i (by omega)];exact q) (.inl (PyProof.noPylong_small (by omega)))
def bh:jS X (binaryOp .Mod) (rI (λ_ j=>0<j) λi j=>.int (i % j)):=Sg λi j _ _ _ _ _ hc q=>by have h1:(0:Int)<j:=hc;exact mod_int' (by omega) (by rw[Int.fmod_eq_emod_of_nonneg i (by omega)];exact q)
def GO:jS X (binaryOp .Pow) (rI WN λi j=>.int (i ^ j.toNat)):=Sg λ_ _ _ _ _ _ _ hc q=>pow_int_small hc.1 hc.2.1 hc.2.2 q
def unI{f:Value->Sem Value}{g:Int->Int}
  (rule:∀(i:Int)(t:Tok)(s:Shared)(Q:Value->Shared->Prop)(E:Value->Shared->Prop),Q (.int (g i) s.toks) { s with toks:=s.toks+1 }->wpAny (model X.prog X.w) X.A (f (.int i t)) Q E s):
  WJ X f (rU λi=>.int (g i)):=by intro pins s σ H x v Q I rx h;obtain⟨i,rfl,q⟩:=h;obtain⟨t,rfl⟩:=rx;exact rule i t s _ _ ⟨.int (g i),H,I.tok _,⟨_,rfl⟩,q⟩
def jc:WJ X (unaryOp .USub) (rU λi=>.int (-i)):=unI λ_ _ _ _ _ q=>neg_int q
end
def Sj:V->V->Bool
 | .cY,.cY=>true|.cY,.int _=>true|.int _,.cY=>true|.cY,.bl _=>true|.bl _,.cY=>true|.cY,.str _=>true|.str _,.cY=>true
 | .int _,.int _=>true|.bl _,.bl _=>true|.str _,.str _=>true|.Ey _,.Ey _=>true
 | .int _,.str _=>true|.str _,.int _=>true|.bl _,.str _=>true|.str _,.bl _=>true
 | _,_=>false
def WO:R2:=λx y H Q=>Sj x y=true/\Q (.bl (decide (x=y))) H
def Z7:R2:=λx y H Q=>Sj x y=true/\Q (.bl (!decide (x=y))) H
def CF{i j:Int}:decide (V.int i=V.int j)=(i==j):=by rw[Bool.eq_iff_iff];simp
def GP{i j:Bool}:decide (V.bl i=V.bl j)=(i==j):=by rw[Bool.eq_iff_iff];simp
def CG{i j:Str}:decide (V.str i=V.str j)=(i==j):=by rw[Bool.eq_iff_iff];simp
def CH{i j:Array UInt8}:decide (V.Ey i=V.Ey j)=(i.toList==j.toList):=by rw[Bool.eq_iff_iff];cases i;cases j;simp
section
variable {X:Cx}{a b c:Expr}{ta tb tc:TE}{pos:Pos}
def bZ{σ:St}{Q:VK}{k k':Bool}(I:Inv X pins σ H s)(q:Q (.bl k) H)(e:k=k'):EP X pins σ Q (.bool k') s:=by subst e;exact⟨.bl k,H,I,rfl,q⟩
def dW:jS X (compareOp .Eq) WO:=by
 intro pins s σ H x y v u Q I rx ry h;obtain⟨hs,q⟩:=h;cases x with
 | cY =>
  cases rx;cases y with
  | cY=>cases ry;exact PySem.EqNone.eq_none_none (bZ I q (by simp))
  | bl j=>cases ry;exact PySem.EqNone.eq_none_bool (bZ I q (by simp))
  | int j=>obtain⟨t',rfl⟩:=ry;exact PySem.EqNone.eq_none_int (bZ I q (by simp))
  | str j=>obtain⟨t',rfl⟩:=ry;exact PySem.EqNone.eq_none_str (bZ I q (by simp))
  | _=>exact absurd (show false=true from hs) jT
 | bl i =>
  cases rx;cases y with
  | cY=>cases ry;exact PySem.EqNone.eq_bool_none (bZ I q (by simp))
  | bl j=>cases ry;exact eq_bool (bZ I q GP)
  | str j=>obtain⟨t',rfl⟩:=ry;exact PySem.EqMixed.eq_bool_str (bZ I q (by simp))
  | _=>exact absurd (show false=true from hs) jT
 | int i =>
  obtain⟨t,rfl⟩:=rx;cases y with
  | cY=>cases ry;exact PySem.EqNone.eq_int_none (bZ I q (by simp))
  | int j=>obtain⟨t',rfl⟩:=ry;exact eq_int (bZ I q CF)
  | str j=>obtain⟨t',rfl⟩:=ry;exact PySem.EqMixed.eq_int_str (bZ I q (by simp))
  | _=>exact absurd (show false=true from hs) jT
 | str i =>
  obtain⟨t,rfl⟩:=rx;cases y with
  | cY=>cases ry;exact PySem.EqNone.eq_str_none (bZ I q (by simp))
  | bl j=>cases ry;exact PySem.EqMixed.eq_str_bool (bZ I q (by simp))
  | int j=>obtain⟨t',rfl⟩:=ry;exact PySem.EqMixed.eq_str_int (bZ I q (by simp))
  | str j=>obtain⟨t',rfl⟩:=ry;exact eq_str (bZ I q CG)
  | _=>exact absurd (show false=true from hs) jT
 | Ey i =>
  obtain⟨t,rfl⟩:=rx;cases y with
  | Ey j=>obtain⟨t',rfl⟩:=ry;exact PySem.W.eq_bytes (bZ I q CH)
  | _=>exact absurd (show false=true from hs) jT
 | _=>cases y<;>exact absurd (show false=true from hs) jT
def Sk:jS X (compareOp .NotEq) Z7:=by
 intro pins s σ H x y v u Q I rx ry h;obtain⟨hs,q⟩:=h;cases x with
 | cY =>
  cases rx;cases y with
  | cY=>cases ry;exact PySem.EqNone.ne_none_none (bZ I q (by simp))
  | bl j=>cases ry;exact PySem.EqNone.ne_none_bool (bZ I q (by simp))
  | int j=>obtain⟨t',rfl⟩:=ry;exact PySem.EqNone.ne_none_int (bZ I q (by simp))
  | str j=>obtain⟨t',rfl⟩:=ry;exact PySem.EqNone.ne_none_str (bZ I q (by simp))
  | _=>exact absurd (show false=true from hs) jT
 | bl i =>
  cases rx;cases y with
  | cY=>cases ry;exact PySem.EqNone.ne_bool_none (bZ I q (by simp))
  | bl j=>cases ry;exact ne_bool (bZ I q (congrArg not GP))
  | str j=>obtain⟨t',rfl⟩:=ry;exact PySem.EqMixed.ne_bool_str (bZ I q (by simp))
  | _=>exact absurd (show false=true from hs) jT
 | int i =>
  obtain⟨t,rfl⟩:=rx;cases y with
  | cY=>cases ry;exact PySem.EqNone.ne_int_none (bZ I q (by simp))
  | int j=>obtain⟨t',rfl⟩:=ry;exact ne_int (bZ I q (congrArg not CF))
  | str j=>obtain⟨t',rfl⟩:=ry;exact PySem.EqMixed.ne_int_str (bZ I q (by simp))
  | _=>exact absurd (show false=true from hs) jT
 | str i =>
  obtain⟨t,rfl⟩:=rx;cases y with
  | cY=>cases ry;exact PySem.EqNone.ne_str_none (bZ I q (by simp))
  | bl j=>cases ry;exact PySem.EqMixed.ne_str_bool (bZ I q (by simp))
  | int j=>obtain⟨t',rfl⟩:=ry;exact PySem.EqMixed.ne_str_int (bZ I q (by simp))
  | str j=>obtain⟨t',rfl⟩:=ry;exact ne_str (bZ I q (congrArg not CG))
  | _=>exact absurd (show false=true from hs) jT
 | Ey i =>
  obtain⟨t,rfl⟩:=rx;cases y with
  | Ey j=>obtain⟨t',rfl⟩:=ry;exact PySem.W.ne_bytes (bZ I q (congrArg not CH))
  | _=>exact absurd (show false=true from hs) jT
 | _=>cases y<;>exact absurd (show false=true from hs) jT
def iz:jS X (compareOp .Lt) (K8 λi j=>.bl (decide (i<j))):=K9 λ_ _ _ _ _ _ _ q=>lt_int q
def CJ:jS X (compareOp .LtE) (K8 λi j=>.bl (decide (i<=j))):=K9 λ_ _ _ _ _ _ _ q=>le_int q
def yl:jS X (compareOp .Gt) (K8 λi j=>.bl (decide (j<i))):=K9 λ_ _ _ _ _ _ _ q=>gt_int q
def Sl:jS X (compareOp .GtE) (K8 λi j=>.bl (decide (j<=i))):=K9 λ_ _ _ _ _ _ _ q=>ge_int q
def O0:jS X (compareOp .Is) (λx y H Q=>y=.cY/\Q (.bl (decide (x=.cY))) H):=by
 intro pins s σ H x y v u Q I rx ry h;obtain⟨rfl,q⟩:=h;cases ry;refine is_none_gen (bZ I q ?_);cases x<;>first
  | (cases rx;rfl)
  | (obtain⟨t,rfl⟩:=rx;rfl)
def La:jS X (compareOp .IsNot) (λx y H Q=>y=.cY/\Q (.bl (!decide (x=.cY))) H):=by
 intro pins s σ H x y v u Q I rx ry h;obtain⟨rfl,q⟩:=h;cases ry;refine isnot_none_gen (bZ I q ?_);cases x<;>first
  | (cases rx;rfl)
  | (obtain⟨t,rfl⟩:=rx;rfl)
def jS.or{r':R2}(h:jS X f r)(h':jS X f r'):jS X f (λx y H Q=>r x y H Q\/r' x y H Q):=by
 intro pins s σ H x y v u Q I rx ry q;rcases q with q|q
 .exact h pins s σ H x y v u Q I rx ry q
 .exact h' pins s σ H x y v u Q I rx ry q
def aM(b:Expr)(h:op≠.In:=by decide)(h2:op≠.NotIn:=by decide):behindInMarks op b=false:=by
 have e1:(op==CmpOp.In)=false:=by cases op<;>first|rfl|exact absurd rfl h
 have e2:(op==CmpOp.NotIn)=false:=by cases op<;>first|rfl|exact absurd rfl h2
 cases b<;>simp[behindInMarks,e1,e2]
def gH(ho:jS X (compareOp op) r)(ha:PE X a ta)(hb:PE X b tb)(hm:behindInMarks op b=false):PE X (.Compare a [op] [b] pos) (OX r ta tb):=by intro pins s σ H Q I h;exact wpAny_Compare1 (OY ha hb I h λv u s2 x y H2 I2 rx ry q=>ho pins s2 σ H2 x y v u Q I2 rx ry q) hm
def GQ(t:TE):TT:=λσ H Q=>t σ H λx H'=>∃k,x=.bl k/\Q k H'
def aG(ho:jS X (compareOp op) r)(ha:PE X a ta)(hb:PE X b tb)(hm:behindInMarks op b=false):PT X (.Compare a [op] [b] pos) (GQ (OX r ta tb)):=by
 intro pins s σ H Q I h;refine wpAny_isTrue_Compare1 (cT (ha pins s σ H _ I h) λv s1 ⟨x,H1,I1,r1,q1⟩=>cT (hb pins s1 σ H1 _ I1 q1) λu s2 ⟨y,H2,I2,r2,q2⟩ =>
  cT (ho pins s2 σ H2 x y v u _ I2 r1 r2 q2) λc s3 ⟨z,H3,I3,r3,k,e,q3⟩=>?_) hm
 subst e;cases r3;exact wpAny_truthy_bool ⟨H3,I3,q3⟩
def GR(r r':R2)(ta tb tc:TE):TE:=λσ H Q=>ta σ H λx H1=>tb σ H1 λy H2=>r x y H2 λz H3=>∃k,z=.bl k /\
 (if k=true then tc σ H3 λw' H4=>r' y w' H4 Q else Q (.bl false) H3)
def GS{op':CmpOp}{r':R2}(ho:jS X (compareOp op) r)(ho':jS X (compareOp op') r')(ha:PE X a ta)(hb:PE X b tb)(hc:PE X c tc)
  (hm:lastMarks [op,op'] [b,c]=false:=by with_unfolding_all rfl):PT X (.Compare a [op,op'] [b,c] pos) (GQ (GR r r' ta tb tc)):=by
 intro pins s σ H Q I h;refine isTrue_chain (cT (ha pins s σ H _ I h) λv s1 ⟨x,H1,I1,r1,q1⟩=>test_link (cT (hb pins s1 σ H1 _ I1 q1) λu s2 ⟨y,H2,I2,r2,q2⟩ =>
  cT (ho pins s2 σ H2 x y v u _ I2 r1 r2 q2) λd s3 ⟨z,H3,I3,r3,k,e,q3⟩=>?_)) hm
 subst e;cases r3;refine wpAny_truthy_bool ?_;cases k with
 | false =>
  obtain⟨k',e',q'⟩:=q3;cases e';exact ite_ff ⟨H3,I3,q'⟩
 | true =>
  refine ite_tt (test_last (cT (hc pins s3 σ H3 _ I3 q3) λw' s4 zq=>?_));obtain⟨z',H4,I4,r4,q4⟩:=zq;refine cT (ho' pins s4 σ H4 y z' u w' _ I4 r2 r4 q4) λd' s5 zq=>?_;obtain⟨z2,H5,I5,r5,k2,e2,q5⟩:=zq;subst e2;cases r5;exact wpAny_truthy_bool ⟨H5,I5,q5⟩
def Lb(K:aD)(x:V)(H:Hp)(k:Bool):Prop :=
 match x with
 | .cY=>k=false
 | .bl b=>k=b
 | .int i=>k=(i != 0)
 | .str y=>y.length<=sizeLine/\k=((y.length:Int) != 0)
 | .Ey y=>y.size<=sizeLine/\k=((y.size:Int) != 0)
 | .ref p=>(∃xs,bE K H p xs/\k = !xs.isEmpty)\/(∃xs,cM K H p xs/\k = !xs.isEmpty)\/∃kvs,H p=some (.dK kvs)/\k = !kvs.isEmpty
 | _=>False
def Bb{κ:Type}{kvs:List (κ×V)}{vs:List (κ×Value)}(r:KV kvs vs):(!vs.isEmpty) = !kvs.isEmpty:=by cases r<;>rfl
def sj{its:List Value}(r:Vals xs its):(!its.toArray.isEmpty) = !xs.isEmpty:=by cases r<;>simp
def pQ:(sizeLine:Nat)<2 ^ 63:=by rw[sizeLine_eq];decide
def O1:WL X (λx H Q=>∃k,Lb X.K x H k/\Q k H):=by
 intro pins s σ H x v Q I rx h;obtain⟨k,e,q⟩:=h;have hl:=pQ;have hs:sizeLine=16777216:=sizeLine_eq;cases x with
 | cY =>
  cases rx;have e':k=false:=e;subst e';exact truthy_none ⟨H,I,q⟩
 | bl b =>
  cases rx;have e':k=b:=e;subst e';exact wpAny_truthy_bool ⟨H,I,q⟩
 | int i =>
  obtain⟨t,rfl⟩:=rx;have e':k=(i != 0):=e;subst e';exact PySem.P.truthy_int ⟨H,I,q⟩
 | str y =>
  obtain⟨t,rfl⟩:=rx;obtain⟨hy,e'⟩:y.length<=sizeLine/\k=((y.length:Int) != 0):=e;subst e';exact PySem.P.truthy_str (by omega) ⟨H,I.tok _,q⟩
 | Ey y =>
  obtain⟨t,rfl⟩:=rx;obtain⟨hy,e'⟩:y.size<=sizeLine/\k=((y.size:Int) != 0):=e;subst e';exact PySem.W.truthy_bytes (by omega) ⟨H,I.tok _,q⟩
 | ref p =>
  cases rx;have e':(∃xs,bE X.K H p xs/\k = !xs.isEmpty)\/(∃xs,cM X.K H p xs/\k = !xs.isEmpty)\/∃kvs,H p=some (.dK kvs)/\k = !kvs.isEmpty:=e;rcases e' with⟨xs,hx,e'⟩|⟨xs,hx,e'⟩|⟨kvs,hx,e'⟩
  .subst e';obtain⟨its,r,pl,hz⟩:=I.list hx;have hlen:=r.length;exact wpAny_truthy_list pl.isList (by simp only[aV];omega) ⟨H,I.tok _,by rw[sj r];exact q⟩
  .subst e';obtain⟨its,r,pl,hz⟩:=I.tuple hx;have hlen:=r.length;exact truthy_tuple pl (by simp only[aV];omega) ⟨H,I.tok _,by rw[sj r];exact q⟩
  .subst e';obtain⟨hz,hS,vs,r,m⟩:kvs.length<=sizeLine/\(p==sysModules)=false/\∃vs,KV kvs vs/\s.heap.DictOf (bK X.prog X.w) p vs:=I.hok p _ hx;have hlen:kvs.length=vs.length:=g9 r;exact wpAny_truthy_dict hS m (by omega) ⟨H,I.tok _,by rw[Bb r];exact q⟩
 | _=>exact(show False from e).elim
def GU(ha:PE X a ta)(he:∀whole,isTrue a X.env whole=(do let v <- whole;standAt a.pos;holding [v] (truthy v))):
  PT X a (λσ H Q=>ta σ H λx H'=>∃k,Lb X.K x H' k/\Q k H'):=by intro pins s σ H Q I h;exact isTrue_plain (cT (ha pins s σ H _ I h) λv s1 ⟨x,H1,I1,r1,q1⟩=>O1 pins s1 σ H1 x v Q I1 r1 q1) (he _)
def vals1{x:V}(r:Vals [x] us):∃u,us=[u]/\RelV x u:=by
 cases r with
 | cons r1 r2=>cases r2;exact⟨_,rfl,r1⟩
def vals2{x y:V}(r:Vals [x,y] us):∃u w',us=[u,w']/\RelV x u/\RelV y w':=by
 cases r with
 | cons r1 r2 =>
  cases r2 with
  | cons r3 r4=>cases r4;exact⟨_,_,rfl,r1,r3⟩
def EI(hc:X.calm=true):dj X (.builtin "min") (λxs H Q=>∃i j,xs=[.int i,.int j]/\Q (.int (if j<i then j else i)) H):=by
 intro pins s σ H xs us Q I r h;obtain⟨i,j,rfl,q⟩:=h;obtain⟨u,w',rfl,⟨t,rfl⟩,⟨t',rfl⟩⟩:=vals2 r;refine min_two_ints (I.ok.hd hc) λh' tk k=>⟨_,H,I.kept k,?_,q⟩;by_cases hj:j<i
 .rw[if_pos hj,if_pos hj];exact⟨_,rfl⟩
 .rw[if_neg hj,if_neg hj];exact⟨_,rfl⟩
def EJ:dj X (.type "int") (λxs H Q=>(∃i,xs=[.int i]/\Q (.int i) H)\/∃k,xs=[.bl k]/\Q (.int (if k then 1 else 0)) H):=by
 intro pins s σ H xs us Q I r h;rcases h with⟨i,rfl,q⟩|⟨k,rfl,q⟩
 .obtain⟨u,rfl,t,rfl⟩:=vals1 r;exact call_int_int ⟨.int i,H,I,⟨_,rfl⟩,q⟩
 .obtain⟨u,rfl,r1⟩:=vals1 r;cases r1;exact call_int_bool ⟨.int (if k then 1 else 0),H,I.tok _,⟨_,rfl⟩,q⟩
end
structure O2 (h:Heap) (x dx C:Addr) (mA:Str->Option Value):Prop where
 obj:h.get? x=some (PySem.W.instObj C dx)
 ns:h.Ns1 dx mA
 ne:dx≠x
def EK{dx:Addr}{mA:Str->Option Value}(n:h.Ns1 dx mA):∃od,h.get? dx=some od/\∀name,PySem.W.lookIn name od=some (mA name):=by
 obtain⟨o,es,ep,ho,hd,hk,_,hm⟩:=n;refine⟨o,ho,λname=>?_⟩;have e:=hm name;unfold nsFind findBy at e;rw[<- Array.find?_toList] at e;unfold PySem.W.lookIn;rw[hd];dsimp only;split
 .rename_i y q;rw[q] at e;exact congrArg some e
 .rename_i q;rw[q] at e;have a:es.toList.any (·.refKey)=false:=by rw[List.any_eq_false];intro y hy;obtain⟨z,t,hkey⟩:=hk y (Array.mem_toList_iff.mp hy);simp[DictEntry.refKey,hkey]
  have a':¬es.toList.any (·.refKey)=true:=by rw[a];exact jT
  rw[if_neg a'];exact congrArg some e
def O2.look{h:Heap}{x dx C:Addr}{mA:Str->Option Value}(I:O2 h x dx C mA):∃od,PySem.W.InstAt h x (PySem.W.instObj C dx) C (some od)/\∀name,PySem.W.lookIn name od=some (mA name) :=
 let⟨od,ho,hl⟩:=EK I.ns
 ⟨od,⟨I.obj,rfl,rfl,ho⟩,hl⟩
section
variable {prog:Program}{w:World}{A:Around}{E:Value->Shared->Prop}{s:Shared}{K:aD}{x dx C f:Addr}{mA:Str->Option Value}{name:Str}{v:Value}
end
def lz.some_of{o:Option Value}(r:lz (some v) o):∃u,o=some u/\RelV v u:=by
 cases o with
 | none=>exact(show False from r).elim
 | some u=>exact⟨u,rfl,r⟩
section
variable {P:Program}{w:World}{H H':Hp}{h h':Heap}{a C dx:Addr}{fs fs':List (Str×V)}
def Lc(hok:ng P w H h)(e:H a=some (.ins C dx fs)):∃mA,O2 h a dx C mA/\(∀f,lz (fs.lookup f) (mA f))/\PySem.Within mA (fs.map (·.1))/\fs.length<=1000/\H dx=some (.own a):=by obtain⟨d,z,ne,ob,mA,n,r,q⟩:=(show cZ P w H h a (.ins C dx fs) from hok a _ e);exact⟨mA,⟨ob,n,ne⟩,r,q,z,d⟩
end
structure WQ (K:aD) (C:Addr):Prop where
 pg:PySem.W.plainGet K C Str.empty=true
 hd:PySem.W.hasDictIn K C=true
 po:PySem.W.plainOver K C=true
 sa:PySem.W.findIn K (.ref C) "__setattr__" = some (some (.builtin "object.__setattr__"))
def WQ.get{C:Addr}(c:WQ K C)(f:Str):PySem.W.plainGet K C f=true:=c.pg
section
variable {X:Cx}{pins:List (Addr×Obj)}{σ:St}{H:Hp}{s:Shared}{a C dx:Addr}{fs:List (Str×V)}{f:Str}{v:V}{A:Around}{E:Value->Shared->Prop}
def Inv.made(I:Inv X pins σ H s):Inv X pins σ (upd (upd H s.heap.objs.size (.own (s.heap.objs.size+1))) (s.heap.objs.size+1) (.ins C s.heap.objs.size []))
  { s with heap:=(s.heap.push PySem.W.emptyDict).push (PySem.W.instObj C s.heap.objs.size) }:=by
 have e1:(s.heap.push PySem.W.emptyDict).get? s.heap.objs.size=some PySem.W.emptyDict:=iE s.heap rfl;have e2:((s.heap.push PySem.W.emptyDict).push (PySem.W.instObj C s.heap.objs.size)).get? (s.heap.objs.size+1)=some (PySem.W.instObj C s.heap.objs.size):=by
  have:=iE (s.heap.push PySem.W.emptyDict) (o:=PySem.W.instObj C s.heap.objs.size) rfl
  rwa [fF] at this
 have e3:(s.heap.push PySem.W.emptyDict).Ns s.heap.objs.size (λ_=>none):=⟨PySem.W.emptyDict,#[],_,e1,rfl,(λe he=>absurd he (by simp)),λ_=>rfl⟩;have I1:=I.laid (a:=s.heap.objs.size) (o:=.own (s.heap.objs.size+1)) (h':=s.heap.push PySem.W.emptyDict) (t':=s.toks) (λb u q=>c9 _ q) (az _) ⟨_,e1⟩;refine I1.laid (a:=s.heap.objs.size+1) (o:=.ins C s.heap.objs.size []) (t':=s.toks) (λb u q=>c9 _ q) (Nat.le_of_eq (fF _ _)) ?_;have ne:s.heap.objs.size≠s.heap.objs.size+1:=aQ (g8 _);refine⟨by rw[ck ne,jU],aH _,ne,e2,λ_=>none,(Heap.Ns1.of_empty e3).at λo q=>c9 _ q,λ_=>gh,λy hy=>absurd rfl hy⟩
end
def Sm(X:Cx)(op:Operator)(rd:V->V->Hp->VK->Prop):Prop :=
 ∀(pins:List (Addr×Obj))(s:Shared)(σ:St)(H:Hp)(x y:V)(u v:Value)(Q:VK),Inv X pins σ H s->RelV x u->RelV y v->rd x y H Q->wpAny (model X.prog X.w) X.A (inplaceOp op u v) (EP X pins σ Q) X.xe s
section
variable {X:Cx}{o e value:Expr}{f:Str}{pos pos' tpos:Pos}{ta tv:TE}
def Sn:V->V->Hp->VK->Prop:=λx y H Q=>∃i j,x=.int i/\y=.int j/\Q (.int (i-j)) H
def O3:Sm X .Sub Sn:=by rintro pins s σ H x y u v Q I rx ry ⟨i,j,rfl,rfl,q⟩;obtain⟨t,rfl⟩:=(show ∃t,u=Value.int i t from rx);obtain⟨t',rfl⟩:=(show ∃t',v=Value.int j t' from ry);exact PyProof.Rows.isub_int ⟨.int (i-j),H,I.tok _,⟨_,rfl⟩,q⟩
end
section
variable {X:Cx}{pins:List (Addr×Obj)}{σ:St}{H:Hp}{s:Shared}{A:Around}{E:Value->Shared->Prop}{Q:Value->Shared->Prop}{c:Value}{b:Bool}
inductive mH (K:aD) (H:Hp):V->Value->Prop where
 | cY:mH K H .cY (.type "NoneType")
 | bl (x:Bool):mH K H (.bl x) (.type "bool")
 | int (i:Int):mH K H (.int i) (.type "int")
 | str (x:Str):mH K H (.str x) (.type "str")
 | Rq (x:UInt64):mH K H (.Rq x) (.type "float")
 | lst {a:Addr} {xs:List V} (e:H a=some (.lst xs)):mH K H (.ref a) (.type "list")
 | CB {a:Addr} {o:Obj} {xs:List V} (e:H a=some (.CB o (.lst xs))):mH K H (.ref a) (.type "list")
 | tup {a:Addr} {xs:List V} (e:H a=some (.tup xs)):mH K H (.ref a) (.type "tuple")
 | dK {a:Addr} {kvs:List (Key×V)} (e:H a=some (.dK kvs)):mH K H (.ref a) (.type "dict")
 | dT {a:Addr} {kvs:List (List Key×V)} (e:H a=some (.dT kvs)):mH K H (.ref a) (.type "dict")
 | ins {a C dx:Addr} {fs:List (Str×V)} (e:H a=some (.ins C dx fs)) (cl:WQ K C) (ha:PySem.W.findIn K (.ref C) "__class__" = some (some (.builtin "object.__class__")))
   (hn:PySem.W.specialIn K (.builtin "object.__class__") "__get__" = some (some (.builtin "getset_descriptor.__get__"))) (htk:PySem.W.takesIn K (.builtin "object.__class__")=some true)
   (hm:PySem.W.mroIn K C (.type "object")=some true):mH K H (.ref a) (.ref C)
def EL{x:V}{t:Value}(I:Inv X pins σ H s)(rx:RelV x u)(ty:mH X.K H x t)(e:PySem.W.kitOne X.K t c=some b)(h:∀tk,Q (.bool b) { s with toks:=tk }):
  wpAny (model X.prog X.w) A (call (.builtin "isinstance") [u,c]) Q E s:=by
 cases ty with
 | cY=>cases(show u=Value.none from rx);exact gf PySem.W.kitx_none I.wA gh e (λz=>nomatch z) h
 | bl y=>cases(show u=Value.bool y from rx);exact gf PySem.W.kitx_bool I.wA gh e (λz=>nomatch z) h
 | int i=>obtain⟨t,q⟩:=(show ∃t,u=Value.int i t from rx);cases q;exact gf PySem.W.kitx_int I.wA gh e (λz=>nomatch z) h
 | str y=>obtain⟨t,q⟩:=(show ∃t,u=Value.str y t from rx);cases q;exact gf PySem.W.kitx_str I.wA gh e (λz=>nomatch z) h
 | Rq y=>obtain⟨t,q⟩:=(show ∃t,u=Value.float y t from rx);cases q;exact gf PySem.W.kitx_float I.wA gh e (λz=>nomatch z) h
 | @lst a xs ea =>
  cases(show u=Value.ref a from rx);obtain⟨_,_,n,_,h1⟩:=(show cZ X.prog X.w H s.heap a (.lst xs) from I.hok a _ ea);exact gf PySem.W.kitx_list I.wA ⟨_,h1,rfl⟩ e (λz=>nomatch z) h
 | @CB a ob xs ea =>
  cases(show u=Value.ref a from rx);obtain⟨_,_,_,n,_,h1⟩:=(show cZ X.prog X.w H s.heap a (.CB ob (.lst xs)) from I.hok a _ ea);exact gf PySem.W.kitx_list I.wA ⟨_,h1,rfl⟩ e (λz=>nomatch z) h
 | @tup a xs ea =>
  cases(show u=Value.ref a from rx);obtain⟨_,_,_,p⟩:=(show cZ X.prog X.w H s.heap a (.tup xs) from I.hok a _ ea);obtain⟨o,h1,h2,_⟩:=p;exact gf PySem.W.kitx_tuple I.wA ⟨o,h1,h2⟩ e (λz=>nomatch z) h
 | @dK a kvs ea =>
  cases(show u=Value.ref a from rx);obtain⟨_,_,vs,_,p⟩:=(show cZ X.prog X.w H s.heap a (.dK kvs) from I.hok a _ ea);obtain⟨o,es,ep,h1,h2,_⟩:=p;exact gf PySem.W.kitx_dict I.wA ⟨o,h1,h2.1⟩ e (λz=>nomatch z) h
 | @dT a kvs ea =>
  cases(show u=Value.ref a from rx);obtain⟨_,_,xs,_,o,es,ep,h1,h2,_⟩:=(show cZ X.prog X.w H s.heap a (.dT kvs) from I.hok a _ ea);exact gf PySem.W.kitx_dict I.wA ⟨o,h1,h2.1⟩ e (λz=>nomatch z) h
 | @ins a C dx fs ea cl ha hn htk hm =>
  cases(show u=Value.ref a from rx);obtain⟨mA,O,_⟩:=Lc I.hok ea;obtain⟨od,J,_⟩:=O.look;exact gf (PySem.W.kitx_own (cl.get _) cl.hd ha hn htk hm) I.wA J e (λz=>nomatch z) h
end
structure jd (k:Nat) (A:Around):Prop where
 hd:A.handled=none
 dp:A.depth+3*k+5<recursionLimit
 un:A.units+16*k+200<cLine
def jd.mono{j k:Nat}{A:Around}(r:jd k A)(h:j<=k):jd j A:=⟨r.hd,by have:=r.dp;omega,by have:=r.un;omega⟩
theorem jd.deeper(r:jd (k+1) A)(env:Env):jd k (A.deeper env) :=
 ⟨r.hd,by have:=r.dp;show A.depth+1+3*k+5<_;omega,by have:=r.un;show A.units+3+16*k+200<_;omega⟩
theorem jd.in1(r:jd (k+1) A):jd k A.in1 :=
 ⟨r.hd,by have:=r.dp;show A.depth+3*k+5<_;omega,by have:=r.un;show A.units+1+16*k+200<_;omega⟩
theorem jd.depth(r:jd k A):A.depth<recursionLimit:=by have:=r.dp;omega
theorem jd.units(r:jd k A):A.units+64<cLine:=by have:=r.un;omega
def So:TA:=λ_ H Q=>Q [] H
def Nd(ta:TE)(tr:TA):TA:=λσ H Q=>ta σ H λx H1=>tr σ H1 λxs H2=>Q (x::xs) H2
section
variable {X:Cx}{e:Expr}{es:List Expr}{te:TE}{t:TA}{pos:Pos}
def ai:PA X [] So:=λ_ _ _ _ H Q I h=>Calls.spliced_nil ⟨[],H,I,.nil,h⟩
def aa(ha:PE X e te)(hr:PA X es t)(hs:starEach (e::es) X.env=(false,eval e X.env)::starEach es X.env:=by rfl):PA X (e::es) (Nd te t):=by intro pos pins s σ H Q I h;rw[hs];show wpAny _ _ (spliced ((false,eval e X.env)::backTo pos (starEach es X.env))) _ _ s;refine Calls.spliced_cons (cT (ha pins s σ H _ I h) λu s1 zq=>?_);obtain⟨x,H1,I1,r1,q1⟩:=zq;exact cT (hr pos pins s1 σ H1 _ I1 q1) λus s2 ⟨xs,H2,I2,r2,q2⟩=>⟨x::xs,H2,I2,.cons r1 r2,q2⟩
def Sq(t:TA):TE:=λσ H Q=>t σ H λxs H1=>xs.length<=sizeLine/\∀p,H1 p=none->Q (.ref p) (upd H1 p (.tup xs))
def Ss(t:TA):TE:=λσ H Q=>t σ H λxs H1=>xs.length<=sizeLine/\∀p,H1 p=none->Q (.ref p) (upd H1 p (.lst xs))
def bB{x1}(h:PA X es t):PE X (.Tuple es x1 pos) (Sq t):=by intro pins s σ H Q I hq;refine wpAny_Tuple_spliced (cT (h pos pins s σ H _ I hq) λus s1 zq=>?_);obtain⟨xs,H1,I1,r,z,q⟩:=zq;refine ⟨by rw[<- r.length];exact z,?_⟩;have hf:H1 s1.heap.objs.size=none:=I1.hok.fresh (az _);refine⟨.ref s1.heap.objs.size,upd H1 s1.heap.objs.size (.tup xs),I1.laid (t':=s1.toks) (λb u e=>c9 _ e) (az _) ?_,rfl,q _ hf⟩;exact⟨z,us,r,⟨_,iE _ rfl,rfl,_,rfl⟩⟩
def dN(h:PA X es t):PE X (.List es pos) (Ss t):=by intro pins s σ H Q I hq;refine wpAny_List_spliced (cT (h pos pins s σ H _ I hq) λus s1 zq=>?_);obtain⟨xs,H1,I1,r,z,q⟩:=zq;refine ⟨by rw[<- r.length];exact z,?_⟩;have hf:H1 s1.heap.objs.size=none:=I1.hok.fresh (az _);refine⟨.ref s1.heap.objs.size,upd H1 s1.heap.objs.size (.lst xs),I1.laid (t':=s1.toks) (λb u e=>c9 _ e) (az _) ?_,rfl,q _ hf⟩;exact⟨z,us,0,r,iE _ rfl⟩
end
abbrev Sp:=List V->Hp->VK->XK->Prop
abbrev EM:=List Env->Hp->Shared->XK->Value->Shared->Prop
structure Bc (P:Program) (w:World) (K:aD) (mg:Str->Option Value) (base:Heap) (A:Around) (outer:List Env) (s:Shared) (H:Hp):Prop where
 frames:A.frames=some outer
 mod:Mod K mg base
 bs:∀b o,base.get? b=some o->s.heap.get? b=some o/\H b=none
 KD:base.objs.size<=s.heap.objs.size
 qD:s.heap.FunFrames base outer
 OP:∀b∈frs outer,H b=none
 hok:ng P w H s.heap
 bare:AllBare s.gens
def CE(outer:List Env)(P:Program)(w:World)(H:Hp)(s:Shared)(Q:VK)(u:Value)(s':Shared):Prop :=
 ∃v H',s'.os=s.os/\AllBare s'.gens/\Un (frs outer) [] H H' s.heap s'.heap/\ng P w H' s'.heap/\RelV v u/\Q v H'
def CR(CX:EM)(outer:List Env)(P:Program)(w:World)(H:Hp)(s:Shared)(Q:VK)(E:XK)(r:Result)(s':Shared):Prop :=
 match r with
 | .ok (.ret u)=>CE outer P w H s Q u s'
 | .ok _=>False
 | .error e=>CX outer H s E e s'
structure b7 (P:Program) (w:World) (K:aD) (mg:Str->Option Value) (base:Heap) (CX:EM) (k:Nat) (f:Addr) (fd:FuncData) (ps:List Str) (sp:Sp):Prop where
 len:∀vs H Q E,sp vs H Q E->vs.length=ps.length
 run:∀(A:Around)(outer:List Env)(s:Shared)(H:Hp)(args:Args)(us:List Value)(vs:List V)(Q:VK)(E:XK),jd k A->Bc P w K mg base A outer s H->BindsTo s fd args (ps.zip us)->Vals vs us->sp vs H Q E ->
  codeAny (model P w) A (.call (.ref f) args) (CR CX outer P w H s Q E) s
theorem b7.mono{P:Program}{w:World}{K:aD}{mg:Str->Option Value}{base:Heap}{CX:EM}{j k:Nat}{f:Addr}{fd:FuncData}{ps:List Str}{sp:Sp}(F:b7 P w K mg base CX j f fd ps sp)(h:j<=k):
  b7 P w K mg base CX k f fd ps sp:=⟨F.len,λA outer s H args us vs Q E hr=>F.run A outer s H args us vs Q E (hr.mono h)⟩
def b7.imp{f:Addr}{fd:FuncData}{sp Z8:Sp}(F:b7 P w K mg base CX k f fd ps sp)
  (h:∀vs H Q E,Z8 vs H Q E->sp vs H Q E):b7 P w K mg base CX k f fd ps Z8 :=
 ⟨λvs H Q E q=>F.len vs H Q E (h _ _ _ _ q),λA outer s H args us vs Q E hr he hb hv hs=>F.run A outer s H args us vs Q E hr he hb hv (h _ _ _ _ hs)⟩
theorem Bc.in1{outer:List Env}(e:Bc P w K mg base A outer s H):
  Bc P w K mg base A.in1 outer s H:=⟨e.frames,e.mod,e.bs,e.KD,e.qD,e.OP,e.hok,e.bare⟩
section
variable {X:Cx}{pins:List (Addr×Obj)}{σ:St}{H:Hp}{s s':Shared}
def Inv.WR(I:Inv X pins σ H s):Bc X.prog X.w X.K X.mg X.base X.A X.stack s H :=
 ⟨I.ok.frames,I.ok.mod,I.bs,bJ I.ok.KD I.sz,I.stack,I.wC,I.hok,I.bare⟩
def Inv.after{Q:VK}(I:Inv X pins σ H s)(h:CE X.stack X.prog X.w H s Q u s'):EP X pins σ Q u s':=by obtain⟨v,H',os,bare,un,hok,r,q⟩:=h;obtain⟨hh,g,d,t,os'⟩:=s';obtain rfl:os'=s.os:=os;exact⟨v,H',I.call (h':=hh) (g':=g) (d':=d) (t':=t) (ch:=[]) un hok bare (λb z=>absurd z (by simp)),r,q⟩
end
def GV(sp:Sp)(Nf:List V)(E:XK)(t:TA):TE:=λσ H Q=>t σ H λvs H1=>sp (vs++Nf) H1 Q E
def Binds(K:aD)(fd:FuncData)(ps:List Str)(ds:List Value):Prop :=
 ∀(s:Shared)(us:List Value),K.In s.heap->(us++ds).length=ps.length->BindsTo s fd ⟨us,[]⟩ (ps.zip (us++ds))
def Binds.all{fd:FuncData}(h:∀us:List Value,us.length=ps.length->bindArgs fd ⟨us,[]⟩=pure (ps.zip us)):Binds K fd ps []:=λs us _ hl=>by rw[i0] at hl ⊢;exact .of_eq (h us hl)
def Passes(CX:EM)(X:Cx)(E:XK):Prop:=∀(pins:List (Addr×Obj))(σ:St)(H:Hp)(s:Shared)(e:Value)(s':Shared),Inv X pins σ H s->CX X.stack H s E e s'->X.xe e s'
section
variable {X:Cx}{CX:EM}{k:Nat}{f C:Addr}{fd:FuncData}{ps:List Str}{sp:Sp}{Nf:List V}{ds:List Value}{E:XK}{x m:Str}{p pos apos:Pos}{e o:Expr}{es:List Expr}{ta:TE}{t:TA}
def O4{σ:St}{Q:VK}{vs:List V}(F:b7 X.prog X.w X.K X.mg X.base CX k f fd ps sp)(hr:jd k X.A)(hb:Binds X.K fd ps ds)(hd:Vals Nf ds)(hx:Passes CX X E)
  (I:Inv X pins σ H s)(r:Vals vs us)(h:sp (vs++Nf) H Q E):wpAny (model X.prog X.w) X.A (call (.ref f) us) (EP X pins σ Q) X.xe s:=by
 have r2:Vals (vs++Nf) (us++ds):=r.append hd;have hl:(us++ds).length=ps.length:=by rw[<- r2.length];exact F.len _ _ _ _ h
 refine wpAny_call (codeAny_mono (F.run X.A X.stack s H ⟨us,[]⟩ (us++ds) (vs++Nf) Q E hr I.WR (hb s us I.wA hl) r2 h) λr s' hq=>?_);cases r with
 | error e=>exact hx pins σ H s e s' I hq
 | ok fl =>
  cases fl with
  | ret u=>exact I.after hq
  | next=>exact False.elim hq
  | brk=>exact False.elim hq
  | cont=>exact False.elim hq
def Ld(F:b7 X.prog X.w X.K X.mg X.base CX k f fd ps sp)(hr:jd k X.A)(hg:Gl X x)(hm:X.mg x=some (.ref f))(hk:PySem.W.keepIn X.K (.ref f)=true)(hb:Binds X.K fd ps ds)(hd:Vals Nf ds)(hx:Passes CX X E)
  (ha:PA X (e::es) t)(hdb:(x==("__debug__" : Str))=false:=by decide)(he:starEach (e::es) X.env=(false,eval e X.env)::starEach es X.env:=by rfl)(hpl:(backTo pos (starEach es X.env)).any (·.1)=false:=by rfl):
  PE X (.Call (.Name x p) (e::es) [] pos) (GV sp Nf E t):=by intro pins s σ H Q I h;refine wpAny_Call_Name_kw (CC I hg hm ?_ hdb);refine PySem.W.callWith_K (h₀:=X.base) I.ok.mod.RU hk (cT (ha pos pins s σ H _ I h) λus s1 zq=>?_) he hpl;obtain⟨vs,H1,I1,r,q⟩:=zq;refine ⟨I1.wA,?_⟩;exact O4 F hr hb hd hx I1 r q
end
section
variable {X:Cx}{CX:EM}{k:Nat}{f C:Addr}{fd:FuncData}{ps ks:List Str}{sp:Sp}{E:XK}{x m:Str}{p pos apos kpos:Pos}{e o:Expr}{es:List Expr}{kws:List Keyword}{te ta:TE}{t tk:TA}{nm:Option Str}
variable {g:List Value->List Value->List Value}{gV:List V->List V->List V}
end
structure aN (N P:List Str) (sc:Scope):Prop where
 kind:sc.kind=.function
 co:sc.isCoroutine=false
 gen:sc.isGenerator=false
 nd:N.Nodup
 pre:N.take P.length=P
 par:∀x∈P,sc.names.lookup x=some .local\/sc.names.lookup x=some .cell
 O5:∀y∈sc.names,y.2≠.free
theorem uS{kindOf:Str->Option NameKind}{x:Str}:∀{binds:List (Str×Value)}{m:Str->Option Value},(∀v,(x,v)∉binds)->bindL kindOf binds m x=m x
 | [],_,_=>rfl
 | (n,v)::r,m,h=>by
  unfold bindL;rw[uS λw hw=>h w (dg _ hw)];split
  .have:x≠n:=by rintro rfl;exact h v i9
   simp[this]
  .rfl
theorem uT{kindOf:Str->Option NameKind}{x:Str}:∀{binds:List (Str×Value)}{m:Str->Option Value},(∀v,(x,v)∉binds)->bindC kindOf binds m x=m x
 | [],_,_=>rfl
 | (n,v)::r,m,h=>by
  unfold bindC;rw[uT λw hw=>h w (dg _ hw)];split
  .rfl
  .have:x≠n:=by rintro rfl;exact h v i9
   simp[this]
theorem uU{kindOf:Str->Option NameKind}{x:Str}{v:Value}:∀{P:List Str}{vs:List Value}{i:Nat}{m:Str->Option Value},P.Nodup->P[i]?=some x->vs[i]?=some v->kindOf x=some .local ->
  bindL kindOf (P.zip vs) m x=some v
 | [],_,_,_,_,h,_,_=>by simp at h
 | _::_,[],_,_,_,_,h,_=>by simp at h
 | p::P,w::vs,0,m,nd,h1,h2,hk=>by
  simp at h1 h2;subst h1;subst h2;show bindL kindOf ((p,w)::P.zip vs) m p=_;unfold bindL;rw[uS λv hv=>(iG.mp nd).1 (List.of_mem_zip hv).1,if_pos hk];simp
 | p::P,w::vs,i+1,m,nd,h1,h2,hk=>by show bindL kindOf ((p,w)::P.zip vs) m x=_;unfold bindL;exact uU (i:=i) (iG.mp nd).2 (by simpa using h1) (by simpa using h2) hk
theorem uV{kindOf:Str->Option NameKind}{x:Str}{v:Value}:∀{P:List Str}{vs:List Value}{i:Nat}{m:Str->Option Value},P.Nodup->P[i]?=some x->vs[i]?=some v->kindOf x≠some .local ->
  bindC kindOf (P.zip vs) m x=some v
 | [],_,_,_,_,h,_,_=>by simp at h
 | _::_,[],_,_,_,_,h,_=>by simp at h
 | p::P,w::vs,0,m,nd,h1,h2,hk=>by
  simp at h1 h2;subst h1;subst h2;show bindC kindOf ((p,w)::P.zip vs) m p=_;unfold bindC;rw[uT λv hv=>(iG.mp nd).1 (List.of_mem_zip hv).1,if_neg hk];simp
 | p::P,w::vs,i+1,m,nd,h1,h2,hk=>by show bindC kindOf ((p,w)::P.zip vs) m x=_;unfold bindC;exact uV (i:=i) (iG.mp nd).2 (by simpa using h1) (by simpa using h2) hk
def start(N:List Str)(vs:List V):St:=vs.map some++List.replicate (N.length-vs.length) none
def ym(CX:EM)(P:Program)(w:World)(K:aD)(mg:Str->Option Value)(base:Heap)(N:List Str)(qual:Str)(scope:Scope)(f:Addr)(cd:Value)(A:Around)(outer:List Env)(s:Shared)(H:Hp)(E:XK):Cx where
 prog:=P
 w:=w
 K:=K
 mg:=mg
 base:=base
 A:=A.deeper (envOfC qual scope s.heap.objs.size f cd)
 N:=N
 s₀:=s
 H₀:=H
 env:=envOfC qual scope s.heap.objs.size f cd
 outer:=outer
 stack:=envOfC qual scope s.heap.objs.size f cd::outer
 ex:=[]
 calm:=true
 fn:=λ_=>true
 pn:=[]
 xe:=λe s'=>wpAny (model P w) (A.deeper (envOfC qual scope s.heap.objs.size f cd)) (leaving (envOfC qual scope s.heap.objs.size f cd) e) (λ_ s''=>CX outer H s E e s'') (λe' s''=>CX outer H s E e' s'') s'
def yo{sc:Scope}(h:sc.names.lookup x=some .cell):∃c,(cellsFrom n sc.names []).lookup x=some c:=by have q:=PySem.W.cellsFrom_some sc.names n [] (.inl h);exact Option.isSome_iff_exists.mp q
def EN{qual:Str}{scope:Scope}{f:Addr}{cd:Value}{outer:List Env}{s1:Shared}{E:XK}{vs:List V}
  (S:aN N ps scope)(hd:A.handled=none)(e0:Bc P w K mg base A outer s H)(hl:vs.length=ps.length)(r:Vals vs us)
  (x:InCallC s s.heap.objs.size (bindL (envOfC qual scope s.heap.objs.size f cd).kindOf (ps.zip us) λ_=>none) (cellsFrom (s.heap.objs.size+1) scope.names []) (bindC (envOfC qual scope s.heap.objs.size f cd).kindOf (ps.zip us) λ_=>none) s1):
  Inv (ym CX P w K mg base N qual scope f cd A outer s H E) [] (start N vs) H s1:=by
 have hpl:ps.length<=N.length:=by have:=congrArg List.length S.pre;rw[cF] at this;omega
 obtain⟨h1,tk,rfl,hk⟩:=x.done;have Su:∀b:Addr,b∉(ym CX P w K mg base N qual scope f cd A outer s H E).ex:=λb z=>absurd (show b∈([]:List Addr) from z) (by simp);refine⟨⟨e0.mod,S.kind,rfl,rfl,az _,λy z c h1 h2=>?_,λy hy=>?_,λy c _ h=>?_,λ_=>hd,Around.frames_deeper e0.frames,.inr ⟨rfl,rfl⟩,λb z=>absurd z (Su b),e0.bs,e0.KD,λb _ _=>Su b,λb z=>absurd z (Su b),e0.qD,e0.OP⟩,
  rfl,e0.bare,Un.kept hk,⟨_,x.toInCall.ns,λi y v h1 h2 h3=>?_⟩,λy c h=>⟨_,x.cell y c h⟩,e0.hok.fresh (az _),λy c h=>?_,λp hp=>absurd (show p∈([]:List (Addr×Obj)) from hp) (by simp),e0.hok.kept hk,?_⟩
 .exact name_of_addr x.apart (ju h1) (ju h2)
 .have hy:scope.names.lookup y=some .cell\/scope.names.lookup y=some .free:=hy;rcases hy with hy|hy
  .exact yo hy
  .exact absurd rfl (S.O5 _ (ju hy))
 .exact jK (x.above y c (ju h))
 .have hi:i<vs.length:=by
   unfold start at h2;by_cases hi:i<vs.length
   .exact hi
   .rw[iF (by simpa using hi)] at h2;rw[List.getElem?_replicate] at h2;split at h2<;>cases h2
  have ha:vs[i]?=some v:=by
   unfold start at h2;rw[i7 (by simpa using hi),bw] at h2;cases e:vs[i]? with
   | none=>rw[e] at h2;cases h2
   | some a=>rw[e] at h2;cases h2;rfl
  obtain⟨u,hu,rv⟩:=r.get ha;have hp:ps[i]?=some y:=by rw[<- S.pre,rQ (by omega)];exact h1
  have Z9:ps.Nodup:=by rw[<- S.pre];exact S.nd.sublist (List.take_sublist _ _)
  refine⟨u,rv,?_⟩;rcases S.par y (fB hp) with k|k
  .exact .inl ⟨k,uU Z9 hp hu k⟩
  .obtain⟨c,e⟩:=yo (n:=s.heap.objs.size+1) k;refine .inr ⟨.inl k,c,e,?_⟩;have q:=x.cell y c e;rw[uV Z9 hp hu (by show scope.names.lookup y≠_;rw[k];decide)] at q;exact q
 .exact e0.hok.fresh (jK (x.above y c (ju h)))
 .unfold start;show _=N.length;rw[aR,av,List.length_replicate];omega
def Ng{f:Addr}{name qual:Str}{params:Arguments}{scope:Scope}{dV kV doc pm cdv ct oc:Value}{an od:Option Addr}
  {osl:Array (Option Value)}{sp:Sp}(lk:K.lookup f=some ⟨oc,od,.func (PySem.W.fnOf name qual params body scope dV kV doc pm an cdv ct),osl⟩)(hcd:PySem.W.codeIn K cdv qual=true)(S:aN N ps scope)
  (len:∀vs H Q E,sp vs H Q E->vs.length=ps.length)
  (hbody:∀(A:Around)(outer:List Env)(s:Shared)(H:Hp)(vs:List V)(Q:VK)(E:XK),jd k (A.deeper (envOfC qual scope s.heap.objs.size f cdv))->sp vs H Q E ->
   ∃t,uR (ym CX P w K mg base N qual scope f cdv A outer s H E) body t/\t { nx:=λ_ H'=>Q .cY H',rt:=Q } (start N vs) H):
  b7 P w K mg base CX (k+1) f (PySem.W.fnOf name qual params body scope dV kV doc pm an cdv ct) ps sp:=by
 refine⟨len,λA outer s H args us vs Q E hr e0 hb r KJ=>?_⟩;have hl:=len _ _ _ _ KJ;have KX:K.In s.heap:=e0.mod.RU.keeps λb o e=>(e0.bs b o e).1;have lim:s.heap.NoLimit:=e0.mod.nolimit.keeps λb o e=>(e0.bs b o e).1;have hkind:∀y∈ps.zip us,scope.names.lookup y.1=some .local\/(scope.names.lookup y.1=some .cell/\((cellsFrom (s.heap.objs.size+1) scope.names []).lookup y.1).isSome=true):=λ⟨n,v⟩ hy=>by
  rcases S.par n (List.of_mem_zip hy).1 with q|q
  .exact .inl q
  .exact .inr ⟨q,PySem.W.cellsFrom_some _ _ _ (.inl q)⟩
 refine codeAny_call_function hr.depth (KX _ _ lk) rfl S.co S.gen rfl (PySem.W.codeRec_of KX hcd) (hb _ _ _ _ ?_);refine wpAny_newFunctionEnv_cells S.kind hkind λenv he s1 x=>?_;subst he;refine⟨lim.keeps x.toInCall.keep,codeAny_func ?_⟩;obtain⟨t,ht,hq⟩:=hbody A outer s H vs Q E (hr.deeper _) KJ;have I:Inv (ym CX P w K mg base N qual scope f cdv A outer s H E) [] (start N vs) H s1:=EN S hr.hd e0 hl r x;refine wpAny_mono (ht [] s1 (start N vs) H _ I hq) (λfl s' hs=>?_) λe s' hs=>hs;have fin:∀{σ':St}{H':Hp}{v:V}{u:Value},Inv (ym CX P w K mg base N qual scope f cdv A outer s H E) [] σ' H' s'->RelV v u->Q v H'->CE outer P w H s Q u s' :=
  λ{σ' H' v u} J rv q=>⟨v,H',J.os,J.bare,J.base,J.hok,rv,q⟩
 cases fl with
 | ret u =>
  obtain⟨v,σ',H',J,rv,q⟩:=hs;exact fin J rv q
 | next =>
  obtain⟨σ',H',J,q⟩:=hs;exact fin (v:=V.cY) (u:=Value.none) J rfl q
 | brk =>
  obtain⟨_,_,_,q⟩:=hs;exact False.elim q
 | cont =>
  obtain⟨_,_,_,q⟩:=hs;exact False.elim q
section
variable {X:Cx}{x:Str}{p pos:Pos}{e:Expr}{es:List Expr}{t:TA}{id T:String}{r:List V->Hp->VK->Prop}
def WS(r:List V->Hp->VK->Prop)(t:TA):TE:=λσ H Q=>t σ H λvs H1=>r vs H1 Q
def aT(hc:dj X (.builtin id) r)(hg:Gl X x)(hm:X.mg x=none)(hv:bootBuiltins x=some (.builtin id))(ha:PA X (e::es) t)(hn:x ≠ "__name__" := by decide)(hdb:(x==("__debug__" : Str))=false:=by decide)
  (he:starEach (e::es) X.env=(false,eval e X.env)::starEach es X.env:=by rfl)(hpl:(backTo pos (starEach es X.env)).any (·.1)=false:=by rfl):PE X (.Call (.Name x p) (e::es) [] pos) (WS r t):=by intro pins s σ H Q I h;refine wpAny_Call_Name_kw (jL I hg hm hv ?_ hn hdb);exact PyProof.Rows.callWith_builtin1 (cT (ha pos pins s σ H _ I h) λus s1 ⟨vs,H1,I1,r1,q1⟩=>hc pins s1 σ H1 vs us Q I1 r1 q1) he hpl
def dz(hc:dj X (.type T) r)(hg:Gl X x)(hm:X.mg x=none)(hv:bootBuiltins x=some (.type T))(ha:PA X (e::es) t)(hn:x ≠ "__name__" := by decide)(hdb:(x==("__debug__" : Str))=false:=by decide)
  (he:starEach (e::es) X.env=(false,eval e X.env)::starEach es X.env:=by rfl)(hpl:(backTo pos (starEach es X.env)).any (·.1)=false:=by rfl):PE X (.Call (.Name x p) (e::es) [] pos) (WS r t):=by intro pins s σ H Q I h;refine wpAny_Call_Name_kw (jL I hg hm hv ?_ hn hdb);exact ki (cT (ha pos pins s σ H _ I h) λus s1 ⟨vs,H1,I1,r1,q1⟩=>hc pins s1 σ H1 vs us Q I1 r1 q1) he hpl
end
end L2
namespace HT
open PySem PyProof.Rows
section
open PySem.SeqAt
open PySem.AutoSeq1 (wpAny_loadPart')
open PySem.MeetsSeq PySem.MeetsSeq2 PySem.MeetsSeq3
end
section
variable {prog:Program}{w:World}{A:Around}{E:Value->Shared->Prop}{s:Shared}
def Le{t b:Addr}{vs ws:List Value}{Q:Value->Shared->Prop}(ht:IsTup s.heap t vs.toArray)(hb:IsTup s.heap b ws.toArray)(hv:vs≠[])
  (h1:ws=[]->Q (.ref t) s)(h2:ws≠[]->Q (.ref s.heap.objs.size) { s with heap:=s.heap.push { cls:=.type "tuple", data:=.seq (vs++ws).toArray } })
  (hsz:vs.length+ws.length<=sizeLine):wpAny (model prog w) A (binaryOp .Add (.ref t) (.ref b)) Q E s:=by
 obtain⟨⟨cls,dd,data,sl⟩,ho,hc,n,hd⟩:=id ht;obtain⟨⟨abY,dd2,data2,sl2⟩,ho2,hc2,n2,hd2⟩:=id hb;simp only at hc hd hc2 hd2;subst hc hd hc2 hd2;have e:vs.toArray++ws.toArray=(vs++ws).toArray:=by simp
 by_cases hw:ws=[]
 .exact concat_meets ⟨_,ho,rfl⟩ ⟨_,ho2,rfl⟩ noFill_tuple_add seq_tuple_add PySem.F.slot_tuple_add PySem.F.entry_tuple_add (PySem.F.args_tuple_add_2 _ _)
   (tuple_addW1 t b vs.toArray ws.toArray n n2 dd dd2 sl sl2 (by simpa using hv) (by simp[hw])) ⟨ho,ho2,h1 hw⟩
 .refine concat_meets ⟨_,ho,rfl⟩ ⟨_,ho2,rfl⟩ noFill_tuple_add seq_tuple_add PySem.F.slot_tuple_add PySem.F.entry_tuple_add (PySem.F.args_tuple_add_2 _ _)
   (tuple_addW2 t b vs.toArray ws.toArray n n2 dd dd2 sl sl2 (by simpa using hv) (by simpa using hw) (by rw[aV,aV];exact hsz)) ⟨ho,ho2,?_⟩
  rw[e];exact h2 hw
def dB(n d:Nat):Option Int->Nat
 | none=>d
 | some v=>if v<0 then(v+(n:Int)).toNat else min v.toNat n
def yp(n d:Nat):dB n d none=d:=rfl
def qI(n d k:Nat):dB n d (some (k:Int))=min k n:=by show(if(k:Int)<0 then((k:Int)+(n:Int)).toNat else min (k:Int).toNat n)=min k n;rw[if_neg (by omega),gF]
def O6(n d:Nat)(hd:d<=n)(o:Option Int):dB n d o<=n:=by
 cases o with
 | none=>exact hd
 | some v =>
  show(if v<0 then(v+(n:Int)).toNat else min v.toNat n)<=n;by_cases hv:v<0
  .rw[if_pos hv];omega
  .rw[if_neg hv];exact Nat.min_le_right _ _
def CK(v:Int)(n d:Nat):(if v<0 then max (v+(n:Int)) 0 else min v (n:Int))=((dB n d (some v):Nat):Int):=by
 show(if v<0 then max (v+(n:Int)) 0 else min v (n:Int))=(((if v<0 then(v+(n:Int)).toNat else min v.toNat n):Nat):Int);by_cases hv:v<0
 .simp only[if_pos hv];omega
 .simp only[if_neg hv];omega
def Bd(lo hi:Option Int)(n:Nat):Builtin.Slice.sliceAdjust lo hi 1 (n:Int)=(((dB n 0 lo:Nat):Int),((dB n n hi:Nat):Int)):=by
 have h1:¬((1:Int)<0):=by omega
 unfold Builtin.Slice.sliceAdjust;simp only[h1,if_false];refine Prod.ext ?_ ?_
 .cases lo with
  | none=>rfl
  | some v=>exact CK v n 0
 .cases hi with
  | none=>rfl
  | some v=>exact CK v n n
def Be(i j:Nat):Builtin.Slice.slicePlaces (i:Int) (j:Int) 1=j-i:=by
 unfold Builtin.Slice.slicePlaces;have h1:(1:Int)>0:=by omega
 simp only[h1,if_true,Int.ediv_one];split<;>omega
def sr{v:Value}{o:Option Int}{Q:Option Int->Shared->Prop}(p:IsPart v o)(h:Q o s):wpAny (model prog w) A (Builtin.Slice.slicePartIndex v) Q E s:=by
 cases p with
 | none=>exact slicePart_none h
 | int i t=>exact slicePart_int h
def pR{sl:Addr}{vl vu:Value}{lo hi:Option Int}{n:Nat}{Q:Int×Int×Nat->Shared->Prop}(hs:s.heap.IsSliceOf sl vl vu .none)(pl:IsPart vl lo)(pu:IsPart vu hi)
  (h:Q (((dB n 0 lo:Nat):Int),1,dB n n hi-dB n 0 lo) s):wpAny (model prog w) A (Builtin.Slice.sliceApplied (.ref sl) (pure (n:Int))) Q E s:=by obtain⟨os,hos,hcs,hds⟩:=id hs;unfold Builtin.Slice.sliceApplied Builtin.Slice.sliceFields;refine aq (aq (wpAny_field hos hds (x:=vl) rfl (aq (wpAny_field hos hds (x:=vu) rfl (aq (wpAny_field hos hds (x:=.none) rfl (aL ?_)))))));refine aq (slicePart_none ?_);show wpAny _ _ (if((1:Int)==0)=true then _ else _) _ _ s;rw[if_neg (by decide)];refine aq (sr pl (aq (sr pu (aq (aL ?_)))));show wpAny _ _ (match Builtin.Slice.sliceAdjust lo hi 1 (n:Int) with|(lo,hi)=>pure (lo,(1:Int),Builtin.Slice.slicePlaces lo hi 1)) _ _ s;rw[Bd lo hi n];show wpAny _ _ (pure (((dB n 0 lo:Nat):Int),(1:Int),Builtin.Slice.slicePlaces ((dB n 0 lo:Nat):Int) ((dB n n hi:Nat):Int) 1)) _ _ s;rw[Be];exact aL h
def GW(xs:Array Value)(i k:Nat):((List.range k).filterMap λ(m:Nat)=>xs[((i:Int)+(m:Int)*1).toNat]?).toArray=((xs.toList.drop i).take k).toArray:=by
 have e:(λ(m:Nat)=>xs[((i:Int)+(m:Int)*1).toNat]?)=λm=>xs[i+m]?:=by
  funext m
  have:((i:Int)+(m:Int)*1).toNat=i+m:=by omega
  rw[this]
 rw[e];have:=pick_run xs i k;rw[List.filterMap_map] at this;have e2:((λx=>xs[x]?)∘λx=>i+x)=λm=>xs[i+m]?:=rfl;rw[e2] at this;rw[this]
def nK{t sl:Addr}{items:Array Value}{vl vu:Value}{lo hi:Option Int}{Q:Value->Shared->Prop}(ht:IsTup s.heap t items)(hs:s.heap.IsSliceOf sl vl vu .none)(pl:IsPart vl lo)(pu:IsPart vu hi)
  (hw:¬(dB items.size 0 lo=0/\dB items.size items.size hi=items.size))
  (h:Q (.ref s.heap.objs.size) { s with heap:=s.heap.push { cls:=.type "tuple", data:=.seq ((items.toList.drop (dB items.size 0 lo)).take (dB items.size items.size hi-dB items.size 0 lo)).toArray } })
  (hsz:items.size<=sizeLine):wpAny (model prog w) A (getItem (.ref t) (.ref sl)) Q E s:=by
 have CL:sizeOk (.seq ((items.toList.drop (dB items.size 0 lo)).take (dB items.size items.size hi-dB items.size 0 lo)).toArray):=by show((items.toList.drop (dB items.size 0 lo)).take (dB items.size items.size hi-dB items.size 0 lo)).toArray.size<=sizeLine;rw[aV,cF,rT,cX];omega
 have hj:dB items.size items.size hi<=items.size:=O6 _ _ (az _) hi;obtain⟨os,hos,hcs,hds⟩:=id hs;have hTs:s.TypeIs (.ref sl) "slice" := ⟨os,hos,hcs⟩;unfold getItem
 try with_reducible refine wpAny_holding ?_
 first|refine aq (aL ?_)|skip
 refine aq (wpAny_sequenceKey ht.typeIs (by decide) ?_);refine aq (wpAny_callSpecial?_slot (name:=Str.ofString "__getitem__") ht.typeIs PyProof.Rows.slot_tuple_getitem
  (wpAny_call_entry PyProof.Rows.slot_tuple_getitem ht.typeIs entry_tuple_getitem ?_ (args_tuple_getitem _ _)))
 show wpAny _ _ (Builtin.Tuple.tupleItemsOf (.ref t) >>= _) _ _ s;refine aq (tupleItemsOf_ ht ?_);refine aq (wpAny_typeOf hTs ?_);rw[if_pos (by decide)];refine aq (pR hs pl pu ?_);have hno:¬((((dB items.size 0 lo:Nat):Int)==0&&(1:Int)==1&&(dB items.size items.size hi-dB items.size 0 lo)==items.size)=true):=by intro q;rw[rH,rH] at q;have q1:((dB items.size 0 lo:Nat):Int)=0:=eq_of_beq q.1.1;have q2:dB items.size items.size hi-dB items.size 0 lo=items.size:=eq_of_beq q.2;exact hw ⟨by omega,by omega⟩
 show wpAny _ _ (if(((dB items.size 0 lo:Nat):Int)==0&&(1:Int)==1&&(dB items.size items.size hi-dB items.size 0 lo)==items.size)=true then _ else _) _ _ s;rw[if_neg hno,GW]
 first
  | exact aq (m:=Builtin.Tuple.tupleExact _) (wpAny_newObj_type (aL ⟨_,rfl,aL h⟩) CL)
  | exact aq (m:=Builtin.Tuple.tupleExact _) (wpAny_newObj_type (aq (aL (aL ⟨_,rfl,aL h⟩))) CL)
  | exact aq (aq (m:=Builtin.Tuple.tupleExact _) (wpAny_newObj_type (aL (aL ⟨_,rfl,aL h⟩)) CL))
  | exact aq (aq (m:=Builtin.Tuple.tupleExact _) (wpAny_newObj_type (aL ⟨_,rfl,aL h⟩) CL))
end
end HT
namespace L2
open PySem PySem.Spec PyProof.Rows
variable {xs:List V}{us its:List Value}{n t':Nat}{pins:List (Addr×Obj)}{H H':Hp}{s:Shared}{y x:V}{u:Value}{o:Option V}{P:Program}{w:World}{kvs:List (List Key×V)}{b a:Addr}{Q:Value->Shared->Prop}
abbrev TO:=St->Hp->(Option Int->Hp->Prop)->Prop
def PO(X:Cx)(e:Option Expr)(t:TO):Prop :=
 ∀(pins:List (Addr×Obj))(s:Shared)(σ:St)(H:Hp)(Q:Option Int->Hp->Prop),Inv X pins σ H s->t σ H Q ->
  wpAny (model X.prog X.w) X.A (evalPart e X.env) (λu s'=>∃o H',Inv X pins σ H' s'/\IsPart u o/\Q o H') X.xe s
def CM:TO:=λ_ H Q=>Q none H
def Nh(t:TE):TO:=λσ H Q=>t σ H λx H1=>∃i,x=.int i/\Q (some i) H1
section
variable {X:Cx}{e:Expr}{te:TE}{lo hi:Option Expr}{tl th:TO}{pos p2:Pos}
def eV:PO X none CM:=by intro pins s σ H Q I h;rw[evalPart_none];exact aL ⟨none,H,I,.none,h⟩
def dX(h:PE X e te):PO X (some e) (Nh te):=by intro pins s σ H Q I hw;rw[evalPart_some];refine cT (h pins s σ H _ I hw) λu s1 zq=>?_;obtain⟨x,H1,I1,r1,q1⟩:=zq;obtain⟨i,rfl,q⟩:=q1;obtain⟨t,rfl⟩:=r1;exact⟨some i,H1,I1,.int i t,q⟩
def O7(X:Cx)(r:V->Option Int->Option Int->Hp->VK->Prop):Prop :=
 ∀(pins:List (Addr×Obj))(s:Shared)(σ:St)(H:Hp)(x:V)(v vl vu:Value)(lo hi:Option Int)(sl:Addr)(Q:VK),Inv X pins σ H s->RelV x v->s.heap.IsSliceOf sl vl vu .none->IsPart vl lo->IsPart vu hi->r x lo hi H Q ->
  ∃T id,typeLookup (.type T) "__getitem__" = pure (some (.builtin id))/\s.TypeIs v T/\wpAny (model X.prog X.w) X.A (getItem v (.ref sl)) (EP X pins σ Q) X.xe s
def O7.or{r r':V->Option Int->Option Int->Hp->VK->Prop}(h:O7 X r)(h':O7 X r'):O7 X (λx lo hi H Q=>r x lo hi H Q\/r' x lo hi H Q):=by
 intro pins s σ H x v vl vu lo hi sl Q I rx hs pl pu q;rcases q with q|q
 .exact h pins s σ H x v vl vu lo hi sl Q I rx hs pl pu q
 .exact h' pins s σ H x v vl vu lo hi sl Q I rx hs pl pu q
def tSl(r:V->Option Int->Option Int->Hp->VK->Prop)(te:TE)(tl th:TO):TE:=λσ H Q=>te σ H λx H1=>tl σ H1 λl H2=>th σ H2 λu H3=>r x l u H3 Q
def c7{r:V->Option Int->Option Int->Hp->VK->Prop}(hr:O7 X r)(he:PE X e te)(hl:PO X lo tl)(hu:PO X hi th):PE X (.Subscript e (.Slice lo hi none p2) pos) (tSl r te tl th):=by intro pins s σ H Q I h;refine Subscript_ (cT (he pins s σ H _ I h) λv s1 zq=>?_);obtain⟨x,H1,I1,r1,q1⟩:=zq;refine wpAny_Slice (cT (hl pins s1 σ H1 _ I1 q1) λvl s2 zq=>?_);obtain⟨l,H2,I2,pl,q2⟩:=zq;refine cT (hu pins s2 σ H2 _ I2 q2) λvu s3 zq=>?_;obtain⟨u,H3,I3,pu,q3⟩:=zq;rw[evalPart_none];refine aL ?_;have I4:Inv X pins σ H3 { s3 with heap:=s3.heap.push { cls:=.type "slice", data:=.fields #[vl,vu,.none] } }:=I3.kept (t':=s3.toks) λb ob q=>c9 _ q;obtain⟨T,id,hT,ht,hg⟩:=hr pins { s3 with heap:=s3.heap.push { cls:=.type "slice", data:=.fields #[vl,vu,.none] } } σ H3 x v vl vu l u s3.heap.objs.size Q I4 r1 (Heap.IsSliceOf.new ..) pl pu q3;show wpAny (model X.prog X.w) X.A (subscriptTail e (.Slice lo hi none p2) v (.ref s3.heap.objs.size)) (EP X pins σ Q) X.xe { s3 with heap:=s3.heap.push { cls:=.type "slice", data:=.fields #[vl,vu,.none] } };exact tail_any (ops:=[.ref s3.heap.objs.size,v]) ht hT hg (by with_unfolding_all rfl)
def iP(xs:List V)(lo hi:Option Int):List V:=(xs.drop (HT.dB xs.length 0 lo)).take (HT.dB xs.length xs.length hi-HT.dB xs.length 0 lo)
def fG(xs:List V)(lo hi:Option Int):(iP xs lo hi).length<=xs.length:=by unfold iP;rw[cF,rT];omega
def Sv(K:aD):V->Option Int->Option Int->Hp->VK->Prop:=λx lo hi H Q=>∃a xs,x=.ref a/\cM K H a xs /\
 ¬(HT.dB xs.length 0 lo=0/\HT.dB xs.length xs.length hi=xs.length)/\∀p,H p=none->Q (.ref p) (upd H p (.tup (iP xs lo hi)))
def kq:O7 X (Sv X.K):=by
 intro pins s σ H x v vl vu lo hi sl Q I rx hs pl pu h;obtain⟨a,xs,rfl,hx,hw,q⟩:=h;cases rx;obtain⟨its,r,ht,hz⟩:=I.tuple hx;have hlen:its.toArray.size=xs.length:=by rw[aV];exact r.length.symm
 refine⟨"tuple", _,PyProof.Rows.slot_tuple_getitem.lookup,ht.typeIs,?_⟩;refine HT.nK ht hs pl pu (by rw[hlen];exact hw) ?_ (by rw[hlen];exact hz);rw[hlen];refine⟨.ref s.heap.objs.size,_,I.laid (t':=s.toks) (o:=.tup (iP xs lo hi)) (λb ob q=>c9 _ q) (az _) ?_,rfl,q _ (I.hok.fresh (az _))⟩;exact⟨bJ (fG xs lo hi) hz,_,(r.drop (HT.dB xs.length 0 lo)).take (HT.dB xs.length xs.length hi-HT.dB xs.length 0 lo),IsTup.new _ _⟩
def GX(K:aD):R2:=λx y H Q=>∃a b xs ys,x=.ref a/\y=.ref b/\cM K H a xs/\cM K H b ys/\xs≠[]/\xs.length+ys.length<=sizeLine /\
 (ys=[]->Q (.ref a) H)/\(ys≠[]->∀p,H p=none->Q (.ref p) (upd H p (.tup (xs++ys))))
def Vals.wF(r:Vals xs us):us=[]↔xs=[]:=by
 cases r with
 | nil=>simp
 | cons _ _=>simp
def jw:jS X (binaryOp .Add) (GX X.K):=by intro pins s σ H x y v u Q I rx ry h;obtain⟨a,b,xs,ys,rfl,rfl,ha,hb,hx,hz,q1,q2⟩:=h;cases rx;cases ry;obtain⟨its,r1,p1,_⟩:=I.tuple ha;obtain⟨its2,r2,p2,_⟩:=I.tuple hb;refine HT.Le p1 p2 (λz=>hx (r1.wF.mp z)) (λz=>⟨.ref a,H,I,rfl,q1 (r2.wF.mp z)⟩) (λz=>?_) (by rw[<- r1.length,<- r2.length];exact hz);refine⟨.ref s.heap.objs.size,_,I.laid (t':=s.toks) (o:=.tup (xs++ys)) (λb ob q=>c9 _ q) (az _) ?_,rfl,q2 (λw=>z (r2.wF.mpr w)) _ (I.hok.fresh (az _))⟩;exact⟨by rw[aR];exact hz,_,r1.append r2,IsTup.new _ _⟩
end
def EO(n:Nat)(i:Int):Option Nat:=if 0<=i then(if i<n then some i.toNat else none) else if -(n:Int)<=i then some (i+n).toNat else none
def nF{α:Type}(xs:List α)(i:Int):Option α:=(EO xs.length i).bind λj=>xs[j]?
def CN{i:Int}{j:Nat}(h:EO n i=some j):seqIndex? i n=some j/\j<n /\ -(n:Int)<=i/\i<n:=by
 unfold EO at h;by_cases h0:0<=i
 .rw[if_pos h0] at h;by_cases h1:i<n
  .rw[if_pos h1] at h;have e:i.toNat=j:=Option.some.inj h;exact⟨by rw[seqIndex_of h0 h1,e],by omega,by omega,h1⟩
  .rw[if_neg h1] at h;cases h
 .rw[if_neg h0] at h;by_cases h1:-(n:Int)<=i
  .rw[if_pos h1] at h;have e:(i+n).toNat=j:=Option.some.inj h;exact⟨by rw[seqIndex_neg (by omega) h1,e],by omega,h1,by omega⟩
  .rw[if_neg h1] at h;cases h
def wG{α:Type}{xs:List α}{i:Int}{v:α}(h:nF xs i=some v):∃j,seqIndex? i xs.length=some j/\xs[j]?=some v/\j<xs.length /\ -(xs.length:Int)<=i/\i<xs.length:=by
 unfold nF at h;cases e:EO xs.length i with
 | none=>rw[e] at h;cases h
 | some j =>
  rw[e] at h;obtain⟨h1,h2,h3,h4⟩:=CN e;exact⟨j,h1,h,h2,h3,h4⟩
def fP{α:Type}{xs:List α}{j:Nat}{v:α}(h:xs[j]?=some v):nF xs (j:Int)=some v:=by
 have hj:j<xs.length:=(fu h).1;have e:EO xs.length (j:Int)=some j:=by unfold EO;rw[if_pos (by omega),if_pos (by omega)];simp
 unfold nF;rw[e];exact h
def Lf(b:Expr):Prop:=∀o i,subscripted b false o i=operate [o,i] (getItem o i)
def KL(X:Cx)(r:R2):Prop :=
 ∀(value slice:Expr)(pins:List (Addr×Obj))(s:Shared)(σ:St)(H:Hp)(x y:V)(v u:Value)(Q:VK),Inv X pins σ H s->RelV x v->RelV y u->r x y H Q ->
  subscripted slice false v u=operate [v,u] (getItem v u)->wpAny (model X.prog X.w) X.A (subscriptTail value slice v u) (EP X pins σ Q) X.xe s
def Ru(X:Cx)(id:String)(r:V->List V->Hp->VK->Prop):Prop :=
 ∀(pins:List (Addr×Obj))(s:Shared)(σ:St)(H:Hp)(x:V)(xs:List V)(v:Value)(us:List Value)(Q:VK),Inv X pins σ H s->RelV x v->Vals xs us->r x xs H Q ->
  wpAny (model X.prog X.w) X.A (call (.builtin id) (v::us)) (EP X pins σ Q) X.xe s
section
variable {X:Cx}{a b:Expr}{ta tb:TE}{pos:Pos}
def KL.or{r r':R2}(h:KL X r)(h':KL X r'):KL X (λx y H Q=>r x y H Q\/r' x y H Q):=by
 intro value slice pins s σ H x y v u Q I rx ry q hs;rcases q with q|q
 .exact h value slice pins s σ H x y v u Q I rx ry q hs
 .exact h' value slice pins s σ H x y v u Q I rx ry q hs
def Ru.or{id:String}{r r':V->List V->Hp->VK->Prop}(h:Ru X id r)(h':Ru X id r'):Ru X id (λx xs H Q=>r x xs H Q\/r' x xs H Q):=by
 intro pins s σ H x xs v us Q I rx rs q;rcases q with q|q
 .exact h pins s σ H x xs v us Q I rx rs q
 .exact h' pins s σ H x xs v us Q I rx rs q
def aS{r:R2}(hr:KL X r)(ha:PE X a ta)(hb:PE X b tb)(hs:Lf b):PE X (.Subscript a b pos) (OX r ta tb):=by intro pins s σ H Q I h;exact Subscript_ (OY ha hb I h λv u s2 x y H2 I2 rx ry q=>hr a b pins s2 σ H2 x y v u Q I2 rx ry q (hs _ _))
def O8(K:aD):R2:=λx y H Q=>∃p xs i v,x=.ref p/\y=.int i/\bE K H p xs/\nF xs i=some v/\Q v H
def O9(K:aD):R2:=λx y H Q=>∃p xs i v,x=.ref p/\y=.int i/\cM K H p xs/\nF xs i=some v/\Q v H
def Sw:R2:=λx y H Q=>∃z i c,x=.str z/\y=.int i/\z.length<=sizeLine/\nF z.cps.toList i=some c/\Q (.str ⟨#[c]⟩) H
def bL:KL X (O8 X.K):=by
 intro value slice pins s σ H x y v u Q I rx ry h hs;obtain⟨p,xs,i,z,rfl,rfl,hq,he,q⟩:=h;cases rx;obtain⟨t,rfl⟩:=ry;obtain⟨its,r,pl,hz⟩:=I.list hq;obtain⟨j,h1,h2,h3,h4,h5⟩:=wG he;obtain⟨w,ew,rw'⟩:=r.get h2;have hl:=r.length;have hn:=pQ;have fin:EP X pins σ Q w s:=⟨z,H,I,rw',q⟩;by_cases h0:0<=i
 .have hj:i.toNat=j:=by rw[seqIndex_of h0 h5] at h1;exact Option.some.inj h1
  exact item_listR pl.isList h0 (by omega) (by rw[hj];simpa using ew) fin hs
 .have hj:(i+(its.toArray.size:Int)).toNat=j:=by rw[seqIndex_neg (by omega) h4] at h1;rw[aV,<- hl];exact Option.some.inj h1
  exact subscriptTail_builtinR (x:=w) pl.isList.typeIs slot_list_getitem.lookup
   (wpAny_getItem_list_neg (Q:=λr s'=>r=w/\EP X pins σ Q r s') pl.isList (by omega) (by rw[aV]<;>omega) (by omega) (by rw[hj];simpa using ew) ⟨rfl,fin⟩) hs
def cO:KL X (O9 X.K):=by
 intro value slice pins s σ H x y v u Q I rx ry h hs;obtain⟨p,xs,i,z,rfl,rfl,hq,he,q⟩:=h;cases rx;obtain⟨t,rfl⟩:=ry;obtain⟨its,r,pl,hz⟩:=I.tuple hq;obtain⟨j,h1,h2,h3,h4,h5⟩:=wG he;obtain⟨w,ew,rw'⟩:=r.get h2;have hl:=r.length;have hn:=pQ;have fin:EP X pins σ Q w s:=⟨z,H,I,rw',q⟩;exact subscriptTail_builtinR (x:=w) pl.typeIs slot_tuple_getitem.lookup
  (getItem_tuple (j:=j) (Q:=λr s'=>r=w/\EP X pins σ Q r s') pl (by omega) (by omega) (by rw[aV,<- hl];exact h1) (by simpa using ew) ⟨rfl,fin⟩) hs
def GY:KL X Sw:=by
 intro value slice pins s σ H x y v u Q I rx ry h hs;obtain⟨z,i,c,rfl,rfl,hz,he,q⟩:=h;obtain⟨t,rfl⟩:=rx;obtain⟨t',rfl⟩:=ry;obtain⟨j,h1,h2,h3,h4,h5⟩:=wG he;have hl:z.cps.toList.length=z.length:=by simp[Str.length]
 rw[hl] at h1 h4 h5;have hn:=pQ;exact tail_any (typeIs_str s z t) slot_str_getitem.lookup (getItem_str (c:=c) (by
  have e1:decide (i < -(2 ^ 63:Int))=false:=decide_eq_false (by omega);have e2:decide (i>=2 ^ 63)=false:=decide_eq_false (by omega);rw[e1,e2,Bool.or_false]) (by rw[h1];simpa using h2) ⟨.str ⟨#[c]⟩,H,I.tok _,⟨_,rfl⟩,q⟩) hs
def Bf(its:List Value)(n j:Nat)(u:Value):Obj.mapSeq (·.setIfInBounds j u) { cls:=.type "list", data:=.seq its.toArray n }={ cls:=.type "list", data:=.seq (its.set j u).toArray n }:=by simp[Obj.mapSeq]
theorem Inv.lst{pins:List (Addr×Obj)}{σ:St}{H:Hp}{s:Shared}{p:Addr}{xs:List V}(I:Inv X pins σ H s)(h:H p=some (.lst xs)):
  ∃(its:List Value)(n:Nat),Vals xs its/\s.heap.get? p=some { cls:=.type "list", data:=.seq its.toArray n }/\xs.length<=sizeLine:=by obtain⟨z,its,n,r,e⟩:=I.hok p _ h;exact⟨its,n,r,e,z⟩
def Inv.Pa{σ:St}{p:Addr}{ys:List V}{its':List Value}{n':Nat}{f:Obj->Obj}(I:Inv X pins σ H s)(h:H p=some (.lst xs))
  (ho:s.heap.get? p=some { cls:=.type "list", data:=.seq its.toArray n })(hf:f { cls:=.type "list", data:=.seq its.toArray n }={ cls:=.type "list", data:=.seq its'.toArray n' })(r:Vals ys its')(hz:ys.length<=sizeLine)(t:Nat):
  Inv X pins σ (upd H p (.lst ys)) { s with heap:=s.heap.update p f,toks:=t }:=by
 have e:(s.heap.update p f).get? p=some { cls:=.type "list", data:=.seq its'.toArray n' }:=by rw[fE f ho (by rw[hf]<;>rfl),hf]
 refine I.write (x:=p) (e:=p) (by rw[h];trivial) (.inl rfl) (λb u hb q=>(j9 _ _ (bA hb)).trans q) ⟨_,e⟩ ?_;exact⟨hz,its',n',r,e⟩
def Ni:V->V->V->Hp->(Hp->Prop)->Prop:=λo i v H Q=>∃p xs k j,o=.ref p/\i=.int k/\H p=some (.lst xs)/\EO xs.length k=some j/\Q (upd H p (.lst (xs.set j v)))
def set_list:R6 X Ni:=by
 intro pins s σ H o i v ov iv u Q I ro ri rv h;obtain⟨p,xs,k,j,rfl,rfl,hp,hj,q⟩:=h;cases ro;obtain⟨t,rfl⟩:=ri;obtain⟨its,n,r,ho,hz⟩:=I.lst hp;obtain⟨h1,h2,h3,h4⟩:=CN hj;have hl:=r.length;have hn:=pQ;have I':Inv X pins σ (upd H p (.lst (xs.set j v))) { s with heap:=s.heap.update p (Obj.mapSeq (·.setIfInBounds j u)) } :=
  I.Pa hp ho (Bf its n j u) (r.set rv j) (by rw[eE];exact hz) s.toks
 by_cases h0:0<=k
 .have hk:k.toNat=j:=by rw[seqIndex_of h0 h4] at h1;exact Option.some.inj h1
  exact PySem.W.ki_setAt ho h0 (by omega) (by rw[aV,<- hl];exact h4) (by rw[hk];exact⟨_,I',q⟩)
 .have hk:(k+(its.toArray.size:Int)).toNat=j:=by rw[seqIndex_neg (by omega) h3] at h1;rw[aV,<- hl];exact Option.some.inj h1
  exact PySem.W.ki_setBack ho (by omega) (by rw[aV,<- hl];exact h3) (by omega) (by rw[hk];exact⟨_,I',q⟩)
def wH(lo hi:Option Int)(n:Nat):(sliceBounds lo hi none n).1=((HT.dB n 0 lo:Nat):Int)/\(sliceBounds lo hi none n).2.1=((HT.dB n n hi:Nat):Int)/\(sliceBounds lo hi none n).2.2=1:=by
 refine⟨?_,?_,rfl⟩
 .cases lo with
  | none=>simp[sliceBounds,HT.dB]
  | some i =>
   simp only[sliceBounds,HT.dB,Option.getD_none,show(1:Int)>0 by decide,if_true];by_cases h:i<0
   .simp only[h,if_true]<;>omega
   .simp only[h,if_false]<;>omega
 .cases hi with
  | none=>simp[sliceBounds,HT.dB]
  | some i =>
   simp only[sliceBounds,HT.dB,Option.getD_none,show(1:Int)>0 by decide,if_true];by_cases h:i<0
   .simp only[h,if_true]<;>omega
   .simp only[h,if_false]<;>omega
def uz(its:List Value)(lo hi:Option Int):slicePick its.toArray lo hi none=((its.drop (HT.dB its.length 0 lo)).take (HT.dB its.length its.length hi-HT.dB its.length 0 lo)).toArray:=by obtain⟨h1,h2,h3⟩:=wH lo hi its.toArray.size;unfold slicePick;rw[h1,h2,h3];simp only[sliceRange_one,pick_run,aV]<;>rfl
def Sx(K:aD):V->Option Int->Option Int->Hp->VK->Prop:=λx lo hi H Q=>∃a xs,x=.ref a/\bE K H a xs/\∀p,H p=none->Q (.ref p) (upd H p (.lst (iP xs lo hi)))
def kr:O7 X (Sx X.K):=by intro pins s σ H x v vl vu lo hi sl Q I rx hs pl pu h;obtain⟨a,xs,rfl,hx,q⟩:=h;cases rx;obtain⟨its,r,ht,hz⟩:=I.list hx;have hlen:=r.length;refine⟨"list", _,slot_list_getitem.lookup,ht.isList.typeIs,?_⟩;refine wpAny_getItem_list_slice ht.isList hs pl pu .none (by simp) ?_ (by rw[aV]<;>omega);rw[uz,<- hlen];refine⟨.ref s.heap.objs.size,_,I.laid (t':=s.toks) (o:=.lst (iP xs lo hi)) (λb ob q=>c9 _ q) (az _) ?_,rfl,q _ (I.hok.fresh (az _))⟩;exact⟨bJ (fG xs lo hi) hz,_,0,(r.drop (HT.dB xs.length 0 lo)).take (HT.dB xs.length xs.length hi-HT.dB xs.length 0 lo),iE _ rfl⟩
def kQ:V->Bool
 | .cY=>true
 | .bl _=>true
 | .int _=>true
 | .str _=>true
 | _=>false
def Lg:V->V->Bool
 | .cY,.cY=>true
 | .bl a,.bl b=>a==b
 | .bl a,.int b=>(if a then 1 else 0)==b
 | .int a,.bl b=>a==(if b then 1 else 0)
 | .int a,.int b=>a==b
 | .str a,.str b=>a==b
 | _,_=>false
def Pb{A:Around}{v:Value}(ry:RelV y u)(rx:RelV x v)(fy:kQ y=true)(fx:kQ x=true):SeqAt.EqAt A s u v (Lg y x):=by
 cases y with
 | cY =>
  cases ry;cases x with
  | cY=>cases rx;exact SeqAt.EqAt.same _
  | bl b=>cases rx;exact SeqAt.EqAt.none_bool b
  | int b=>obtain⟨t,rfl⟩:=rx;exact SeqAt.EqAt.none_int b t
  | str b=>obtain⟨t,rfl⟩:=rx;exact SeqAt.EqAt.none_str b t
  | _=>exact absurd (show false=true from fx) jT
 | bl a =>
  cases ry;cases x with
  | cY=>cases rx;exact SeqAt.EqAt.bool_none a
  | bl b=>cases rx;exact SeqAt.EqAt.bool_bool a b
  | int b=>obtain⟨t,rfl⟩:=rx;exact SeqAt.EqAt.bool_int a b t
  | str b=>obtain⟨t,rfl⟩:=rx;exact SeqAt.EqAt.bool_str a b t
  | _=>exact absurd (show false=true from fx) jT
 | int a =>
  obtain⟨t',rfl⟩:=ry;cases x with
  | cY=>cases rx;exact SeqAt.EqAt.int_none a t'
  | bl b=>cases rx;exact SeqAt.EqAt.int_bool a t' b
  | int b=>obtain⟨t,rfl⟩:=rx;exact SeqAt.EqAt.int_int a t' b t
  | str b=>obtain⟨t,rfl⟩:=rx;exact SeqAt.EqAt.int_str a t' b t
  | _=>exact absurd (show false=true from fx) jT
 | str a =>
  obtain⟨t',rfl⟩:=ry;cases x with
  | cY=>cases rx;exact SeqAt.EqAt.str_none a t'
  | bl b=>cases rx;exact SeqAt.EqAt.str_bool a t' b
  | int b=>obtain⟨t,rfl⟩:=rx;exact SeqAt.EqAt.str_int a t' b t
  | str b=>obtain⟨t,rfl⟩:=rx;exact SeqAt.EqAt.str_str a t' b t
  | _=>exact absurd (show false=true from fx) jT
 | _=>exact absurd (show false=true from fy) jT
def Bg(x:V)(u:Value):Bool:=match u with
 | .none=>Lg .cY x
 | .bool b=>Lg (.bl b) x
 | .int i _=>Lg (.int i) x
 | .str z _=>Lg (.str z) x
 | _=>false
def GZ(r:RelV y u)(f:kQ y=true):Bg x u=Lg y x:=by
 cases y with
 | cY=>cases r;rfl
 | bl b=>cases r;rfl
 | int i=>obtain⟨t,rfl⟩:=r;rfl
 | str z=>obtain⟨t,rfl⟩:=r;rfl
 | _=>exact absurd (show false=true from f) jT
theorem nL{x:V}:∀{xs:List V}{us:List Value},Vals xs us->xs.all kQ=true->us.any (Bg x)=xs.any λy=>Lg y x
 | _,_,.nil,_=>rfl
 | y::xs,u::us,.cons r t,f=>by rw[List.all_cons,rH] at f;rw[jE,jE,GZ r f.1,nL t f.2]
theorem lD{A:Around}{s:Shared}{x:V}{v:Value}(rx:RelV x v)(fx:kQ x=true):∀{xs:List V}{us:List Value},Vals xs us->xs.all kQ=true->∀u∈us,SeqAt.EqAt A s u v (Bg x u)
 | _,_,.nil,_=>λu hu=>by cases hu
 | y::xs,u::us,.cons r t,f=>λu' hu=>by
  rw[List.all_cons,rH] at f;rcases aI.mp hu with rfl|hu
  .rw[GZ r f.1];exact Pb r rx f.1 fx
  .exact lD rx fx t f.2 u' hu
def uA(x:V)(xs:List V):Bool:=xs.any λy=>Lg y x
def Vz(K:aD)(neg:Bool):R2:=λx y H Q=>∃p xs,y=.ref p/\(bE K H p xs\/cM K H p xs)/\kQ x=true/\xs.all kQ=true/\Q (.bl (if neg then !uA x xs else uA x xs)) H
def gW:jS X (compareOp .In) (Vz X.K false):=by
 intro pins s σ H x y v u Q I rx ry h;obtain⟨p,xs,rfl,hq,fx,fs,q⟩:=h;cases ry;rcases hq with hq|hq
 .obtain⟨its,r,pl,hz⟩:=I.list hq;refine SeqAt.in_listAt (Bg x) pl.isList (λw hw=>lD rx fx r fs w (by simpa using hw)) ⟨.bl _,H,I,rfl,?_⟩;rw[show its.toArray.any (Bg x)=its.any (Bg x) by simp,nL r fs];exact q
 .obtain⟨its,r,pl,hz⟩:=I.tuple hq;refine SeqAt.in_tupleAt (Bg x) pl (λw hw=>lD rx fx r fs w (by simpa using hw)) ⟨.bl _,H,I,rfl,?_⟩;rw[show its.toArray.any (Bg x)=its.any (Bg x) by simp,nL r fs];exact q
def nM:jS X (compareOp .NotIn) (Vz X.K true):=by
 intro pins s σ H x y v u Q I rx ry h;obtain⟨p,xs,rfl,hq,fx,fs,q⟩:=h;cases ry;rcases hq with hq|hq
 .obtain⟨its,r,pl,hz⟩:=I.list hq;refine SeqAt.notIn_listAt (Bg x) pl.isList (λw hw=>lD rx fx r fs w (by simpa using hw)) ⟨.bl _,H,I,rfl,?_⟩;rw[show its.toArray.any (Bg x)=its.any (Bg x) by simp,nL r fs];exact q
 .obtain⟨its,r,pl,hz⟩:=I.tuple hq;refine SeqAt.notIn_tupleAt (Bg x) pl (λw hw=>lD rx fx r fs w (by simpa using hw)) ⟨.bl _,H,I,rfl,?_⟩;rw[show its.toArray.any (Bg x)=its.any (Bg x) by simp,nL r fs];exact q
def wI:dj X (.builtin "len") (λxs H Q=>∃p ys,xs=[.ref p]/\(bE X.K H p ys\/cM X.K H p ys)/\Q (.int ys.length) H):=by
 intro pins s σ H xs us Q I r h;obtain⟨p,ys,rfl,hq,q⟩:=h;obtain⟨u,rfl,rx⟩:=vals1 r;cases rx;have hn:=pQ;rcases hq with hq|hq
 .obtain⟨its,r',pl,hz⟩:=I.list hq;have hlen:=r'.length;exact Calls.call_len_list pl.isList (by simp only[aV]<;>omega) ⟨.int ys.length,H,I.tok _,⟨s.toks+1,by rw[aV,hlen]⟩,q⟩
 .obtain⟨its,r',pl,hz⟩:=I.tuple hq;have hlen:=r'.length;exact len_tuple pl (by simp only[aV]<;>omega) ⟨.int ys.length,H,I.tok _,⟨s.toks+1,by rw[aV,hlen]⟩,q⟩
def dj.or{f:Value}{r r':List V->Hp->VK->Prop}(h:dj X f r)(h':dj X f r'):dj X f (λxs H Q=>r xs H Q\/r' xs H Q):=by
 intro pins s σ H xs us Q I rs q;rcases q with q|q
 .exact h pins s σ H xs us Q I rs q
 .exact h' pins s σ H xs us Q I rs q
def wJ:dj X (.type "list") (λxs H Q=>∃p ys,xs=[.ref p]/\(bE X.K H p ys\/cM X.K H p ys)/\∀l,H l=none->Q (.ref l) (upd H l (.lst ys))):=by
 intro pins s σ H xs us Q I r h;obtain⟨p,ys,rfl,hq,q⟩:=h;obtain⟨u,rfl,rx⟩:=vals1 r;cases rx;have fin:∀(its:List Value),Vals ys its->ys.length<=sizeLine->∀(h':Heap)(c':Nat),(∀b o',s.heap.get? b=some o'->h'.get? b=some o') ->
   h'.get? s.heap.objs.size=some { cls:=.type "list", dict:=none,data:=.seq its.toArray c',slots:=#[] }->EP X pins σ Q (.ref s.heap.objs.size) { s with heap:=h' }:=λits r' hz h' c' kp e =>
  ⟨.ref s.heap.objs.size,_,I.laid (t':=s.toks) kp (az _) (show cZ X.prog X.w _ h' _ (.lst ys) from⟨hz,its,c',r',e⟩),rfl,q _ (I.hok.fresh (az _))⟩
 rcases hq with hq|hq
 .obtain⟨its,r',pl,hz⟩:=I.list hq;have hlen:=r'.length;obtain⟨o,ho,hc,n,hd⟩:=pl.isList;exact call_list_seq p (.inl rfl) ho hc hd (λh' c' kp e=>fin its r' hz h' c' kp e) (by simp only[aV]<;>omega)
 .obtain⟨its,r',pl,hz⟩:=I.tuple hq;have hlen:=r'.length;obtain⟨o,ho,hc,n,hd⟩:=pl;exact call_list_seq p (.inr rfl) ho hc hd (λh' c' kp e=>fin its r' hz h' c' kp e) (by simp only[aV]<;>omega)
def uB:dj X (.type "tuple") (λxs H Q=>∃p ys,xs=[.ref p]/\((bE X.K H p ys/\∀l,H l=none->Q (.ref l) (upd H l (.tup ys)))\/(cM X.K H p ys/\Q (.ref p) H))):=by
 intro pins s σ H xs us Q I r h;obtain⟨p,ys,rfl,h⟩:=h;obtain⟨u,rfl,rx⟩:=vals1 r;cases rx;rcases h with⟨hq,q⟩|⟨hq,q⟩
 .obtain⟨its,r',pl,hz⟩:=I.list hq;have hlen:=r'.length;refine call_tuple_list pl.isList (λh' kp=>?_) (by simp only[aV]<;>omega);have I1:Inv X pins σ H { s with heap:=h' }:=I.kept (t':=s.toks) kp;have I2:Inv X pins σ (upd H h'.objs.size (.tup ys)) { s with heap:=h'.push { cls:=.type "tuple", data:=.seq its.toArray } } :=
   I1.laid (t':=s.toks) (λb o e=>c9 _ e) (az _) (show cZ X.prog X.w _ _ _ (.tup ys) from⟨hz,its,r',IsTup.new _ _⟩)
  exact⟨.ref h'.objs.size,_,I2,rfl,q _ (I1.hok.fresh (az _))⟩
 .obtain⟨its,r',pl,hz⟩:=I.tuple hq;exact call_tuple_same pl ⟨.ref p,H,I,rfl,q⟩
def Rv(K:aD)(T:String)(x:V)(H:Hp):Prop:=match x with
 | .str _=>T = "str"
 | .int _=>T = "int"
 | .ref p=>(T = "list" /\ ∃xs,bE K H p xs)\/(T = "tuple" /\ ∃o,K.lookup p=some o/\o.cls=.type "tuple" /\ o.dict=none) \/
   (T = "dict" /\ ((∃kvs,H p=some (.dK kvs))\/∃kvs,H p=some (.dT kvs)))\/(T = "set" /\ ∃S n,H p=some (.set S n))
 | _=>False
def G0{σ:St}{T:String}{v:Value}(I:Inv X pins σ H s)(r:RelV x v)(ty:Rv X.K T x H):
  s.TypeIs v T/\∀a,v=.ref a->∃ob,s.heap.get? a=some ob/\ob.dict=none:=by
 cases x with
 | str z =>
  obtain⟨t,rfl⟩:=r;cases(show T = "str" from ty);exact⟨typeIs_str s z t,λ_ e=>nomatch e⟩
 | int i =>
  obtain⟨t,rfl⟩:=r;cases(show T = "int" from ty);exact⟨typeIs_int s i t,λ_ e=>nomatch e⟩
 | ref p =>
  cases r;rcases ty with⟨rfl,xs,hq⟩|⟨rfl,o,hk,hc,hd⟩|⟨rfl,hk⟩|⟨rfl,S,n,hk⟩
  .obtain⟨its,_,pl,_⟩:=I.list hq;refine⟨pl.isList.typeIs,λa e=>?_⟩;cases e;obtain⟨o,n,e,c,hd,_⟩:=pl;exact⟨o,e,hd⟩
  .refine⟨⟨o,I.wA p o hk,hc⟩,λa e=>?_⟩;cases e;exact⟨o,I.wA _ o hk,hd⟩
  .have z:∃o,s.heap.get? p=some o/\o.ExactDict:=by
    rcases hk with⟨kvs,hk⟩|⟨kvs,hk⟩
    .obtain⟨_,_,_,_,o,_,_,e,ex,_⟩:=I.hok p _ hk;exact⟨o,e,ex⟩
    .obtain⟨_,_,_,_,o,_,_,e,ex,_⟩:=I.hok p _ hk;exact⟨o,e,ex⟩
   obtain⟨o,e,ex⟩:=z;refine⟨⟨o,e,ex.1⟩,λa e2=>?_⟩;cases e2;exact⟨o,e,ex.2.1⟩
  .obtain⟨o,_,_,_,e,ex,_⟩:=I.hok p _ hk;refine⟨⟨o,e,ex.1⟩,λa e2=>?_⟩;cases e2;exact⟨o,e,ex.2.1⟩
 | _=>exact False.elim ty
def Sy(K:aD)(T:String)(r:V->List V->Hp->VK->Prop)(to:TE):TE:=λσ H Q=>to σ H λx H1=>Rv K T x H1/\r x [] H1 Q
def tBM(K:aD)(T:String)(r:V->List V->Hp->VK->Prop)(to:TE)(t:TA):TE:=λσ H Q=>to σ H λx H1=>Rv K T x H1/\t σ H1 λxs H2=>r x xs H2 Q
variable {o e:Expr}{es:List Expr}{to:TE}{t:TA}{name:Str}{apos cpos:Pos}{T id:String}{r:V->List V->Hp->VK->Prop}
def Bh(pa:PlainAttrs T)(slot:Slot T name id)(hty:typeOf (.builtin id)=pure (.type "method_descriptor"))(hm:Ru X id r)(ho:PE X o to)
  (hbase:attributeBase o name X.env (eval o X.env)=eval o X.env:=by rfl)(hline:(apos.endLine==cpos.line)=true:=by rfl):PE X (.Call (.Attribute o name apos) [] [] cpos) (Sy X.K T r to):=by intro pins s σ H Q I h;refine wpAny_Call_method0_late hbase hline (cT (ho pins s σ H _ I h) λv s1 zq=>?_);obtain⟨x,H1,I1,r1,ty,q1⟩:=zq;obtain⟨h1,h2⟩:=G0 I1 r1 ty;exact⟨T,id,pa,slot,hty,h1,h2,we rfl (PySem.evalArgs_none (hm pins s1 σ H1 x [] v [] Q I1 r1 .nil q1))⟩
def jx(pa:PlainAttrs T)(slot:Slot T name id)(hty:typeOf (.builtin id)=pure (.type "method_descriptor"))(hm:Ru X id r)(ho:PE X o to)(ha:PA X (e::es) t)
  (hbase:attributeBase o name X.env (eval o X.env)=eval o X.env:=by rfl)
  (hfew:((backTo cpos (starEach (e::es) X.env)).all (λx=>!x.1)&&(backToKw cpos (keywordEach [] X.env)).all (λx=>x.1.isSome)
   && decide ((e::es).length+([]:List Keyword).length+(if([]:List Keyword).isEmpty then 0 else 1)<30))=true:=by rfl)
  (hline:(apos.endLine==cpos.line)=true:=by rfl)(hs:starEach (e::es) X.env=(false,eval e X.env)::starEach es X.env:=by rfl)(hplain:(backTo cpos (starEach es X.env)).any (·.1)=false:=by rfl):
  PE X (.Call (.Attribute o name apos) (e::es) [] cpos) (tBM X.K T r to t):=by intro pins s σ H Q I h;refine wpAny_Call_method_late hbase hfew hline rfl (cT (ho pins s σ H _ I h) λv s1 zq=>?_);obtain⟨x,H1,I1,r1,ty,q1⟩:=zq;obtain⟨h1,h2⟩:=G0 I1 r1 ty;refine⟨T,id,pa,slot,hty,h1,h2,?_⟩;have hA:=ha cpos pins s1 σ H1 _ I1 q1;rw[hs] at hA ⊢;refine we (by show(false||(backTo cpos (starEach es X.env)).any (·.1))=false;rw[hplain]<;>rfl) (Calls.evalArgs_plain ?_);exact cT hA λus s2 ⟨vs,H2,I2,r2,q2⟩=>hm pins s2 σ H2 x vs v us Q I2 r1 r2 q2
end
def Sz(X:Cx)(id:String)(r:V->List V->Hp->VK->Prop):Prop :=
 ∀(pins:List (Addr×Obj))(s:Shared)(σ:St)(H:Hp)(x:V)(xs:List V)(v:Value)(us:List Value)(Q:VK),Inv X pins σ H s->RelV x v->Vals xs us->r x xs H Q ->
  wpAny (model X.prog X.w) X.A (call (.builtin id) (v::us)) (EP X pins σ Q) X.xe s
theorem Vals.one{x:V}{us:List Value}(h:Vals [x] us):∃u,us=[u]/\RelV x u:=by cases h with | cons r t=>cases t;exact⟨_,rfl,r⟩
theorem Vals.two{x y:V}{us:List Value}(h:Vals [x,y] us):∃u v,us=[u,v]/\RelV x u/\RelV y v:=by cases h with | cons r t=>cases t with | cons q t=>cases t;exact⟨_,_,rfl,r,q⟩
theorem Vals.zero:∀{us:List Value},Vals [] us->us=[]
 | _,.nil=>rfl
theorem Vals.dropLast(h:Vals xs us):Vals xs.dropLast us.dropLast:=by
 induction h with
 | nil=>exact .nil
 | cons r t ih =>
  cases t with
  | nil=>exact .nil
  | cons q t'=>exact .cons r ih
theorem Vals.eraseIdx:∀{xs:List V}{us:List Value}(i:Nat),Vals xs us->Vals (xs.eraseIdx i) (us.eraseIdx i)
 | _,_,_,.nil=>.nil
 | _,_,0,.cons _ t=>t
 | _,_,i+1,.cons r t=>.cons r (Vals.eraseIdx i t)
theorem Vals.reverse(h:Vals xs us):Vals xs.reverse us.reverse:=by
 induction h with
 | nil=>exact .nil
 | cons r t ih=>rw[List.reverse_cons,List.reverse_cons];exact Vals.append ih (.cons r .nil)
theorem Vals.rep(h:Vals xs us):∀k:Nat,Vals (List.replicate k xs).flatten (List.replicate k us).flatten
 | 0=>.nil
 | k+1=>by rw[rW,rW,List.flatten_cons,List.flatten_cons];exact Vals.append h (Vals.rep h k)
def Bj{α:Type}(l:List α):l.eraseIdx (l.length-1)=l.dropLast:=by
 induction l with
 | nil=>rfl
 | cons a r ih =>
  cases r with
  | nil=>rfl
  | cons b r =>
   have e:(a::b::r).length-1=((b::r).length-1)+1:=by have h1:(a::b::r).length=r.length+2:=rfl;have h2:(b::r).length=r.length+1:=rfl;omega
   rw[e,wo,ih]
   all_goals rfl
theorem uW{α:Type}:∀(l:List α)(i:Nat),(l.eraseIdx i).length<=l.length
 | [],_=>az _
 | _::_,0=>lu _
 | _::r,i+1=>Nat.succ_le_succ (uW r i)
theorem foldl_rep(its:List Value):∀(k:Nat)(acc:List Value),
  List.foldl (λx1 x2=>x1++x2) acc.toArray (List.replicate k its.toArray)=(acc++(List.replicate k its).flatten).toArray
 | 0,acc=>by simp
 | k+1,acc=>by
  have e:acc.toArray++its.toArray=(acc++its).toArray:=by simp
  have e2:(acc++its)++(List.replicate k its).flatten=acc++(List.replicate (k+1) its).flatten:=by rw[rW,List.flatten_cons,mX]
  rw[<- e2,<- foldl_rep its k (acc++its),<- e,rW,List.foldl_cons]
section
variable {X:Cx}{pins:List (Addr×Obj)}{σ:St}{H:Hp}{s:Shared}{l b:Addr}{xs ys zs:List V}
def Inv.G1{its':List Value}{f:Array Value->Array Value}(I:Inv X pins σ H s)(hH:H l=some (.lst xs))
  (e:s.heap.get? l=some { cls:=.type "list", data:=.seq its.toArray n })(hf:f its.toArray=its'.toArray)(hv:Vals ys its')(hz:ys.length<=sizeLine):
  Inv X pins σ (upd H l (.lst ys)) { s with heap:=s.heap.update l (Obj.mapSeq f),toks:=t' }:=by have q:=PySem.IsL.update e f;rw[hf] at q;refine I.write (x:=l) (e:=l) (by rw[hH];exact trivial) (.inl rfl) (λb' u hb hu=>(j9 s.heap (Obj.mapSeq f) (bA hb)).trans hu) ⟨_,q⟩ ?_;exact⟨hz,its',_,hv,q⟩
def Inv.SA(I:Inv X pins σ H s)(hv:Vals ys its)(hz:ys.length<=sizeLine):
  Inv X pins σ (upd H s.heap.objs.size (.lst ys)) { s with heap:=s.heap.push { cls:=.type "list", data:=.seq its.toArray },toks:=t' } :=
 I.laid (λ_ _ q=>c9 _ q) (az _) ⟨hz,its,0,hv,iE _ rfl⟩
theorem Inv.fresh(I:Inv X pins σ H s):H s.heap.objs.size=none:=I.hok.fresh (az _)
def Inv.wK(I:Inv X pins σ H s)(hH:H l=some (.lst xs)):xs.length<=sizeLine/\∃(its:List Value)(n:Nat),Vals xs its/\xs.length=its.length/\s.heap.get? l=some { cls:=.type "list", data:=.seq its.toArray n }:=by obtain⟨z,its,n,r,e⟩:=I.hok l _ hH;exact⟨z,its,n,r,r.length,e⟩
def yq(h:n<=sizeLine):Builtin.List.listTooLong n=false:=by unfold Builtin.List.listTooLong;exact decide_eq_false (by omega)
end
section
variable {X:Cx}
def CO:V->List V->Hp->VK->Prop:=λx vs H Q=>∃l xs y,x=.ref l/\vs=[y]/\H l=some (.lst xs)/\xs.length<sizeLine/\Q .cY (upd H l (.lst (xs++[y])))
def gz:Sz X "list.append" CO:=by intro pins s σ H x vs v us Q I rx rv h;obtain⟨l,xs,y,rfl,rfl,hH,hz,q⟩:=h;cases rx;obtain⟨u,rfl,ru⟩:=rv.one;obtain⟨z,its,n,r,hl,e⟩:=I.wK hH;refine call_meets F.slot_list_append ⟨_,e,rfl⟩ F.entry_list_append (F.args_list_append_2 _ _) (PySem.list_append l its.toArray n u (by rw[aV];omega)) ⟨e,?_⟩;refine⟨.cY,_,I.G1 (its':=its++[u]) hH e (by simp) (r.append (.cons ru .nil)) ?_,rfl,q⟩;rw[aR,jJ];omega
def CP:V->List V->Hp->VK->Prop:=λx vs H Q=>∃l b xs zs,x=.ref l/\vs=[.ref b]/\H l=some (.lst xs)/\H b=some (.lst zs)/\xs.length+zs.length<=sizeLine/\Q .cY (upd H l (.lst (xs++zs)))
def jW:Sz X "list.extend" CP:=by
 intro pins s σ H x vs v us Q I rx rv h;obtain⟨l,b,xs,zs,rfl,rfl,hH,hB,hz,q⟩:=h;cases rx;obtain⟨u,rfl,ru⟩:=rv.one;cases ru;obtain⟨z,its,n,r,hl,e⟩:=I.wK hH;obtain⟨z2,its2,n2,r2,hl2,e2⟩:=I.wK hB;have hsz:its.toArray.size+its2.toArray.size<=sizeLine:=by rw[aV,aV];omega
 have G2:¬(!its.toArray.isEmpty&&Builtin.List.listTooLong (its.toArray.size+its2.toArray.size))=true:=by rw[yq hsz,Bool.and_false];exact jT
 refine call_meets F.slot_list_extend ⟨_,e,rfl⟩ F.entry_list_extend (F.args_list_extend_2 _ _)
  (AutoSeq1.list_extend_list_list_0 l its.toArray n b its2.toArray n2 G2 (by rw[aV];omega) (by omega)) ⟨e,e2,?_⟩
 refine⟨.cY,_,I.G1 (its':=its++its2) hH e (by simp) (r.append r2) ?_,rfl,q⟩;rw[aR];omega
def SD:V->List V->Hp->VK->Prop:=λx vs H Q=>∃l xs y,x=.ref l/\vs=[]/\H l=some (.lst xs)/\xs[xs.length-1]?=some y/\Q y (upd H l (.lst xs.dropLast))
def G3:Sz X "list.pop" SD:=by
 intro pins s σ H x vs v us Q I rx rv h;obtain⟨l,xs,y,rfl,rfl,hH,hy,q⟩:=h;cases rx;have pS:=rv.zero;subst pS;obtain⟨z,its,n,r,hl,e⟩:=I.wK hH;obtain⟨u,hu,ru⟩:=r.get hy;have hy':its.toArray[its.toArray.size-1]?=some u:=by show its.toArray[its.length-1]?=some u;rw[<- fS,<- hl];exact hu
 refine call_meets F.slot_list_pop ⟨_,e,rfl⟩ F.entry_list_pop (F.args_list_pop_1 _) (MeetsSeq.list_pop_last l its.toArray n u hy' (by rw[aV];omega)) ⟨e,?_⟩;refine⟨y,_,I.G1 (its':=its.dropLast) hH e ?_ r.dropLast ?_,ru,q⟩
 .show its.toArray.eraseIdxIfInBounds (its.toArray.size-1)=its.dropLast.toArray;rw[aV,List.eraseIdxIfInBounds_toArray,Bj]
 .rw[List.length_dropLast];omega
def G4:V->List V->Hp->VK->Prop:=λx vs H Q=>∃l xs i k y,x=.ref l/\vs=[.int i]/\H l=some (.lst xs) /\ -(2 ^ 63)<=i/\i<2 ^ 63/\seqIndex? i xs.length=some k/\xs[k]?=some y/\Q y (upd H l (.lst (xs.eraseIdx k)))
def G5:Sz X "list.pop" G4:=by
 intro pins s σ H x vs v us Q I rx rv h;obtain⟨l,xs,i,k,y,rfl,rfl,hH,h1,h2,hk,hy,q⟩:=h;cases rx;obtain⟨u,rfl,ru⟩:=rv.one;obtain⟨t,rfl⟩:=ru;obtain⟨z,its,n,r,hl,e⟩:=I.wK hH;obtain⟨w,hw,rw'⟩:=r.get hy;refine call_meets F.slot_list_pop ⟨_,e,rfl⟩ F.entry_list_pop (F.args_list_pop_2 _ _)
  (MeetsSeq.list_pop_at l its.toArray n i t k w (fitsIndex_both h1 h2) (by rw[aV,<- hl];exact hk) (by rw[<- fS];exact hw) (by rw[aV];omega)) ⟨e,?_⟩
 refine⟨y,_,I.G1 (its':=its.eraseIdx k) hH e ?_ (r.eraseIdx k) ?_,rw',q⟩
 .show its.toArray.eraseIdxIfInBounds k=(its.eraseIdx k).toArray;rw[List.eraseIdxIfInBounds_toArray]
 .have:=uW xs k;omega
def G6:V->List V->Hp->VK->Prop:=λx vs H Q=>∃l xs,x=.ref l/\vs=[]/\H l=some (.lst xs)/\Q .cY (upd H l (.lst []))
def G7:Sz X "list.clear" G6:=by intro pins s σ H x vs v us Q I rx rv h;obtain⟨l,xs,rfl,rfl,hH,q⟩:=h;cases rx;have pS:=rv.zero;subst pS;obtain⟨z,its,n,r,hl,e⟩:=I.wK hH;refine call_meets F.slot_list_clear ⟨_,e,rfl⟩ F.entry_list_clear (F.args_list_clear_1 _) (AutoSeq1.list_clear_list_0 l its.toArray n (by rw[aV];omega)) ⟨e,?_⟩;exact⟨.cY,_,I.G1 (its':=[]) (ys:=[]) hH e rfl .nil (aH _),rfl,q⟩
def SE:R2:=λx y H Q=>∃l b xs zs,x=.ref l/\y=.ref b/\H l=some (.lst xs)/\H b=some (.lst zs)/\xs.length+zs.length<=sizeLine/\∀p,H p=none->Q (.ref p) (upd H p (.lst (xs++zs)))
def su:jS X (binaryOp .Add) SE:=by
 intro pins s σ H x y v u Q I rx ry h;obtain⟨l,b,xs,zs,rfl,rfl,hH,hB,hz,q⟩:=h;cases rx;cases ry;obtain⟨z,its,n,r,hl,e⟩:=I.wK hH;obtain⟨z2,its2,n2,r2,hl2,e2⟩:=I.wK hB;refine PySem.P.add_list e e2 ?_ (by rw[aV,aV];omega);have ea:its.toArray++its2.toArray=(its++its2).toArray:=by simp
 rw[ea];exact⟨.ref _,_,I.SA (t':=s.toks) (r.append r2) (by rw[aR];omega),rfl,q _ I.fresh⟩
def SH:R2:=λx y H Q=>∃l k xs,x=.ref l/\y=.int k/\H l=some (.lst xs) /\ -(2 ^ 63)<=k/\k<2 ^ 63/\xs.length*k.toNat<=sizeLine /\
 ∀p,H p=none->Q (.ref p) (upd H p (.lst (List.replicate k.toNat xs).flatten))
def len_rep{α:Type}(xs:List α)(k:Nat):(List.replicate k xs).flatten.length=k*xs.length:=by
 induction k with
 | zero=>simp
 | succ k ih=>rw[rW,List.flatten_cons,aR,ih,Nat.succ_mul,Nat.add_comm]
def Pc:jS X (binaryOp .Mult) SH:=by
 intro pins s σ H x y v u Q I rx ry h;obtain⟨l,k,xs,rfl,rfl,hH,h1,h2,hz,q⟩:=h;cases rx;obtain⟨t,rfl⟩:=ry;obtain⟨z,its,n,r,hl,e⟩:=I.wK hH;have hlen:its.toArray.size*k.toNat<=sizeLine:=by rw[aV,<- hl];exact hz
 have hcap:¬its.toArray.size*k.toNat>(2 ^ 63-1) / 8:=by
  have:(sizeLine:Nat)<=(2 ^ 63-1) / 8:=by decide
  omega
 have hfit:¬(!Builtin.List.listFitsIndex k)=true:=by rw[fitsIndex_both h1 h2];exact jT
 have G2:¬Builtin.List.listTooLong (its.toArray.size*k.toNat)=true:=by rw[yq hlen];exact jT
 have hnew:List.foldl (λx1 x2=>x1++x2) #[] (List.replicate (if its.toArray.isEmpty=true then 0 else k.toNat) its.toArray)=(List.replicate k.toNat its).flatten.toArray:=by
  have f0:∀m:Nat,List.foldl (λx1 x2=>x1++x2) #[] (List.replicate m its.toArray)=(List.replicate m its).flatten.toArray:=λm=>by have:=foldl_rep its m [];rw[List.nil_append] at this;exact this
  rw[f0];cases its with
  | nil=>simp
  | cons a r'=>rw[if_neg (by simp)]
 refine wpAny_binaryOp_repeat_ref (T := "list") (U := "int") (by decide) ⟨_,e,rfl⟩ (λs'=>typeIs_int s' k t) noFill_list_mul F.fills_int_mul F.slot_int_rmul repeat_list F.slot_int_index.lookup
  (call_meets F.slot_int_rmul (typeIs_int s k t) F.entry_int_rmul (F.args_int_rmul_2 _ _) (int___rmul___int_list k t l its.toArray n)
   ⟨e,rfl,⟨_,e,rfl⟩,call_meets F.slot_list_mul ⟨_,e,rfl⟩ F.entry_list_mul (F.args_list_mul_2 _ _) (AutoListH.list___mul___list_int_3 l its.toArray n k t hfit hcap G2) ⟨e,?_⟩⟩)
 rw[hnew];exact⟨.ref _,_,I.SA (t':=s.toks) (r.rep k.toNat) (by rw[len_rep,Nat.mul_comm];exact hz),rfl,q _ I.fresh⟩
end
section
variable {prog:Program}{w:World}{A:Around}{E:Value->Shared->Prop}{s:Shared}
end
section
variable {X:Cx}
end
section
variable {κ:Type} [DecidableEq κ]
def e9(kvs:List (κ×V))(k:κ):Option V:=(kvs.find? λkv=>decide (kv.1=k)).map (·.2)
def putK(kvs:List (κ×V))(k:κ)(v:V):List (κ×V) :=
 if(kvs.any λkv=>decide (kv.1=k))=true then kvs.map (λkv=>if kv.1=k then(kv.1,v) else kv) else kvs++[(k,v)]
def Nj(kvs:List (κ×V))(k:κ):List (κ×V):=kvs.filter λkv=>decide (kv.1≠k)
def fH{p:κ×V}{r:List (κ×V)}{k:κ}(e:p.1=k):e9 (p::r) k=some p.2:=by simp[e9,i6,e]
def fJ{p:κ×V}{r:List (κ×V)}{k:κ}(e:¬p.1=k):e9 (p::r) k=e9 r k:=by simp[e9,i6,e]
theorem jX(k:κ):∀kvs:List (κ×V),(kvs.any λkv=>decide (kv.1=k))=(e9 kvs k).isSome
 | []=>rfl
 | p::r=>by
  rw[jE];by_cases e:p.1=k
  .simp only[fH e,decide_eq_true e,Bool.true_or,Option.isSome_some]
  .rw[fJ e,decide_eq_false e,Bool.false_or];exact jX k r
theorem yr(k j:κ)(y:V):∀kvs:List (κ×V),e9 (kvs.map λkv=>if kv.1=k then(kv.1,y) else kv) j=(e9 kvs j).map λx=>if j=k then y else x
 | []=>rfl
 | p::r=>by
  have ih:=yr k j y r;rw[cj];by_cases h:p.1=k
  .rw[if_pos h];by_cases e:p.1=j
   .rw[fH (p:=(p.1,y)) e,fH e,Option.map_some,if_pos (e.symm.trans h)]
   .rw[fJ (p:=(p.1,y)) e,fJ e,ih]
  .rw[if_neg h];by_cases e:p.1=j
   .rw[fH (p:=p) e,fH e,Option.map_some,if_neg (λz=>h (e.trans z))]
   .rw[fJ (p:=p) e,fJ e,ih]
theorem uX(k j:κ)(y:V):∀kvs:List (κ×V),e9 kvs k=none->e9 (kvs++[(k,y)]) j=if j=k then some y else e9 kvs j
 | [],_=>by
  by_cases e:k=j
  .rw[if_pos e.symm];exact fH (p:=(k,y)) e
  .rw[if_neg (λz=>e z.symm)];exact fJ (p:=(k,y)) e
 | p::r,hn=>by
  rw[List.cons_append];have hk:¬p.1=k:=λz=>by rw[fH z] at hn;cases hn
  rw[fJ hk] at hn;have ih:=uX k j y r hn;by_cases e:p.1=j
  .rw[fH e,fH e,if_neg (λz=>hk (e.trans z))]
  .rw[fJ e,fJ e,ih]
def yt(kvs:List (κ×V))(k j:κ)(y:V):e9 (putK kvs k y) j=if j=k then some y else e9 kvs j:=by
 unfold putK;by_cases a:(kvs.any λkv=>decide (kv.1=k))=true
 .rw[if_pos a,yr];rw[jX] at a;by_cases e:j=k
  .obtain⟨x,hx⟩:=Option.isSome_iff_exists.mp a;rw[if_pos e,e,hx,Option.map_some,if_pos rfl]
  .rw[if_neg e];cases e9 kvs j with
   | none=>rfl
   | some x=>rw[Option.map_some,if_neg e]
 .rw[if_neg a];refine uX k j y kvs ?_;rw[jX] at a;cases q:e9 kvs k with
  | none=>rfl
  | some x=>rw[q] at a;exact(a rfl).elim
def lE(kvs:List (κ×V))(k:κ)(v:V):(putK kvs k v).length<=kvs.length+1:=by
 unfold putK;split
 .rw[av];omega
 .rw[aR,eB,mY];omega
def lz.iX{u:Option Value}(r:lz o u):o.isSome=u.isSome:=by
 cases o with
 | none=>cases u with
  | none=>rfl
  | some _=>exact(show False from r).elim
 | some _=>cases u with
  | none=>exact(show False from r).elim
  | some _=>rfl
theorem lz.getD{u:Option Value}{d:V}{d':Value}(r:lz o u)(rd:RelV d d'):RelV (o.getD d) (u.getD d'):=by
 cases o with
 | none=>cases u with
  | none=>exact rd
  | some _=>exact(show False from r).elim
 | some _=>cases u with
  | none=>exact(show False from r).elim
  | some _=>exact r
def KV.val{kvs:List (κ×V)}{vs:List (κ×Value)}(r:KV kvs vs)(k:κ):lz (e9 kvs k) (valueAt vs k):=by
 unfold KV at r;induction r with
 | nil=>exact gh
 | @cons p q ps qs h t ih =>
  obtain⟨h1,h2⟩:=h;by_cases e:p.1=k
  .have e':q.1=k:=h1.symm.trans e;have b:valueAt (q::qs) k=some q.2:=by simp[valueAt,i6,e']
   rw[fH e,b];exact h2
  .have e':¬q.1=k:=λz=>e (h1.trans z);have b:valueAt (q::qs) k=valueAt qs k:=by simp[valueAt,i6,e']
   rw[fJ e,b];exact ih
theorem KV.any{kvs:List (κ×V)}{vs:List (κ×Value)}(r:KV kvs vs)(k:κ):(kvs.any λkv=>decide (kv.1=k))=vs.any λkv=>decide (kv.1=k):=by
 unfold KV at r;induction r with
 | nil=>rfl
 | cons h t ih=>rw[jE,jE,ih,h.1]
def KV.repl{kvs:List (κ×V)}{vs:List (κ×Value)}(r:KV kvs vs)(k:κ)(ry:RelV y u):
  KV (kvs.map λkv=>if kv.1=k then(kv.1,y) else kv) (vs.map λkv=>if kv.1=k then(kv.1,u) else kv):=by
 unfold KV at r ⊢;induction r with
 | nil=>exact .nil
 | @cons p q ps qs h t ih =>
  rw[cj,cj];refine .cons ?_ ih;obtain⟨h1,h2⟩:=h;by_cases e:p.1=k
  .rw[if_pos e,if_pos (h1.symm.trans e)];exact⟨h1,ry⟩
  .rw[if_neg e,if_neg (λz=>e (h1.trans z))];exact⟨h1,h2⟩
def KV.put{kvs:List (κ×V)}{vs:List (κ×Value)}(r:KV kvs vs)(k:κ)(ry:RelV y u):KV (putK kvs k y) (stored vs k u):=by
 unfold putK stored;rw[r.any k];by_cases e:(vs.any λkv=>decide (kv.1=k))=true
 .rw[if_pos e,if_pos e];exact r.repl k ry
 .rw[if_neg e,if_neg e];exact cH r ⟨rfl,ry⟩
def KV.drop{kvs:List (κ×V)}{vs:List (κ×Value)}(r:KV kvs vs)(k:κ):KV (Nj kvs k) (without vs k):=by
 unfold KV at r ⊢;unfold Nj without;induction r with
 | nil=>exact .nil
 | @cons p q ps qs h t ih =>
  obtain⟨h1,h2⟩:=h;rw[List.filter_cons,List.filter_cons];by_cases e:p.1=k
  .have a:¬decide (p.1≠k)=true:=by simp[e]
   have b:¬decide (q.1≠k)=true:=by simp[h1.symm.trans e]
   rw[if_neg a,if_neg b];exact ih
  .have e':¬q.1=k:=λz=>e (h1.trans z);have a:decide (p.1≠k)=true:=by simp[e]
   have b:decide (q.1≠k)=true:=by simp[e']
   rw[if_pos a,if_pos b];exact .cons ⟨h1,h2⟩ ih
def KV.keys{kvs:List (κ×V)}{vs:List (κ×Value)}(r:KV kvs vs):kvs.map (·.1)=vs.map (·.1):=by
 unfold KV at r;induction r with
 | nil=>rfl
 | cons h t ih=>rw[cj,cj,ih,h.1]
theorem KV.length{kvs:List (κ×V)}{vs:List (κ×Value)}(r:KV kvs vs):kvs.length=vs.length:=g9 r
end
def nN{k:Key}(r:RelV (kV k) u):(bK P w).is k u=true:=by
 cases k with
 | inl i=>obtain⟨t,e⟩:=(show ∃t,u=Value.int i t from r);subst e;exact yh P w i t
 | inr x=>obtain⟨t,e⟩:=(show ∃t,u=Value.str x t from r);subst e;exact ly P w x t
theorem uY{P:Program}{w:World}:∀{ks:List Key}{us:List Value},Vals (ks.map kV) us->ItemsAre (bK P w) ks us
 | [],_,r=>by rw[List.map_nil] at r;cases r;exact .nil
 | k::ks,_,r=>by
  rw[cj] at r;cases r with
  | cons h t=>exact .cons (nN h) (uY t)
abbrev KT(H:Hp):List (List Key×V)->List (List Key×Addr×Value)->Prop:=Paired λp q=>p.1=q.1/\H q.2.1=some (.tup (p.1.map kV))/\RelV p.2 q.2.2
def KT.val{xs:List (List Key×Addr×Value)}(r:KT H kvs xs)(k:List Key):lz (e9 kvs k) ((atKey xs k).map (·.2)):=by
 induction r with
 | nil=>exact gh
 | @cons p q ps qs h t ih =>
  obtain⟨h1,_,h2⟩:=h;by_cases e:p.1=k
  .have e':q.1=k:=h1.symm.trans e;have b:atKey (q::qs) k=some q.2:=by simp[atKey,i6,e']
   rw[fH e,b];exact h2
  .have e':¬q.1=k:=λz=>e (h1.trans z);have b:atKey (q::qs) k=atKey qs k:=by simp[atKey,i6,e']
   rw[fJ e,b];exact ih
def KT.repl{xs:List (List Key×Addr×Value)}(r:KT H kvs xs)(k:List Key)(ry:RelV y u):
  KT H (kvs.map λkv=>if kv.1=k then(kv.1,y) else kv) (xs.map (putAt k u)):=by
 induction r with
 | nil=>exact .nil
 | @cons p q ps qs h t ih =>
  rw[cj,cj];refine .cons ?_ ih;obtain⟨h1,h2,h3⟩:=h;unfold putAt;by_cases e:p.1=k
  .rw[if_pos e,if_pos (h1.symm.trans e)];exact⟨h1,h2,ry⟩
  .rw[if_neg e,if_neg (λz=>e (h1.trans z))];exact⟨h1,h2,h3⟩
def KT.put{xs:List (List Key×Addr×Value)}(r:KT H kvs xs)(k:List Key)(hb:H b=some (.tup (k.map kV)))(ry:RelV y u):
  KT H (putK kvs k y) (storedH xs k b u):=by
 have e:(kvs.any λkv=>decide (kv.1=k))=(atKey xs k).isSome:=by rw[jX,(r.val k).iX,Option.isSome_map]
 unfold putK storedH;rw[e];by_cases q:(atKey xs k).isSome=true
 .rw[if_pos q,if_pos q];exact r.repl k ry
 .rw[if_neg q,if_neg q];exact cH r ⟨rfl,hb,ry⟩
def KT.keeps{xs:List (List Key×Addr×Value)}(r:KT H kvs xs)(ht:∀b ys,H b=some (.tup ys)->H' b=some (.tup ys)):KT H' kvs xs :=
 Paired.Ez r λ_ _ z=>⟨z.1,ht _ _ z.2.1,z.2.2⟩
section
variable {P:Program}{w:World}{H:Hp}{h:Heap}{a:Addr}
def Nk{u:HO}(ok:ng P w H h)(e:Rd H a u):cZ P w H h a u:=e.ok ok
def sy{kvs:List (Key×V)}(ok:ng P w H h)(e:Rd H a (.dK kvs)):kvs.length<=sizeLine/\(a==sysModules)=false/\∃vs,KV kvs vs/\h.DictOf (bK P w) a vs :=
 show cZ P w H h a (.dK kvs) from Nk ok e
def SI{kvs:List (Key×V)}(ok:ng P w H h)(e:H a=some (.dK kvs)):kvs.length<=sizeLine/\(a==sysModules)=false/\∃vs,KV kvs vs/\h.DictOf (bK P w) a vs:=sy ok (.inl e)
def pT{ks:List Key}(ok:ng P w H h)(e:H a=some (.tup (ks.map kV))):(tupleKind (bK P w)).is h ks a:=by obtain⟨_,its,r,o,h1,h2,n,h3⟩:=(show cZ P w H h a (.tup (ks.map kV)) from ok a _ e);exact⟨o,its.toArray,n,h1,h2,h3,by simpa using uY r⟩
def sA(ok:ng P w H h)(e:Rd H a (.dT kvs)):kvs.length<=sizeLine/\(a==sysModules)=false /\
  ∃xs,KT H kvs xs/\h.DictOfH (tupleKind (bK P w)) a xs:=by
 obtain⟨z,y,xs,r,o,es,ep,h1,h2,h3,h4,h5⟩:=(show cZ P w H h a (.dT kvs) from Nk ok e);refine⟨z,y,xs,r,o,es,ep,h1,h2,h3,h4,λx hx=>?_,h5⟩;have all:∀{l:List (List Key×V)}{m:List (List Key×Addr×Value)},KT H l m->∀x∈m,(tupleKind (bK P w)).is h x.1 x.2.1:=by
  intro l m q;induction q with
  | nil=>intro x hx;exact nomatch hx
  | @cons p q ps qs hq t ih =>
   intro x hx;rcases aI.mp hx with e|hx
   .subst e;exact pT ok (by rw[<- hq.1];exact hq.2.1)
   .exact ih x hx
 exact all r x hx
def SJ(ok:ng P w H h)(e:H a=some (.dT kvs)):kvs.length<=sizeLine/\(a==sysModules)=false /\
  ∃xs,KT H kvs xs/\h.DictOfH (tupleKind (bK P w)) a xs:=sA ok (.inl e)
end
def kW(H:Hp)(a:Addr)(y:V)(r:Option V):Prop :=
 (∃kvs k,Rd H a (.dK kvs)/\y=kV k/\r=e9 kvs k)\/∃kvs k b,Rd H a (.dT kvs)/\y=.ref b/\H b=some (.tup (k.map kV))/\r=e9 kvs k
def yv(H:Hp)(a:Addr)(y v:V)(H':Hp):Prop :=
 (∃kvs k,H a=some (.dK kvs)/\y=kV k/\kvs.length<sizeLine/\H'=upd H a (.dK (putK kvs k v))) \/
 ∃kvs k b,H a=some (.dT kvs)/\y=.ref b/\H b=some (.tup (k.map kV))/\kvs.length<sizeLine/\H'=upd H a (.dT (putK kvs k v))
theorem kW.k{H:Hp}{a:Addr}{kvs:List (Key×V)}{k:Key}(e:H a=some (.dK kvs)):kW H a (kV k) (e9 kvs k):=.inl ⟨kvs,k,.inl e,rfl,rfl⟩
def kW.t{k:List Key}(e:H a=some (.dT kvs))(eb:H b=some (.tup (k.map kV))):kW H a (.ref b) (e9 kvs k):=.inr ⟨kvs,k,b,.inl e,rfl,eb,rfl⟩
theorem yv.k{H:Hp}{a:Addr}{kvs:List (Key×V)}{k:Key}{v:V}(e:H a=some (.dK kvs))(hl:kvs.length<sizeLine):yv H a (kV k) v (upd H a (.dK (putK kvs k v))):=.inl ⟨kvs,k,e,rfl,hl,rfl⟩
def yv.t{k:List Key}{v:V}(e:H a=some (.dT kvs))(eb:H b=some (.tup (k.map kV)))(hl:kvs.length<sizeLine):
  yv H a (.ref b) v (upd H a (.dT (putK kvs k v))):=.inr ⟨kvs,k,b,e,rfl,eb,hl,rfl⟩
section
variable {X:Cx}{pins:List (Addr×Obj)}{σ:St}{H:Hp}{s:Shared}{a:Addr}{y v:V}{u r:Value}{o:Option V}{A:Around}{E:Value->Shared->Prop}
def Inv.big(I:Inv X pins σ H s):sysModules<s.heap.objs.size:=by have h:mainGlobals<s.heap.objs.size:=(I.mod.glob.keeps I.bk).lt;exact Nat.lt_trans (by decide) h
def ER(hu:A.units+1<cLine)(I:Inv X pins σ H s)(g:kW H a y (some v))(ry:RelV y u)(h:∀w' s',Inv X pins σ H s'->RelV v w'->Q w' s'):
  wpAny (model X.prog X.w) A (getItem (.ref a) u) Q E s:=by
 rcases g with⟨kvs,k,e,ey,l⟩|⟨kvs,k,b,e,ey,eb,l⟩
 .subst ey;obtain⟨z,hd,vs,rel,dd⟩:=sy I.hok e;obtain⟨w',hw,rw'⟩:=lz.some_of (v:=v) (o:=valueAt vs k) (by rw[l];exact rel.val k);exact wpAny_getItem_of (nN ry) dd.mapOf hw (h w' _ (I.tok _) rw')
 .subst ey;cases(show u=Value.ref b from ry);obtain⟨z,hd,xs,rel,dd⟩:=sA I.hok e;obtain⟨w',hw,rw'⟩:=lz.some_of (v:=v) (o:=(atKey xs k).map (·.2)) (by rw[l];exact rel.val k);obtain⟨p,hp,hp2⟩:=di.mp hw;refine wpAny_getItem_heap (tupleKind_room_in1 hu) (pT I.hok eb) dd hp ?_;rw[hp2];exact h w' _ (I.tok _) rw'
def WT(hu:A.units+1<cLine)(I:Inv X pins σ H s)(g:kW H a y o)(ry:RelV y u)(h:∀s',Inv X pins σ H s'->Q (.bool o.isSome) s'):
  wpAny (model X.prog X.w) A (compareOp .In u (.ref a)) Q E s:=by
 rcases g with⟨kvs,k,e,ey,l⟩|⟨kvs,k,b,e,ey,eb,l⟩
 .subst ey;obtain⟨z,hd,vs,rel,dd⟩:=sy I.hok e;refine wpAny_in_of (nN ry) hd dd.mapOf ?_;rw[<- (rel.val k).iX,<- l];exact h _ (I.tok _)
 .subst ey;cases(show u=Value.ref b from ry);obtain⟨z,hd,xs,rel,dd⟩:=sA I.hok e;refine wpAny_in_heap (tupleKind_room_in1 hu) (pT I.hok eb) hd dd ?_;have q:=(rel.val k).iX;rw[Option.isSome_map] at q;rw[<- q,<- l];exact h _ (I.tok _)
def Lh(hu:A.units+1<cLine)(I:Inv X pins σ H s)(g:kW H a y o)(ry:RelV y u)(h:∀s',Inv X pins σ H s'->Q (.bool (!o.isSome)) s'):
  wpAny (model X.prog X.w) A (compareOp .NotIn u (.ref a)) Q E s:=by
 rcases g with⟨kvs,k,e,ey,l⟩|⟨kvs,k,b,e,ey,eb,l⟩
 .subst ey;obtain⟨z,hd,vs,rel,dd⟩:=sy I.hok e;refine wpAny_notIn_of (nN ry) hd dd.mapOf ?_;rw[<- (rel.val k).iX,<- l];exact h _ (I.tok _)
 .subst ey;cases(show u=Value.ref b from ry);obtain⟨z,hd,xs,rel,dd⟩:=sA I.hok e;refine wpAny_notIn_heap (tupleKind_room_in1 hu) (pT I.hok eb) hd dd ?_;have q:=(rel.val k).iX;rw[Option.isSome_map] at q;rw[<- q,<- l];exact h _ (I.tok _)
def wL{h':Heap}{ob:HO}(I:Inv X pins σ H s)(mu:RS (H a))(hs:Heap.SameBut a s.heap h')(he:∃q,h'.get? a=some q)(new:cZ X.prog X.w (upd H a ob) h' a ob):
  Inv X pins σ (upd H a ob) { s with heap:=h',toks:=t' } :=
 I.write (x:=a) (e:=a) mu (.inl rfl) (λb q hb z=>(hs.2 b hb).trans z) he new
def Pd{h':Heap}{kvs:List (Key×V)}{vs:List (Key×Value)}(z:kvs.length<=sizeLine)(hd:(a==sysModules)=false)(rel:KV kvs vs)(dd:h'.DictOf (bK P w) a vs):
  cZ P w H' h' a (.dK kvs):=⟨z,hd,vs,rel,dd⟩
def ES{Q:Unit->Shared->Prop}(hu:A.units+1<cLine)(I:Inv X pins σ H s)(g:yv H a y v H')(ry:RelV y u)(rv:RelV v r)(h:∀s',Inv X pins σ H' s'->Q () s'):
  wpAny (model X.prog X.w) A (setItem (.ref a) u r) Q E s:=by
 rcases g with⟨kvs,k,e,ey,l,eH⟩|⟨kvs,k,b,e,ey,eb,l,eH⟩
 .subst ey eH;obtain⟨z,hd,vs,rel,dd⟩:=SI I.hok e;have hz:vs.length<=sizeLine:=by rw[<- rel.length];exact z
  have hl:(putK kvs k v).length<=sizeLine:=by have:=lE kvs k v;omega
  refine wpAny_setItem_pairs (hsz:=hz) (nN ry) dd λh' Rw hs=>h _ ?_;have he:∃q,h'.get? a=some q:=let⟨q,_,_,hq,_⟩:=Rw;⟨q,hq⟩;exact wL I (by rw[e];exact gh) hs he (Pd hl hd (rel.put k rv) Rw)
 .subst ey eH;cases(show u=Value.ref b from ry);obtain⟨z,hd,xs,rel,dd⟩:=SJ I.hok e;have hz:xs.length<=sizeLine:=by rw[<- g9 rel];exact z
  have hl:(putK kvs k v).length<=sizeLine:=by have:=lE kvs k v;omega
  refine wpAny_setItem_heap (hsz:=hz) (tupleKind_room_in1 hu) (pT I.hok eb) dd λh' Rw hs=>h _ ?_;obtain⟨q,es,ep,hq,h2,h3,h4,_,h5⟩:=Rw;refine wL I (by rw[e];exact gh) hs ⟨q,hq⟩ ⟨hl,hd,_,(rel.put k eb rv).keeps λc ys ec=>?_,q,es,ep,hq,h2,h3,h4,h5⟩;rw[ck (uQ ec e (λz=>nomatch z))];exact ec
end
section
variable {X:Cx}{pins:List (Addr×Obj)}{σ:St}{H:Hp}{s:Shared}{a:Addr}{kvs:List (Key×V)}{k:Key}{u:Value}{A:Around}{E:Value->Shared->Prop}
end
def G8(i:Expr):Prop:=∀ov iv,subscripted i false ov iv=operate [ov,iv] (getItem ov iv)
def wM{prog:Program}{A:Around}{E:Value->Shared->Prop}{env:Env}{value slice:Expr}{pos:Pos}{T id:String}
  (hl:typeLookup (.type T) "__getitem__" = pure (some (.builtin id)))(hs:G8 slice)
  (h:wpAny (model prog w) A (eval value env) (λo s₁=>wpAny (model prog w) A (eval slice env) (λi s₂=>s₂.TypeIs o T/\wpAny (model prog w) A (getItem o i) Q E s₂) E s₁) E s):
  wpAny (model prog w) A (eval (.Subscript value slice pos) env) Q E s:=by
 refine Subscript_ (wpAny_mono h (λo s₁ h₁=>wpAny_mono h₁ (λi s₂ h₂=>?_) λ_ _ x=>x) λ_ _ x=>x);obtain⟨hT,h₂⟩:=h₂;unfold subscriptTail;refine aq ?_;rw[getitemInPython_of_ne hT.not_modules];refine aq (wpAny_specialOf hT hl ?_);have fin:wpAny (model prog w) A (subscripted slice false o i) (λr s₃=>wpAny (model prog w) A (letTemporaryGo value o r >>= λ_=>pure r) Q E s₃) E s₂:=by rw[hs o i];exact wpAny_operating (wpAny_mono h₂ (λr s₃ h₃=>aq (wpAny_letTemporaryGo (aL h₃))) λ_ _ x=>x)
 first
  | exact aL (aq fin)
  | exact aq (aL (aq fin))
  | exact aq fin
def yw{X:Cx}{σ:St}(I:Inv X pins σ H s)(g:kW H a y o):s.TypeIs (.ref a) "dict" := by
 rcases g with⟨kvs,k,e,_,_⟩|⟨kvs,k,b,e,_,_,_⟩
 .obtain⟨_,_,vs,_,dd⟩:=sy I.hok e;exact dd.typeIs
 .obtain⟨_,_,xs,_,dd⟩:=sA I.hok e;exact dd.typeIs
def Nl(td ty:TE):TE:=λσ H Q=>td σ H λx H1=>ty σ H1 λy H2=>∃a v,x=.ref a/\kW H2 a y (some v)/\Q v H2
def SK(ty td:TE):TE:=λσ H Q=>ty σ H λy H1=>td σ H1 λx H2=>∃a o,x=.ref a/\kW H2 a y o/\Q (.bl o.isSome) H2
def CQ(ty td:TE):TE:=λσ H Q=>ty σ H λy H1=>td σ H1 λx H2=>∃a o,x=.ref a/\kW H2 a y o/\Q (.bl (!o.isSome)) H2
def Nm(td ty tv:TE):TS:=λD σ H=>tv σ H λv H1=>td σ H1 λx H2=>ty σ H2 λy H3=>∃a H4,x=.ref a/\yv H3 a y v H4/\D.nx σ H4
section
variable {X:Cx}{o i e value:Expr}{pos pos' tpos:Pos}{td ty tv:TE}
def Li(hu:X.A.units+1<cLine)(ho:PE X o td)(hi:PE X i ty)(hs:G8 i):PE X (.Subscript o i pos) (Nl td ty):=by intro pins s σ H Q I h;refine wM PySem.F.slot_dict_getitem.lookup hs (cT (ho pins s σ H _ I h) λu s1 zq=>?_);obtain⟨x,H1,I1,rx,q1⟩:=zq;refine cT (hi pins s1 σ H1 _ I1 q1) λiv s2 zq=>?_;obtain⟨y,H2,I2,ry,a,v,ex,g,q2⟩:=zq;subst ex;obtain rfl:u=Value.ref a:=rx;exact⟨yw I2 g,ER hu I2 g ry λw' s3 I3 rw'=>⟨v,H2,I3,rw',q2⟩⟩
def G9(hu:X.A.units+1<cLine)(hi:PE X i ty)(ho:PE X o td):PC X .In i o (SK ty td):=by intro pins s σ H Q I h;refine cT (hi pins s σ H _ I h) λiv s1 zq=>?_;obtain⟨y,H1,I1,ry,q1⟩:=zq;refine cT (ho pins s1 σ H1 _ I1 q1) λu s2 zq=>?_;obtain⟨x,H2,I2,rx,a,ov,ex,g,q2⟩:=zq;subst ex;obtain rfl:u=Value.ref a:=rx;exact WT hu I2 g ry λs3 I3=>⟨.bl ov.isSome,H2,I3,rfl,q2⟩
def ET(hu:X.A.units+1<cLine)(hi:PE X i ty)(ho:PE X o td):PC X .NotIn i o (CQ ty td):=by intro pins s σ H Q I h;refine cT (hi pins s σ H _ I h) λiv s1 zq=>?_;obtain⟨y,H1,I1,ry,q1⟩:=zq;refine cT (ho pins s1 σ H1 _ I1 q1) λu s2 zq=>?_;obtain⟨x,H2,I2,rx,a,ov,ex,g,q2⟩:=zq;subst ex;obtain rfl:u=Value.ref a:=rx;exact Lh hu I2 g ry λs3 I3=>⟨.bl (!ov.isSome),H2,I3,rfl,q2⟩
def CS(hu:X.A.units+1<cLine)(ho:PE X o td)(hi:PE X i ty)(hv:PE X value tv)(hs:swapsWith value (some (.Subscript o i pos')) pos.line X.env=pure false):
  PS X (.Assign [.Subscript o i pos'] value pos) (Nm td ty tv):=by intro pins s σ H D I h;refine wpAny_Assign_Subscript (cT (hv pins s σ H _ I h) λr s1 zq=>?_) hs;obtain⟨v,H1,I1,rv,q1⟩:=zq;refine cT (ho pins s1 σ H1 _ I1 q1) λu s2 zq=>?_;obtain⟨x,H2,I2,rx,q2⟩:=zq;refine cT (hi pins s2 σ H2 _ I2 q2) λiv s3 zq=>?_;obtain⟨y,H3,I3,ry,a,H4,ex,g,q3⟩:=zq;subst ex;obtain rfl:u=Value.ref a:=rx;exact ES hu I3 g ry rv λs4 I4=>⟨σ,H4,I4,q3⟩
end
def Hf(h:Heap)(hb:sysModules<h.objs.size):cZ P w H (h.push { cls:=.type "dict", data:=.dict #[] }) h.objs.size (.dK []) :=
 ⟨aH _,beq_eq_false_iff_ne.mpr (bA (aQ hb)),[],.nil,Heap.DictOf.new h⟩
def Hg(h:Heap)(hb:sysModules<h.objs.size):cZ P w H (h.push { cls:=.type "dict", data:=.dict #[] }) h.objs.size (.dT []) :=
 ⟨aH _,beq_eq_false_iff_ne.mpr (bA (aQ hb)),[],.nil,_,#[],0,iE _ rfl,⟨rfl,rfl,rfl⟩,rfl,rfl,kg⟩
def Hh:TE:=λ_ H Q=>∀p,H p=none->Q (.ref p) (upd H p (.dK []))
def Hi:TE:=λ_ H Q=>∀p,H p=none->Q (.ref p) (upd H p (.dT []))
section
variable {X:Cx}{pos:Pos}
def Hj:PE X (.Dict [] [] pos) Hh:=λpins s σ H Q I h =>
 wpAny_Dict_empty ⟨.ref s.heap.objs.size,_,I.laid (a:=s.heap.objs.size) (o:=.dK []) (t':=s.toks) (λ_ _ q=>c9 _ q) (az _) (Hf s.heap I.big),rfl,h _ (I.hok.fresh (az _))⟩
def Hl:PE X (.Dict [] [] pos) Hi:=λpins s σ H Q I h =>
 wpAny_Dict_empty ⟨.ref s.heap.objs.size,_,I.laid (a:=s.heap.objs.size) (o:=.dT []) (t':=s.toks) (λ_ _ q=>c9 _ q) (az _) (Hg s.heap I.big),rfl,h _ (I.hok.fresh (az _))⟩
end
structure M2 (X:Cx) (o:Expr) (m:Str) (apos:Pos) (e f:Expr) (cpos:Pos):Prop where
 base:attributeBase o m X.env (eval o X.env)=eval o X.env
 few:((backTo cpos (starEach [e,f] X.env)).all (λx=>!x.1)&&(backToKw cpos (keywordEach [] X.env)).all (λx=>x.1.isSome)
  && decide (([e,f]:List Expr).length+([]:List Keyword).length+(if([]:List Keyword).isEmpty then 0 else 1)<30))=true
 line:(apos.endLine==cpos.line)=true
 trees:backTo cpos (starEach [e,f] X.env)=[(false,eval e X.env),(false,eval f X.env)]
def WU(H:Hp)(a:Addr):Prop:=(∃kvs,Rd H a (.dK kvs))\/∃kvs,Rd H a (.dT kvs)
def Pe{X:Cx}{σ:St}(I:Inv X pins σ H s)(d:WU H a):
  s.TypeIs (.ref a) "dict" /\ (∀b,Value.ref a=.ref b->∃ob,s.heap.get? b=some ob/\ob.dict=none)/\(a==sysModules)=false:=by
 rcases d with⟨kvs,e⟩|⟨kvs,e⟩
 .obtain⟨_,hd,vs,_,dd⟩:=sy I.hok e;refine⟨dd.typeIs,λb q=>?_,hd⟩;cases q;obtain⟨ob,_,_,h1,h2,_⟩:=dd;exact⟨ob,h1,h2.2.1⟩
 .obtain⟨_,hd,xs,_,dd⟩:=sA I.hok e;refine⟨dd.typeIs,λb q=>?_,hd⟩;cases q;obtain⟨ob,_,_,h1,h2,_⟩:=dd;exact⟨ob,h1,h2.2.1⟩
section
variable {X:Cx}{pins:List (Addr×Obj)}{σ:St}{H:Hp}{s:Shared}{a:Addr}{y d:V}{u r:Value}{o:Option V}{A:Around}{E:Value->Shared->Prop}
def Pf(hu:A.units+1<cLine)(I:Inv X pins σ H s)(g:kW H a y o)(ry:RelV y u)(rd:RelV d r)(h:∀w' s',Inv X pins σ H s'->RelV (o.getD d) w'->Q w' s'):
  wpAny (model X.prog X.w) A (call (.builtin "dict.get") [.ref a,u,r]) Q E s:=by
 rcases g with⟨kvs,k,e,ey,l⟩|⟨kvs,k,b,e,ey,eb,l⟩
 .subst ey;obtain⟨z,hd,vs,rel,dd⟩:=sy I.hok e;refine call_meetsIn PySem.F.slot_dict_get dd.typeIs PySem.F.entry_dict_get (PySem.F.args_dict_get_3 _ _ _) (meets_dict_get_default (bK X.prog X.w) a (nN ry) hd r) ⟨_,dd.mapOf,h _ _ (I.tok _) ?_⟩;rw[l];exact(rel.val k).getD rd
 .subst ey;cases(show u=Value.ref b from ry);obtain⟨z,hd,xs,rel,dd⟩:=sA I.hok e;refine call_meetsIn PySem.F.slot_dict_get dd.typeIs PySem.F.entry_dict_get (PySem.F.args_dict_get_3 _ _ _) (meetsH_dict_get_default (tupleKind (bK X.prog X.w)) a b hd r) ⟨tupleKind_room_in1 hu,k,xs,pT I.hok eb,dd,h _ _ (I.tok _) ?_⟩;rw[l];exact(rel.val k).getD rd
end
def Ho(td ty tx:TE):TE:=λσ H Q=>td σ H λx H1=>∃a,x=.ref a/\WU H1 a/\ty σ H1 λy H2=>tx σ H2 λz H3=>∃o,kW H3 a y o/\Q (o.getD z) H3
section
variable {X:Cx}{o e f:Expr}{apos cpos:Pos}{td ty tx:TE}
def Hq(hu:X.A.units+1<cLine)(ho:PE X o td)(he:PE X e ty)(hf:PE X f tx)(m:M2 X o "get" apos e f cpos):PE X (.Call (.Attribute o "get" apos) [e,f] [] cpos) (Ho td ty tx):=by
 intro pins s σ H Q I h;refine wpAny_Call_method m.base m.few m.line PySem.F.plainAttrs_dict PySem.F.slot_dict_get PySem.F.type_dict_get (cT (ho pins s σ H _ I h) λu s1 zq=>?_);obtain⟨x,H1,I1,rx,a,ex,d,q1⟩:=zq;subst ex;obtain rfl:u=Value.ref a:=rx;obtain⟨t1,t2,_⟩:=Pe I1 d;refine⟨t1,t2,?_⟩;rw[m.trees];refine we rfl (Calls.evalArgs_plain (Calls.spliced_cons (cT (he pins s1 σ H1 _ I1 q1) λiv s2 ⟨y,H2,I2,ry,q2⟩ =>
  Calls.spliced_cons (cT (hf pins s2 σ H2 _ I2 q2) λfv s3 ⟨z,H3,I3,rz,ov,g,q3⟩=>Calls.spliced_nil ?_))))
 exact Pf hu I3 g ry rz λw' s4 I4 rw'=>⟨_,H3,I4,rw',q3⟩
end
section
variable {X:Cx}{pins:List (Addr×Obj)}{σ:St}{H:Hp}{s:Shared}{a:Addr}{kvs:List (Key×V)}{A:Around}{E:Value->Shared->Prop}
end
section
variable {X:Cx}{pins:List (Addr×Obj)}{σ:St}{H:Hp}{s:Shared}{a:Addr}{y:V}{u:Value}{A:Around}{E:Value->Shared->Prop}
end
end L2
namespace Att
open PySem PySem.W PySem.Calls PyProof.Rows
def qE{P:Params}{h:Heap}:∀(ns:List Int)(vs:List Value),WellAll P h vs (ns.map WData.int)->IntsAre vs ns:=by
 intro ns;induction ns with
 | nil =>
  intro vs w;rw[List.map_nil] at w;cases w;exact .nil
 | cons n ns ih =>
  intro vs w;rw[cj] at w;cases w with
  | cons a b =>
   cases a;exact .cons _ _ (ih _ b)
def EU{l:OpenLaw}{n:Nat}(hn:l.most=some n){P:Params}{h:Heap}{args:List WData}{vals:List Value}
  (hpre:l.row.toRowW.claim.pre args=true)(hwl:WellAll P h vals args):
  ∃a vs ns,vals=[Value.ref a]/\args=[WData.list (ns.map WData.int)]/\h.get? a=some { cls:=.type "list", data:=.seq vs.toArray }/\IntsAre vs ns/\ns.length<=n:=by
 have hsh:WShape.hasAll [] args [.list .int]=true:=(pre_splitW hpre).1;have hc:l.pre.holds [] { args:=args }=true:=(pre_splitW hpre).2;obtain⟨d,r,rfl,h1,h2⟩:=hasAllW_cons hsh;obtain rfl:=hasAllW_nil h2;obtain⟨xs,rfl,h3⟩:=hasW_list h1;obtain⟨ns,rfl⟩:=items_int h3;have hlen:ns.length<=n:=by
  unfold OpenLaw.pre at hc;have h4:(WTm.not (.lt (.lit (.int (n:Int))) (.len (.arg 0)))).holds [] { args:=[.list (ns.map .int)] }=true:=by have h4:=(holds_andW hc).1;rw[hn] at h4;exact h4
  have h5:=condW_of h4 (w_not (w_lt w_lit (w_len_list (w_arg rfl))));rw[av] at h5;refine Nat.le_of_not_lt λq=>?_;have q':(n:Int)<((ns.length:Nat):Int):=by omega
  first
   | (rw[decide_eq_true q'] at h5;exact absurd h5 (by decide))
   | (simp at h5;omega)
 cases hwl with
 | cons w1 w2 =>
  cases w2;cases w1 with
  | list ho hall=>exact⟨_,_,ns,rfl,rfl,ho,qE ns _ hall,hlen⟩
def EV(l:OpenLaw)(args:List WData):l.row.toRowW.claim.post args (.bool true) args=true :=
 postW_of (r:=l.row.toRowW) (X:=(true==true))
  (show WShape.has [] (.bool true) .bool=true by first|rfl|decide|simp[WShape.has,WShape.arms,WShape.armsAll])
  (show(WTm.eq .res (.lit (.bool true))).value [] { args:=args,res:=some (.bool true),after:=args }=some (.bool (true==true)) from w_eq_bool (w_res rfl) w_lit) rfl
def yx{l:OpenLaw}{n:Nat}{q:Program}{loose:List Str}{XP:(Str->Option Value)->Heap->Prop}{YP:World->Heap->Prop}{d:DefRec}
  (hn:l.most=some n)(hdf:d.params.defaults=[])
  (call:∀(w:World)(s₀ s₁:Shared)(mg mb:Str->Option Value)(fa:Addr)(o:Obj)(pm cd doc:Value)(a:Addr)(vs:List Value)(ns:List Int),
   Ground q loose [] XP w s₀ mg mb s₁.heap->YP w s₁.heap ->
   s₁.heap.get? fa=some o->o.data=.func (docDef d.name d.params d.body d.scope pm cd doc)->s₁.heap.CodeRec cd d.name->mg d.name=some (.ref fa) ->
   s₁.heap.get? a=some { cls:=.type "list", data:=.seq vs.toArray }->IntsAre vs ns->ns.length<=n->s₁.gens=#[] ->
   codeAny (model l.prog w) callerA (.call (.ref fa) ⟨[.ref a],[]⟩) (λr s'=>r=.ok (.ret (.bool true))/\OldK s₁.heap s'.heap/\s'.os=s₁.os/\AllBare s'.gens) s₁):
  WalkO q loose XP YP l.row.toRowW d [] (λf vs=>PySem.call f vs):=by intro w s₀ s₁ mg mb G Y fa o pm cd doc dV kV ho hd hcd hD hmg hg args vals as hpre hlay hrd hwl hlo;obtain rfl:dV=.none:=Dflts.none hD hdf;obtain rfl:kV=.none:=Dflts.noKw hD;obtain⟨a,vs,ns,rfl,rfl,hobj,hints,hlen⟩:=EU hn hpre hwl;refine enter_call (codeAny_mono (call w s₀ s₁ mg mb fa o pm cd doc a vs ns G Y ho (fd_plain hd) hcd hmg hobj hints hlen hg) λr s' hq=>?_);obtain⟨rfl,h2,h3,h4⟩:=hq;exact⟨.inl ⟨.bool true,.bool true,[],rfl,λ_=>rfl,.bool true,EV l _,λ_=>⟨List.Pairwise.nil,λ_ hm=>(nomatch hm)⟩⟩,h2,h3,h4⟩
section
variable {prog:Program}{w:World}{A:Around}{E:Value->Shared->Prop}{s:Shared}{K:Frag}
end
end Att
namespace L2
open PySem PySem.Spec PyProof.Rows
variable {k:Nat}{fd:FuncData}{x qual:Str}{st:Stmt}{f:Addr}{H:Hp}
theorem uZ:∀{vs:List Value}{ns:List Int},IntsAre vs ns->Vals (ns.map V.int) vs
 | _,_,.nil=>.nil
 | _,_,.cons n t h=>.cons ⟨t,rfl⟩ (uZ h)
def Pg(H:Hp):Prop:=∀b,H b=none\/∃o xs,H b=some (.CB o (.lst xs))
def Hr{P:Program}{w:World}{K:aD}{mg mb:Str->Option Value}{CX:EM}{fa a:Addr}{sp:Sp}{s₁:Shared}{vs:List Value}{ns:List Int}
  (KX:K.In s₁.heap)(hns:s₁.heap.Ns mainGlobals mg)(hb:s₁.heap.Ns builtinsNs mb)(hbb:∀x:Str,x ≠ "__name__" -> mb x=bootBuiltins x)(hlim:s₁.heap.NoLimit)(hg:s₁.gens=#[])
  (ha:s₁.heap.get? a=some { cls:=.type "list", data:=.seq vs.toArray })(hi:IntsAre vs ns)(hl:ns.length<=sizeLine)(hr:jd k callerA)
  (F:∀base:Heap,K.In base->base.Ns mainGlobals mg->b7 P w K mg base CX k fa fd [x] sp)(hbind:∀(s:Shared)(u:Value),BindsTo s fd ⟨[u],[]⟩ [(x,u)])
  (KJ:∀H:Hp,Pg H->bE K H a (ns.map V.int)->sp [.ref a] H (λv _=>v=.bl true) λ_ _ _=>False)
  (WV:∀H e s',CX [] H s₁ (λ_ _ _=>False) e s'->False):
  codeAny (model P w) callerA (.call (.ref fa) ⟨[.ref a],[]⟩) (λr s'=>r=.ok (.ret (.bool true))/\OldK s₁.heap s'.heap/\s'.os=s₁.os/\AllBare s'.gens) s₁:=by
 have rv:=uZ hi;have WW:=hi.length;have core:∀H:Hp,Pg H->bE K H a (ns.map V.int)->ng P w H s₁.heap->(∀b,H b≠none->b=a)->(H a≠none->K.lookup a=none) ->
   codeAny (model P w) callerA (.call (.ref fa) ⟨[.ref a],[]⟩) (λr s'=>r=.ok (.ret (.bool true))/\OldK s₁.heap s'.heap/\s'.os=s₁.os/\AllBare s'.gens) s₁:=by
  intro H hO hS hok hA hK;have CU:∀{b:Addr}{o:Obj},s₁.heap.get? b=some o->H b=none->(wz s₁.heap H).get? b=some o:=λe n=>GD e n;have Su:∀{b:Addr}{o:Obj}{es:Array DictEntry}{ep:Nat},s₁.heap.get? b=some o->o.data=.dict es ep->H b=none:=λ{b o es ep} e d=>by
   cases q:H b with
   | none=>rfl
   | some u =>
    have e':b=a:=hA b (by rw[q];simp);subst e';rw[ha] at e;cases e;have d':Data.seq vs.toArray _=Data.dict es ep:=d;cases d'
  have VA:∀{b:Addr}{m:Str->Option Value},s₁.heap.Ns b m->(wz s₁.heap H).Ns b m:=λ{b m} ⟨o,es,ep,e,d,r⟩=>⟨o,es,ep,CU e (Su e d),d,r⟩;have hKb:K.In (wz s₁.heap H):=λb o e=>CU (KX b o e) (by
   cases q:H b with
   | none=>rfl
   | some u =>
    have e':b=a:=hA b (by rw[q];simp);subst e';rw[hK (by rw[q];simp)] at e;cases e)
  have hM:Mod K mg (wz s₁.heap H):=⟨hKb,VA hns,⟨mb,VA hb,hbb⟩,let⟨mc,h1,h2⟩:=hlim;⟨mc,VA h1,h2⟩⟩;have e0:Bc P w K mg (wz s₁.heap H) callerA [] s₁ H:=⟨rfl,hM,λb o e=>K3 e,Nat.le_of_eq (EA _ _),trivial,λb hb=>absurd (show b∈([]:List Addr) from hb) (by simp),hok,.of_eq hg⟩;refine codeAny_mono ((F _ hKb (VA hns)).run callerA [] s₁ H ⟨[.ref a],[]⟩ [.ref a] [.ref a] _ _ hr e0 (hbind s₁ (.ref a)) (.cons rfl .nil) (KJ H hO hS)) λr s' h=>?_;cases r with
  | error e=>exact(WV H e s' h).elim
  | ok fl =>
   cases fl with
   | next=>exact False.elim h
   | brk=>exact False.elim h
   | cont=>exact False.elim h
   | ret u =>
    obtain⟨v,H',os,bare,un,WX,r',q⟩:=h;have q':v=.bl true:=q;subst q';obtain rfl:u=Value.bool true:=r';refine⟨rfl,OldK.of_keep λb o e=>?_,os,bare⟩;cases q:H b with
    | none=>exact un.keep b o e q (by intro z;exact absurd (show b∈([]:List Addr) from z) (by simp)) (by simp)
    | some u =>
     rcases hO b with z|⟨ob,xs,z⟩
     .rw[q] at z;cases z
     .have z2:=un.pL b ob _ z;obtain⟨e1,_⟩:=hok b _ z;obtain⟨e2,_⟩:=WX b _ z2;rw[e] at e1;cases e1;exact e2
 cases hk:K.lookup a with
 | some o =>
  have e:=KX a o hk;rw[ha] at e;cases e;refine core (λ_=>none) (λ_=>.inl rfl) (.inr ⟨_,vs.toArray,_,hk,rfl,rfl,rfl,by rw[aV,WW];exact hl,by simpa using rv⟩) (λb u z=>by have z':(none:Option HO)=some u:=z;cases z') (λb z=>absurd rfl z) λz=>absurd rfl z
 | none =>
  refine core (λb=>if b=a then some (.CB { cls:=.type "list", data:=.seq vs.toArray } (.lst (ns.map V.int))) else none) (λb=>?_) (.inl (.inr ⟨{ cls:=.type "list", data:=.seq vs.toArray },if_pos rfl⟩)) (λb u z=>?_) (λb z=>?_) λ_=>hk
  .by_cases hb:b=a
   .exact .inr ⟨_,_,if_pos hb⟩
   .exact .inl (if_neg hb)
  .by_cases hb:b=a
   .have z':=(if_pos hb).symm.trans z;cases z';subst hb;exact⟨ha,by rw[av];exact hl,vs,_,rv,ha⟩
   .have z':=(if_neg hb).symm.trans z;cases z'
  .by_cases hb:b=a
   .exact hb
   .exact absurd (if_neg hb) z
abbrev KOf{K:aD}{h:Heap}(_:K.In h):aD:=K
def Lj{l:PySem.W.OpenLaw}{n:Nat}{q:Program}{loose:List Str}{XP:(Str->Option Value)->Heap->Prop}{YP:World->Heap->Prop}{d:DefRec}{K:Params->aD}{CX:World->EM}{sp:World->Sp}
  (hn:l.most=some n)(hn2:n<=sizeLine)(hdf:d.params.defaults=[])(hr:jd k callerA)
  (hY:∀(w:World)(h:Heap),YP w h->(K w.params).In h)
  (F:∀(w:World)(mg:Str->Option Value)(fa:Addr)(h:Heap),(K w.params).In h->h.Ns mainGlobals mg->mg d.name=some (.ref fa) ->
   ∃fd:FuncData,(∀(s:Shared)(u:Value),BindsTo s fd ⟨[u],[]⟩ [(x,u)]) /\
    ∀base:Heap,(K w.params).In base->base.Ns mainGlobals mg->b7 l.prog w (K w.params) mg base (CX w) k fa fd [x] (sp w))
  (KJ:∀(w:World)(H:Hp)(a:Addr)(ns:List Int),ns.length<=n->Pg H->bE (K w.params) H a (ns.map V.int)->sp w [.ref a] H (λv _=>v=.bl true) λ_ _ _=>False)
  (WV:∀(w:World)(H:Hp)(s:Shared)(e:Value)(s':Shared),CX w [] H s (λ_ _ _=>False) e s'->False):
  PySem.W.WalkO q loose XP YP l.row.toRowW d [] (λf vs=>PySem.call f vs):=by refine Att.yx hn hdf λw s₀ s₁ mg mb fa o pm cd doc a vs ns G Y ho hd hcd hmg hobj hints hlen hg=>?_;have KX:=hY w _ Y;obtain⟨fd,hb,hF⟩:=F w mg fa _ KX G.T.g hmg;exact Hr KX G.T.g G.T.b G.T.builtins G.T.nolimit hg hobj hints (bJ hlen hn2) hr hF hb (λH hO hS=>KJ w H a ns hlen hO hS) λH e s'=>WV w H s₁ e s'
def ku(s:Stmt):Arguments:=match s with
 | .FunctionDef _ a _ _ _ _ _ _ _ _=>a
 | _=>{ posonlyargs:=[],args:=[],vararg:=none,kwonlyargs:=[],kw_defaults:=[],kwarg:=none,defaults:=[] }
def iQ(s:Stmt):List Stmt:=match s with
 | .FunctionDef _ _ b _ _ _ _ _ _ _=>b
 | _=>[]
def aC(s:Stmt):Scope:=match s with
 | .FunctionDef _ _ _ _ _ _ sc _ _ _=>sc
 | _=>{ kind:=.function,names:=[],isGenerator:=false,isCoroutine:=false }
abbrev gT:EM:=λ_ _ _ _ _ _=>False
abbrev E0:XK:=λ_ _ _=>False
def SM{X:Cx}:Passes gT X E0:=λ_ _ _ _ _ _ _ h=>h.elim
structure Rx (K:aD) (x qual:Str) (st:Stmt) (f:Addr) (fd:FuncData):Prop where
 ex:∃(oc:Value)(od:Option Addr)(kV doc pm:Value)(an:Option Addr)(cdv ct:Value)(osl:Array (Option Value)),
  fd=PySem.W.fnOf x qual (ku st) (iQ st) (aC st) .none kV doc pm an cdv ct/\K.lookup f=some ⟨oc,od,.func fd,osl⟩/\PySem.W.codeIn K cdv qual=true
 kp:PySem.W.keepIn K (.ref f)=true
section
variable {P:Program}{w:World}{K:aD}{mg:Str->Option Value}{base:Heap}
def Rx.ok{N ps:List Str}{sp:Sp}(F:Rx K x qual st f fd)(S:aN N ps (aC st))(len:∀vs H Q E,sp vs H Q E->vs.length=ps.length)
  (hbody:∀(cdv:Value)(A:Around)(outer:List Env)(s:Shared)(H:Hp)(vs:List V)(Q:VK)(E:XK),jd k (A.deeper (envOfC qual (aC st) s.heap.objs.size f cdv))->sp vs H Q E ->
   ∃t,uR (ym gT P w K mg base N qual (aC st) f cdv A outer s H E).GH (iQ st) t/\t { nx:=λ_ H'=>Q .cY H',rt:=Q } (start N vs) H):b7 P w K mg base gT (k+1) f fd ps sp:=by obtain⟨oc,od,kV,doc,pm,an,cdv,ct,osl,rfl,lk,hcd⟩:=F.ex;refine Ng lk hcd S len λA outer s H vs Q E hr KJ=>?_;obtain⟨t,h,q⟩:=hbody cdv A outer s H vs Q E hr KJ;exact⟨t,h.GH,q⟩
def Rx.binds{ps:List Str}(F:Rx K x qual st f fd)
  (h:∀(kV doc pm:Value)(an:Option Addr)(cdv ct:Value)(us:List Value),us.length=ps.length->bindArgs (PySem.W.fnOf x qual (ku st) (iQ st) (aC st) .none kV doc pm an cdv ct) ⟨us,[]⟩=pure (ps.zip us)):Binds K fd ps []:=by obtain⟨oc,od,kV,doc,pm,an,cdv,ct,osl,rfl,lk,hcd⟩:=F.ex;exact .all (h kV doc pm an cdv ct)
def Hs{oc:Value}{od an:Option Addr}{osl:Array (Option Value)}{kV doc pm cdv ct:Value}(l:K.lookup f=some ⟨oc,od,.func (PySem.W.fnOf x qual (ku st) (iQ st) (aC st) .none kV doc pm an cdv ct),osl⟩)
  (c:PySem.W.codeIn K cdv qual=true)(k:PySem.W.keepIn K (.ref f)=true):Rx K x qual st f (PySem.W.fnOf x qual (ku st) (iQ st) (aC st) .none kV doc pm an cdv ct):=⟨⟨oc,od,kV,doc,pm,an,cdv,ct,osl,rfl,l,c⟩,k⟩
end
def sC{A:Around}(hr:jd k A):A.units+1<cLine:=Nat.lt_of_le_of_lt (Nat.add_le_add_left (by decide:1<=64) _) hr.units
section
variable {X:Cx}
def pv(i:Nat){pos:Pos}(hN:X.N[i]?=some x:=by rfl)(hv:Vw X.env.scope x:=by first|exact ao rfl|exact cg (ao rfl)|exact cg (cg rfl))(hd:(x==("__debug__" : Str))=false:=by decide)
  (hcd:(x==("__classdict__" : Str))=false:=by decide):PE X (.Name x pos) (mG i):=OS hN hv hd hcd
end
def WY{A B:Prop}(h:B):if false=true then A else B:=by rw[if_neg jT];exact h
def Ph{A B:Prop}(h:A):if true=true then A else B:=by rw[if_pos rfl];exact h
def aB(H H':Hp):Prop:=∀b o,H b=some o->H' b=some o
def aB.refl(H:Hp):aB H H:=λ_ _ h=>h
def aB.trans{H1 H2:Hp}(a:aB H H1)(b:aB H1 H2):aB H H2:=λc o h=>b c o (a c o h)
def aB.free{H':Hp}(e:aB H H'){l:Addr}(h:H' l=Option.none):H l=Option.none:=by
 cases q:H l with
 | none=>rfl
 | some o =>
  rw[e l o q] at h;cases h
def aB.seq{K:aD}{H':Hp}{a:Addr}{xs:List V}(e:aB H H')(h:bE K H a xs):bE K H' a xs:=by
 rcases h with(h|⟨o,h⟩)|h
 .exact .inl (.inl (e _ _ h))
 .exact .inl (.inr ⟨o,e _ _ h⟩)
 .exact .inr h
section
variable {X:Cx}
end
section
variable {κ:Type} [DecidableEq κ]
end
end L2
namespace BT
open PySem
def eO:bootBuiltins "len" = some (.builtin "len"):=by decide +kernel
def wN:bootBuiltins "isinstance" = some (.builtin "isinstance"):=by decide +kernel
def Nn:bootBuiltins "int" = some (.type "int"):=by decide +kernel
def sD:bootBuiltins "list" = some (.type "list"):=by decide +kernel
def CV:bootBuiltins "tuple" = some (.type "tuple"):=by decide +kernel
def Bk:bootBuiltins "dict" = some (.type "dict"):=by decide +kernel
def CW:bootBuiltins "set" = some (.type "set"):=by decide +kernel
end BT
namespace L2
open PySem PySem.Spec PyProof.Rows
variable {pos px:Pos}{elt iter:Expr}{ifs:List Expr}{scope:Scope}{x:Str}{cl:List (Str×Addr)}{fr:List Str}{ix:List Nat}{tt:TT}{te:TE}
section
variable {X:Cx}
def Pj(t u:TS):TS:=λD σ H=>∃J:St->Hp->Prop,t { D with nx:=J } σ H/\∀σ' H',J σ' H'->u D σ' H'
def iR{st:Stmt}{rest:List Stmt}{t u:TS}(h1:PS X st t)(h2:uR X rest u):uR X (st::rest) (Pj t u):=by
 intro pins s σ H D I h;obtain⟨J,h,k⟩:=h;refine wpAny_execs_cons (cT (h1 pins s σ H _ I h) λf s1 q=>?_);cases f with
 | next =>
  obtain⟨σ1,H1,I1,j⟩:=q;exact h2 pins s1 σ1 H1 D I1 (k σ1 H1 j)
 | brk=>exact q
 | cont=>exact q
 | ret u=>exact q
def SO(c:TT)(t u:TS):TS:=λD σ H=>∃Jt Jf:Hp->Prop,(c σ H λb H1=>if b=true then Jt H1 else Jf H1)/\(∀H1,Jt H1->t D σ H1)/\∀H1,Jf H1->u D σ H1
def Ht{c:Expr}{a b:List Stmt}{tc:TT}{t u:TS}(hc:PT X c tc)(ha:uR X a t)(hb:uR X b u):PS X (.If c a b pos) (SO tc t u):=by
 intro pins s σ H D I h;obtain⟨Jt,Jf,h,h1,h2⟩:=h;refine wpAny_If (cT (hc pins s σ H _ I h) λv s1 zq=>?_);obtain⟨H1,I1,q1⟩:=zq;cases v with
 | true=>exact ha pins s1 σ H1 D I1 (h1 H1 q1)
 | false=>exact hb pins s1 σ H1 D I1 (h2 H1 q1)
end
section
variable {prog:Program}{w:World}{A:Around}{R:Result->Shared->Prop}{s:Shared}
theorem nO{target:Expr}{it acc:Value}{env:Env}(I:Nat->Shared->Prop)
  (turn:∀n s,I n s->wpAny (model prog w) A (pyNext it) (λr s₁=>match r with
   | none=>R (.ok .next) s₁
   | some v=>wpAny (model prog w) A (letOwnedTupleGo target it v) (λ_ s₀=>wpAny (model prog w) A (assign target env v) (λ_ s₂ =>
     wpAny (model prog w) A (forIn ifs true λc r=>if r=true then do let ok <- isTrue c env (eval c env);pure (ForInStep.yield ok) else pure (ForInStep.yield r)) (λok s₃ =>
      if ok=true then wpAny (model prog w) A (eval elt env) (λx s₄ =>
       wpAny (model prog w) A (call (.builtin "list.append") [acc,x]) (λ_ s₅=>∃m,m<n/\I m s₅) (notedBy (model prog w) A env λe s'=>R (.error e) s') s₄) (notedBy (model prog w) A env λe s'=>R (.error e) s') s₃
      else ∃m,m<n/\I m s₃) (notedBy (model prog w) A env λe s'=>R (.error e) s') s₂) (notedBy (model prog w) A env λe s'=>R (.error e) s') s₀) (notedBy (model prog w) A env λe s'=>R (.error e) s') s₁) (notedBy (model prog w) A env λe s'=>R (.error e) s') s)
  (n:Nat)(h:I n s):
  codeAny (model prog w) A (.compLoop (.ListComp elt [⟨target,iter,ifs,0⟩] scope pos) 0 it acc env) R s:=by
 refine codeAny_loop rfl I (λn s hI=>?_) n h;show wpAny _ A ((compTurn (.ListComp elt [⟨target,iter,ifs,0⟩] scope pos) 0 it acc env).onRaise (λx=>do noteFrame x env;theTreesLotGoes x)) _ _ s;refine wpAny_noted ?_;rw[compTurn_list];refine aq (wpAny_standAt (aq (wpAny_mono (turn n s hI) (λr s₁ h₁=>?_) λ_ _ h'=>h')));cases r with
 | none=>exact aL h₁
 | some v =>
  refine aq (wpAny_mono h₁ (λ_ s₀ h₀=>?_) λ_ _ h'=>h');refine aq (wpAny_mono h₀ (λ_ s₂ h₂=>aq (wpAny_mono h₂ (λok s₃ h₃=>?_) λ_ _ h'=>h')) λ_ _ h'=>h');cases ok with
  | false=>exact aL ⟨rfl,h₃⟩
  | true =>
   exact aq (aq (wpAny_mono h₃ (λx s₄ h₄=>aq (wpAny_mono h₄ (λ_ s₅ h₅=>aL (aL ⟨rfl,h₅⟩)) λ_ _ h'=>h')) λ_ _ h'=>h'))
end
def mO(X:Cx)(N:List Str)(scope:Scope)(cl:List (Str×Addr))(C:Addr)(fp:List Addr)(s:Shared)(H:Hp):Cx where
 prog:=X.prog
 w:=X.w
 K:=X.K
 mg:=X.mg
 base:=X.base
 A:=X.A
 N:=N
 s₀:=s
 H₀:=H
 env:=compEnvC scope cl C X.env
 outer:=X.stack
 stack:=X.stack
 ex:=fp
 fn:=λ_=>false
 calm:=X.calm
 pn:=[]
 xe:=λ_ _=>False
structure bD (X:Cx) (scope:Scope) (cl:List (Str×Addr)) (x:Str) (fr:List Str) (ix:List Nat):Prop where
 calm:X.calm=true
 clos:closureFor scope X.env=pure cl
 cell:∀y∈scope.names,y.2≠.cell
 kind:scope.kind=.function
 names:∀y∈scope.names,y.2=.local->scope.names.lookup y.1=some .local
 loc:scope.names.lookup x=some .local
 nd:(x::fr).Nodup
 Ry:∀y c,cl.lookup y=some c->X.env.cells.lookup y=some c
 Np:∀y,((relabel scope X.env).names.lookup y=some .cell\/(relabel scope X.env).names.lookup y=some .free)->∃c,cl.lookup y=some c
 fx:∀(j:Nat) y,fr[j]?=some y->∃i:Nat,ix[j]?=some i/\X.N[i]?=some y/\(X.env.kindOf y=some .cell\/X.env.kindOf y=some .free)/\((relabel scope X.env).names.lookup y=some .cell\/(relabel scope X.env).names.lookup y=some .free)
 len:fr.length=ix.length
def PF(X:Cx)(ifs:List Expr)(t:TT):Prop :=
 ∀(pins:List (Addr×Obj))(s:Shared)(σ:St)(H:Hp)(Q:Bool->Hp->Prop),Inv X pins σ H s->t σ H Q ->
  wpAny (model X.prog X.w) X.A (forIn ifs true λc r=>if r=true then do let ok <- isTrue c X.env (eval c X.env);pure (ForInStep.yield ok) else pure (ForInStep.yield r)) (TP X pins σ Q) X.xe s
def Ll:TT:=λ_ H Q=>Q true H
def cQ{X:Cx}:PF X [] Ll:=λ_ _ _ H _ I h=>wpAny_tests_nil ⟨H,I,h⟩
def nq{X:Cx}{c:Expr}{t:TT}(h:PT X c t):PF X [c] t:=λpins s σ H Q I q=>wpAny_tests_one (h pins s σ H Q I q)
def cut(ix:List Nat)(σ:St):St:=ix.map λi=>(σ[i]?).join
section
variable {X:Cx}{pins:List (Addr×Obj)}{σ:St}{H:Hp}{s:Shared}
def Inv.u0{D:Addr}{o:HO}(I:Inv X pins σ H s)(f:iH X pins H D)(new:cZ X.prog X.w (upd H D o) s.heap D o):Inv X pins σ (upd H D o) s:=by
 have hn:H D=none:=f.1;have ne:∀b u,H b=some u->b≠D:=λb u e=>aW e hn;have hok:ng X.prog X.w (upd H D o) s.heap:=λb u e=>by
  by_cases hb:b=D
  .subst hb;rw[jU] at e;cases e;exact new
  .rw[ck hb] at e;exact(I.hok b u e).stay (λ_ _ _ q=>q) (λc q=>by rw[ck (ne _ _ q)];exact q) λc xs q=>by rw[ck (ne _ _ q)];exact q
 exact I.step (H':=upd H D o) (h':=s.heap) (g':=s.gens) (t':=s.toks) (d':=s.drawn) (ch:=[D]) (λb hb=>by
   have e:b=D:=by simpa using hb
   subst e;exact⟨f.2.2.2.1,f.2.1,f.2.2.2.2.1,f.2.2.2.2.2⟩)
  (λb o _ _ _ e _=>e) (λb o _ _ _ e _=>⟨o.slots,e⟩) (λb o hb e n=>by rw[ck (λz=>hb (by simp[z]))];exact n)
  (λb o _ e=>⟨o,e⟩) (λb xs e=>by rw[ck (ne _ _ e)];exact e) (λb o u e=>by rw[ck (ne _ _ e)];exact e) (λb ps e=>⟨#[],by rw[ck (ne _ _ e),e];simp⟩)
  (λm hm=>hm) hok I.bare
def sE{E:Value->Shared->Prop}{RR:Value->Addr->Result->Shared->Prop}
  (O:bD X scope cl x fr ix)(ht:∀C fp s H,PF (mO X (x::fr) scope cl C fp s H) ifs tt)(he:∀C fp s H,PE (mO X (x::fr) scope cl C fp s H) elt te)
  {it:Addr}{fp:List Addr}{tn:Nat->Heap->Prop}{J:It}{H2:Hp}{s2:Shared}(I2:Inv X pins σ H2 s2)(T:Turn X.prog X.w X.K (.Name x px) J fp it tn)(st2:tn 0 s2.heap)(f2:∀b∈fp,iH X pins H2 b)
  (Z:List V->Hp->Prop)(W:Nat->Nat->List V->Hp->Prop)(m0:Nat)(w0:W 0 m0 [] H2)
  (turn:∀i m ys H,W i m ys H->(J.stop i H/\Z ys H)\/(J.go i H/\ys.length<sizeLine/\∃N:List V->Hp->Prop,(∀ys' H',N ys' H'->∃m',m'<m/\W (i+1) m' ys' H') /\
   ∀v H',J.Gz i H v H'->tt (some v::cut ix σ) H' λb H3=>if b=true then te (some v::cut ix σ) H3 λy H4=>N (ys++[y]) H4 else N ys H3))
  (hRR:∀D C s' ys H',Inv X pins σ (upd H' D (.lst ys)) s'->(∃m,s'.heap.Ns C m)->iH X pins (upd H' D (.lst ys)) C->H' D=none->Z ys H'->RR (.ref D) C (.ok .next) s'):
  wpAny (model X.prog X.w) X.A (newList []) (λacc s₃=>wpAny (model X.prog X.w) X.A (newFunctionEnv scope X.env.globals cl [] X.env.qual none .none (some X.env)) (λcenv s₄ =>
   codeAny (model X.prog X.w) X.A (.compStart (.ListComp elt [⟨.Name x px,iter,ifs,0⟩] scope pos) 0 (.ref it) acc { cenv with scope:=relabel scope X.env }) (RR acc cenv.locals) s₄) E s₃) E s2:=by
 refine wpAny_newObj_type (wpAny_newFunctionEnv O.cell (by intro y hy;simp at hy) (λh₁ Bl wO=>?_) O.kind);dsimp only at Bl wO ⊢;generalize hG:s2.heap.push { cls:=.type "list", dict:=none,data:=.seq ([]:List Value).toArray }=G at Bl wO ⊢;have hC:G.objs.size=s2.heap.objs.size+1:=by rw[<- hG,fF]
 have hDC:s2.heap.objs.size≠G.objs.size:=by rw[hC];exact aQ (g8 _)
 have Bm:s2.heap.objs.size<=G.objs.size:=by rw[hC];exact lu _
 have below:∀b,b<s2.heap.objs.size->b≠G.objs.size/\b≠s2.heap.objs.size:=λb hb=>⟨by rw[hC];exact aQ (jo hb),aQ hb⟩;have old:∀b o,s2.heap.get? b=some o->h₁.get? b=some o:=λb o e=>wO.extBut b o (below b (aK e)).1 (c9 _ (hG▸c9 _ e));have hacc:h₁.get? s2.heap.objs.size=some { cls:=.type "list", data:=.seq ([]:List Value).toArray }:=wO.extBut _ _ hDC (c9 _ (hG▸iE _ rfl));have SQ:H2 s2.heap.objs.size=none:=I2.hok.fresh (az _);have SR:H2 G.objs.size=none:=I2.hok.fresh Bm;have fD:iH X pins H2 s2.heap.objs.size:=I2.nJ (az _) SQ;have fC:iH X pins H2 G.objs.size:=I2.nJ Bm SR;have Bo:∀b∈fp,b<s2.heap.objs.size:=λb hb=>by obtain⟨o,e,_⟩:=T.obj _ _ st2 b hb;exact aK e
 have yy:∀b∈frs X.stack,b∈X.env.locals::X.fs:=I2.wB;have fK:=O.Ry;have ok:(mO X (x::fr) scope cl G.objs.size fp s2 H2).Ok:=by
  refine⟨I2.ok.mod,O.kind,I2.ok.glob,I2.ok.blt,Bm,λy z c h1 h2=>I2.ok.inj y z c (fK y c h1) (fK z c h2),λy hy=>O.Np y hy,λy c h _=>absurd h jT,λh=>I2.ok.hd h,I2.ok.frames,.inl rfl,λb hb=>?_,I2.bs,bJ I2.ok.KD I2.sz,λb o e hb=>?_,λb hb hs=>?_,I2.stack,I2.wC⟩
  .exact⟨(below b (Bo b hb)).1,λy c e=>(f2 b hb).2.2.2.2.1 y c (fK y c e)⟩
  .rcases(f2 b hb).2.2.2.1 with z|z
   .exact I2.ok.EB b o e z
   .exact absurd (bS (aK (I2.ok.bs b o e).1) z) (fZ _)
  .rcases aI.mp (yy b hs) with z|z
   .exact(f2 b hb).2.1 z
   .exact(f2 b hb).2.2.1 z
 have SS:∀b,s2.heap.objs.size<=b->b∉frs X.stack:=λb hb hs=>by
  rcases aI.mp (yy b hs) with z|z
  .exact absurd (bS I2.lt (z▸hb)) (fZ _)
  .exact I2.OQ hb z
 have Ic:Inv (mO X (x::fr) scope cl G.objs.size fp s2 H2) [(s2.heap.objs.size,{ cls:=.type "list", data:=.seq ([]:List Value).toArray })] (none::cut ix σ) H2 { s2 with heap:=h₁,toks:=s2.toks+([]:List (Str×Value)).length }:=by
  refine⟨ok,rfl,I2.bare,Un.kept old,⟨_,Bl,λi y v h1 h2 h3=>?_⟩,λy c e=>?_,SR,λy c e=>I2.kP y c (fK y c e),λp hp=>?_,I2.hok.kept old,?_⟩
  .cases i with
   | zero=>cases h2
   | succ j =>
    have h1:fr[j]?=some y:=h1;have h2:(cut ix σ)[j]?=some (some v):=h2;obtain⟨i,e1,e2,k,kc⟩:=O.fx j y h1;obtain⟨c,e3⟩:=O.Np y kc;have e4:σ[i]?=some (some v):=by
     unfold cut at h2;rw[bw,e1] at h2;have h2:some ((σ[i]?).join)=some (some v):=h2;have h2:=Option.some.inj h2;cases q:σ[i]? with
     | none=>rw[q] at h2;cases h2
     | some z=>rw[q] at h2;exact congrArg some h2
    obtain⟨m,_,hl⟩:=I2.loc;obtain⟨u,r,l⟩:=hl i y v e2 e4 (k.elim (λz=>.inr (.inl z)) λz=>.inr (.inr z));refine⟨u,r,.inr ⟨kc,c,e3,?_⟩⟩;rcases l with⟨l1,_⟩|⟨_,c',l2,l3⟩
    .rcases k with k|k<;>(rw[k] at l1;cases l1)
    .have e5:=fK y c e3;rw[l2] at e5;cases e5;obtain⟨o,ho,hd⟩:=l3;exact⟨o,old _ _ ho,hd⟩
  .obtain⟨v,o,ho,hd⟩:=I2.cell y c (fK y c e);exact⟨v,o,old _ _ ho,hd⟩
  .have e:p=(s2.heap.objs.size,{ cls:=.type "list", data:=.seq ([]:List Value).toArray }):=by simpa[mO] using hp
   subst e;exact⟨hacc,SQ,hDC,SS _ (az _),λv z=>by cases z⟩
  .show(none::cut ix σ).length=(x::fr).length;unfold cut;simp[O.len]
 have Bp:∀b∈fp,b≠s2.heap.objs.size:=λb hb=>(below b (Bo b hb)).2;have r9:∀{pl:List (Addr×Obj)}{H':Hp},(∀p∈pl,p.1=s2.heap.objs.size)->(∀b∈fp,H' b=none)->∀b∈fp,iH (mO X (x::fr) scope cl G.objs.size fp s2 H2) pl H' b:=λ{pl H'} hp hn b hb =>
  ⟨hn b hb,(below b (Bo b hb)).1,λhs=>ok.EC b hb hs,.inl hb,λy c e=>(f2 b hb).2.2.2.2.1 y c (fK y c e),λp SV z=>Bp b hb (z.symm.trans (hp p SV))⟩
 have one:∀{o:Obj},∀p∈[(s2.heap.objs.size,o)],p.1=s2.heap.objs.size:=λp hp=>by have e:=aA.mp hp;rw[e]
 have loop:codeAny (model X.prog X.w) X.A (.compLoop (.ListComp elt [⟨.Name x px,iter,ifs,0⟩] scope pos) 0 (.ref it) (.ref s2.heap.objs.size) (compEnvC scope cl G.objs.size X.env)) (RR (.ref s2.heap.objs.size) G.objs.size)
   { s2 with heap:=h₁,toks:=s2.toks+([]:List (Str×Value)).length }:=by
  refine nO (λn s'=>∃(i:Nat)(ys:List V)(its:List Value)(c:Nat)(z:Option V)(H':Hp),Inv (mO X (x::fr) scope cl G.objs.size fp s2 H2) [(s2.heap.objs.size,{ cls:=.type "list", data:=.seq its.toArray c })] (z::cut ix σ) H' s'/\tn i s'.heap/\(∀b∈fp,H' b=none)/\Vals ys its/\ys.length<=sizeLine/\W i n ys H') ?_ m0
   ⟨0,[],[],0,none,H2,Ic,T.keep _ _ _ st2 (λb _ o e=>old b o e),λb hb=>(f2 b hb).1,.nil,aH _,w0⟩
  rintro n s3 ⟨i,ys,its,c,z,H3,I3,st3,Nc,rv,hl3,w3⟩;rcases turn i n ys H3 w3 with⟨stop,zz⟩|⟨go,hlt,N,hN,step⟩
  .refine wpAny_mono (T.done (mO X (x::fr) scope cl G.objs.size fp s2 H2) rfl rfl rfl O.calm i _ s3 _ H3 _ I3 (r9 one Nc) st3 stop) (λr s4 h4=>?_) λ_ _ e=>e;obtain⟨hr,I4⟩:=h4;subst hr;have pD:=I4.pin _ (cA _ (aA.mpr rfl));have IX:Inv X pins σ H3 s4:=I2.M4 I4.os I4.base I4.hok I4.bare λb hb=>⟨(f2 b hb).2.2.2.1,(f2 b hb).2.1,(f2 b hb).2.2.2.2.1,(f2 b hb).2.2.2.2.2⟩;obtain⟨mC,WZ,_⟩:=I4.loc;exact hRR _ _ s4 ys H3 (IX.u0 ⟨pD.2.1,fD.2⟩ ⟨hl3,its,c,rv,pD.1⟩) ⟨mC,WZ⟩ ⟨by rw[ck (bA hDC)];exact I4.free,fC.2⟩ pD.2.1 zz
  .refine wpAny_mono (T.item (mO X (x::fr) scope cl G.objs.size fp s2 H2) rfl rfl rfl O.calm i _ s3 _ H3 _ I3 (r9 one Nc) st3 go) (λr s4 h4=>?_) λ_ _ e=>e;obtain⟨u,hr,h4⟩:=h4;subst hr;refine wpAny_mono h4 (λ_ s5 h5=>?_) λ_ _ e=>e;obtain⟨v,H5,I5,r5,y5,Ba,Se⟩:=h5;have Sf:=I5.pinned (r9 one Se) (T.obj _ _ Ba);refine wpAny_assign_Name (nI Sf (i:=0) O.nd rfl (.inl (lookup_relabel_local O.loc)) r5 (λs6 I6=>?_) (.inr (lookup_relabel_local O.loc)));have I6:Inv (mO X (x::fr) scope cl G.objs.size fp s2 H2) _ (some v::cut ix σ) H5 s6:=I6;refine wpAny_mono (ht _ _ _ _ _ s6 _ H5 _ I6 (step v H5 y5)) (λok s7 h7=>?_) λ_ _ f=>False.elim f;obtain⟨H7,I7,q7⟩:=h7;cases ok with
   | true =>
    rw[if_pos rfl] at q7 ⊢;refine wpAny_mono (he _ _ _ _ _ s7 _ H7 _ I7 q7) (λuy s8 h8=>?_) λ_ _ f=>False.elim f;obtain⟨y,H8,I8,r8,n8⟩:=h8;have pD:=I8.pin _ (cA _ (mZ _ (aA.mpr rfl)));have rl:=rv.length;refine append_at (hsz:=by rw[aV];omega) pD.1 λh9 SW W2=>?_;obtain⟨m',hm,w9⟩:=hN _ _ n8;have Ia:Inv (mO X (x::fr) scope cl G.objs.size fp s2 H2) (lA fp s5.heap) (some v::cut ix σ) H8 s8:=I8.lZ λp hp=>I8.pin p (cA _ (cA _ hp));have Ib:=Ia.turned (h':=h9) (t':=s8.toks) (it:=s2.heap.objs.size) (λb o hb e=>SW.extBut b o hb e) pD.2.1 hDC (.inr (az _)) (λy c e=>fD.2.2.2.2.1 y c (fK y c e))
     λp hp=>by obtain⟨hb,_⟩:=pP (fp:=fp) (h:=s5.heap) (show p∈lA fp s5.heap from hp);exact Bp p.1 hb
    refine⟨m',hm,i+1,ys++[y],its++[uy],c+1,some v,H8,Ib.lZ λp hp=>?_,T.keep _ _ _ Ba λb hb o e=>?_,λb hb=>?_,rv.append (.cons r8 .nil),by rw[aR,jJ];omega,w9⟩
    .have e:=aA.mp hp;subst e;refine⟨?_,pD.2.1,hDC,pD.2.2.2.1,λv z=>by cases z⟩;have q:its.toArray.push uy=(its++[uy]).toArray:=by simp
     rw[<- q];exact W2
    .exact SW.extBut b o (Bp b hb) (I8.pin (b,o) (cA _ (cA _ (dZ hb e)))).1
    .obtain⟨o,e,d⟩:=T.obj _ _ Ba b hb;exact(I8.pin (b,o) (cA _ (cA _ (dZ hb e)))).2.1
   | false =>
    rw[if_neg jT] at q7 ⊢;obtain⟨m',hm,w9⟩:=hN _ _ q7;refine⟨m',hm,i+1,ys,its,c,some v,H7,I7.lB,T.keep _ _ _ Ba λb hb o e=>?_,λb hb=>?_,rv,hl3,w9⟩
    .exact(I7.pin (b,o) (cA _ (cA _ (dZ hb e)))).1
    .obtain⟨o,e,d⟩:=T.obj _ _ Ba b hb;exact(I7.pin (b,o) (cA _ (cA _ (dZ hb e)))).2.1
 exact codeAny_compStart_list loop (T.self _ 0 _ _ _ (T.keep _ _ _ st2 λb _ o e=>old b o e) loop)
def Hu(wi:TI)(tt:TT)(te:TE)(ix:List Nat):TE:=λσ H Q=>wi σ H λJ H1=>∃W:Nat->Nat->List V->Hp->Prop,(∃m,W 0 m [] H1)/\∀i m ys H,W i m ys H ->
 (J.stop i H/\∀p,H p=none->Q (.ref p) (upd H p (.lst ys)))\/(J.go i H/\ys.length<sizeLine/\∃N:List V->Hp->Prop,(∀ys' H',N ys' H'->∃m',m'<m/\W (i+1) m' ys' H') /\
  ∀v H',J.Gz i H v H'->tt (some v::cut ix σ) H' λb H3=>if b=true then te (some v::cut ix σ) H3 λy H4=>N (ys++[y]) H4 else N ys H3)
def cP{wi:TI}(O:bD X scope cl x fr ix)(hi:PI X (.Name x px) iter wi)
  (ht:∀C fp s H,PF (mO X (x::fr) scope cl C fp s H) ifs tt)(he:∀C fp s H,PE (mO X (x::fr) scope cl C fp s H) elt te)
  (hs:∀v,foldedSetIterable iter X.env v=pure v:=by intro _;rfl):PE X (.ListComp elt [⟨.Name x px,iter,ifs,0⟩] scope pos) (Hu wi tt te ix):=by intro pins s σ H Q I h;rw[eval_ListComp];refine wpAny_comprehension_free (use:=none) rfl hs O.clos O.kind O.names (cT (hi pins s σ H _ I h) λv s1 h1=>cT h1 λitv s2 h2=>?_);obtain⟨it,fp,tn,J,H2,e,I2,T,st2,f2,W,⟨m0,w0⟩,turn⟩:=h2;subst e;refine sE O ht he I2 T st2 f2 (λys H=>∀p,H p=none->Q (.ref p) (upd H p (.lst ys))) W m0 w0 turn λD C s' ys H' I' hm fC hD z=>?_;obtain⟨m,hm⟩:=hm;refine⟨m,hm,λh' hs'=>?_⟩;exact⟨.ref D,_,I'.turned (t':=s'.toks) (it:=C) (λb o hb e=>hs'.extBut b o hb e) fC.1 fC.2.1 fC.2.2.2.1 fC.2.2.2.2.1 fC.2.2.2.2.2,rfl,z D hD⟩
def Hv(te:TE)(i:Nat):TS:=λD σ H=>te σ H λv H1=>D.nx (σ.set i (some v)) H1
def jy{i:Nat}{y:Str}{py spos:Pos}{wi:TI}(hN:X.N.Nodup)(W3:X.N[i]?=some y)(hy:Loc X.env.scope y)
  (O:bD X scope cl x fr ix)(hi:PI X (.Name x px) iter wi)
  (ht:∀C fp s H,PF (mO X (x::fr) scope cl C fp s H) ifs tt)(he:∀C fp s H,PE (mO X (x::fr) scope cl C fp s H) elt te)
  (hsw:swapsWith (.ListComp elt [⟨.Name x px,iter,ifs,0⟩] scope pos) (some (.Name y py)) spos.line X.env=pure true:=by rfl)
  (hs:∀v,foldedSetIterable iter X.env v=pure v:=by intro _;rfl)(hf:X.fn y=true\/X.env.scope.names.lookup y=some .local:=by first|exact .inl rfl|exact .inr rfl|assumption):
  PS X (.Assign [.Name y py] (.ListComp elt [⟨.Name x px,iter,ifs,0⟩] scope pos) spos) (Hv (Hu wi tt te ix) i):=by
 intro pins s σ H D I h;rw[exec_Assign_Name_used _ _ _ _ hsw];refine aq (wpAny_standAt (aq ?_));show wpAny _ X.A (do let _ <- comprehension (.ListComp elt [⟨.Name x px,iter,ifs,0⟩] scope pos) scope X.env _ (newList []) false (eval iter X.env) (some (assign (.Name y py) X.env))) _ _ s;refine aq (wpAny_mono (wpAny_comprehension_free (use:=some (assign (.Name y py) X.env)) (Q:=λ_ s'=>SP X pins D .next s') rfl hs O.clos O.kind O.names
  (cT (hi pins s σ H _ I h) λv s1 h1=>cT h1 λitv s2 h2=>?_)) (λ_ s' hq=>aL (aL hq)) λ_ _ e=>e)
 obtain⟨it,fp,tn,J,H2,e,I2,T,st2,f2,W,⟨m0,w0⟩,turn⟩:=h2;subst e;refine sE O ht he I2 T st2 f2 (λys H=>∀p,H p=none->D.nx (σ.set i (some (.ref p))) (upd H p (.lst ys))) W m0 w0 turn λL C s' ys H' I' hm fC hD z=>?_;obtain⟨m,hm⟩:=hm;show wpAny _ X.A (assign (.Name y py) X.env (.ref L)) _ _ _;refine wpAny_assign_Name (pM I' hN W3 hy (v:=.ref L) rfl (λs'' W4 KN=>?_) hf);obtain⟨a,KN,ha⟩:=KN;have W5:C≠a:=by
  rcases ha with z|z
  .rw[z];exact fC.2.1
  .exact bA (fC.2.2.2.2.1 _ _ z)
 refine⟨m,hm.sameBut KN W5,λh' hs'=>?_⟩;exact⟨_,_,W4.turned (t':=s''.toks) (it:=C) (λb o hb e=>hs'.extBut b o hb e) fC.1 fC.2.1 fC.2.2.2.1 fC.2.2.2.2.1 fC.2.2.2.2.2,z L hD⟩
def bD.plain(calm:X.calm=true)(cell:∀y∈scope.names,y.2≠.cell)(free:∀y∈scope.names,y.2≠.free)(kind:scope.kind=.function)
  (names:∀y∈scope.names,y.2=.local->scope.names.lookup y.1=some .local)(loc:scope.names.lookup x=some .local):bD X scope [] x [] [] where
 calm:=calm
 clos:=closureFor_none free
 cell:=cell
 kind:=kind
 names:=names
 loc:=loc
 nd:=by simp
 Ry:=λy c h=>by cases h
 Np:=λy h=>by
  exfalso;have mem:∀{k:NameKind},(relabel scope X.env).names.lookup y=some k->∃z∈scope.names,(if(z.2==.free&&X.env.scope.kind==.function&&X.env.kindOf z.1==some .cell) then(z.1,NameKind.cell) else(z.1,z.2))=(y,k):=λ{k} e=>by have q:=ju e;obtain⟨z,hz,e⟩:=aF.mp q;exact⟨z,hz,e⟩
  rcases h with h|h
  .obtain⟨z,hz,e⟩:=mem h;have n1:=free z hz;have n2:(z.2==NameKind.free)=false:=by cases hk:z.2<;>first|rfl|exact absurd hk n1
   rw[n2,rJ,rJ,if_neg jT] at e;exact cell z hz (congrArg Prod.snd e)
  .obtain⟨z,hz,e⟩:=mem h;have n1:=free z hz;have n2:(z.2==NameKind.free)=false:=by cases hk:z.2<;>first|rfl|exact absurd hk n1
   rw[n2,rJ,rJ,if_neg jT] at e;exact n1 (congrArg Prod.snd e)
 fx:=λj y h=>by cases j<;>cases h
 len:=rfl
end
section
variable {X:Cx}
def Hw:dj X (.builtin "isinstance") (λxs H Q=>∃x T t b,xs=[x,.ty T]/\mH X.K H x t/\PySem.W.kitOne X.K t (.type T)=some b/\Q (.bl b) H):=by intro pins s σ H xs us Q I r h;obtain⟨x,T,t,b,rfl,ty,e,q⟩:=h;obtain⟨u,u',rfl,r1,r2⟩:=vals2 r;cases r2;exact EL I r1 ty e λtk=>⟨.bl b,H,I.tok tk,rfl,q⟩
theorem u7{prog:Program}{w:World}{A:Around}{E:Value->Shared->Prop}{it t:Addr}{items:Array Value}(hne:t≠it):∀(n i:Nat)(s:Shared)(Q:List Value->Shared->Prop),s.heap.IsListIter it t i->s.heap.IsList t items->i+n<=items.size ->
  (∀h',h'.IsListIter it t (i+n)->Heap.SameBut it s.heap h'->Q ((items.toList.drop i).take n) { s with heap:=h' })->wpAny (model prog w) A (draw (.ref it) n) Q E s
 | 0,i,s,Q,hit,_,_,hQ=>by
  show wpAny _ _ (pure []) Q E s;exact aL (by simpa using hQ s.heap hit (rL ..))
 | n+1,i,s,Q,hit,ht,hle,hQ=>by
  have hlt:i<items.size:=by omega
  show wpAny _ _ (pyNext (.ref it) >>= _) Q E s;refine aq (wpAny_pyNext_list_item hit ht (x:=items[i]) (by simp[hlt]) λh₁ Pk hs₁=>?_);refine aq (wpAny_holding (u7 hne n (i+1) _ _ Pk (ht.extBut hs₁.extBut hne) (by omega) λh₂ W6 hs₂=>aL ?_));have hd:items.toList.drop i=items[i]::items.toList.drop (i+1):=by simp[List.drop_eq_getElem_cons,hlt]
  have:=hQ h₂ (by rw[show i+(n+1)=i+1+n by omega];exact W6) (hs₁.trans hs₂);rw[hd,List.take_succ_cons] at this;exact this
def yz{prog:Program}{w:World}{A:Around}{E:Value->Shared->Prop}{s:Shared}{t:Addr}{items:Array Value}{targets:List (Bool×(Value->Sem Unit))}{Q:Unit->Shared->Prop}(hh:A.handled=none)(ht:s.heap.IsList t items)
  (hn:targets.length=items.size)(hstar:targets.findIdx? (·.1)=none)
  (h:∀h',Heap.ExtBut s.heap.objs.size s.heap h'->wpAny (model prog w) A (assignInOrder (targets.map (·.2)) items.toList) Q E { s with heap:=h' }):
  wpAny (model prog w) A (unpack (.ref t) targets) Q E s:=by
 have hlt:t≠s.heap.objs.size:=by obtain⟨o,ho,_⟩:=ht;exact aQ (aK ho)
 unfold unpack;rw[hn,hstar];refine aq (wpAny_holding ?_);unfold unpackItems;refine aq ?_;unfold notIterableAtAll;refine aq (wpAny_specialOf ht.typeIs F.slot_list_iter.lookup ?_);refine aL ?_;simp only[bV,if_false];refine aq (wpAny_holding (wpAny_pyIter_list ht ?_));refine aq (wpAny_holding (u7 hlt items.size 0 _ _ ⟨_,iE _ rfl,rfl,rfl⟩ (ht.push _) (by omega) λh₁ Pk hs₁=>?_));have hall:List.take items.size (List.drop 0 items.toList)=items.toList:=by rw[List.drop_zero];exact List.take_of_length_le (by simp)
 rw[hall];rw[if_neg (by simp)];have ht₁:h₁.IsList t items:=(ht.push _).extBut hs₁.extBut hlt;refine aq (wpAny_holding (wpAny_pyNext_list_end hh Pk ht₁ (by simp) λh₂ he₂=>?_));simp only[Option.isSome_none,bV,if_false];exact aL (h h₂ λb o hb e=>he₂ b o hb (hs₁.extBut b o hb (c9 _ e)))
def SX(K:aD)(n:Nat)(t:EE):TG:=λv σ H Q=>∃a xs,v=.ref a/\bE K H a xs/\xs.length=n/\t xs σ H Q
def Hx{es:List Expr}{k:Nat}{t:EE}{n:Nat}(hc:X.calm=true)(h:Rt X es t)
  (hn:(assignEach es X.env).length=n:=by rfl)(hst:(assignEach es X.env).findIdx? (·.1)=none:=by rfl):PG X (.Tuple es k pos) (SX X.K n t):=by intro pins s σ H v u Q I r hw;obtain⟨a,xs,e1,hq,hl,hw⟩:=hw;subst e1;cases r;obtain⟨its,rv,pl,hz⟩:=I.list hq;rw[assign_Tuple];refine aq (wpAny_standAt (yz (I.ok.hd hc) pl.isList (by simp[hn,<- hl,rv.length]) hst λh' hx=>?_));have I1:Inv X pins σ H { s with heap:=h' }:=I.kept (t':=s.toks) λb o e=>hx b o (aQ (aK e)) e;exact h pins _ σ H xs _ Q I1 (by simpa using rv) hw
end
end L2
namespace RV
open PySem
variable {t:Addr}
def EW:Manifest.owners.lookup (String.ofList ['d','e','s','r','e','v','e','r'].reverse)=some Manifest.sig_reversed:=by kernel_rfl
def slot_next:Slot "reversed" "__next__" "reversed.__next__" :=
 .of (owner := "reversed") (n := "__next__") (by rw[typeLookup_type,builtinLookup_eq_fast];kernel_rfl) (by decide +kernel) (by decide +kernel) (by decide +kernel)
  (by first|exact .inl (by decide +kernel)|exact .inr (by decide +kernel)) (by rw[isSubtype_type];kernel_rfl)
def entry_next:entryFor table "reversed.__next__" = some Builtin.«reversed.__next__»:=entryFor_of_tree (by kernel_rfl)
def args_next(a:Value):argsOk "reversed.__next__" ⟨[a],[]⟩:=by unfold argsOk;rw[signature?_of (id := "reversed.__next__") (n:=['_','_','t','x','e','n','_','_']) (o:=['d','e','s','r','e','v','e','r']) (by kernel_rfl) EW];kernel_rfl
def yC(h:Heap)(a t:Addr)(i:Int):Prop:=∃o,h.get? a=some o/\o.cls=.type "reversed" /\ o.data=.fields #[.ref t,rawInt i]
section
variable {prog:Program}{w:World}{A:Around}{E:Value->Shared->Prop}{s:Shared}
def yC.typeIs{a:Addr}{i:Int}(x:yC s.heap a t i):s.TypeIs (.ref a) "reversed" := let⟨o,ho,hc,_⟩:=x;⟨o,ho,hc⟩
def yC.at{h h':Heap}{a:Addr}{i:Int}(x:yC h a t i)(e:∀o,h.get? a=some o->h'.get? a=some o):yC h' a t i:=let⟨o,ho,r⟩:=x;⟨o,e _ ho,r⟩
def next_item{it:Addr}{i:Nat}{items:Array Value}{x:Value}{Q:Option Value->Shared->Prop}(hit:yC s.heap it t (i:Int))(ht:PyProof.Rows.IsTup s.heap t items)(hx:items[i]?=some x)(hfit:items.size<2 ^ 62)
  (hQ:∀h' tk,yC h' it t ((i:Int)-1)->Heap.SameBut it s.heap h'->Q (some x) { s with heap:=h',toks:=tk }):wpAny (model prog w) A (pyNext (.ref it)) Q E s:=by
 obtain⟨o,ho,hc,hd⟩:=id hit;have hlt:i<items.size:=by rw[mK] at hx;exact hx.1
 have hj:seqIndex? (i:Int) items.size=some i:=by
  have h1:¬((i:Int)<0):=by omega
  unfold seqIndex?;simp[h1,hlt]
 unfold pyNext;refine aq (wpAny_attempt (wpAny_callSpecial?_slot (name:=Str.ofString "__next__") hit.typeIs slot_next
  (wpAny_call_entry slot_next hit.typeIs entry_next ?_ (args_next _))))
 unfold Builtin.«reversed.__next__»;refine aq (wpAny_of_eq (a:=(Value.ref it,[])) rfl ?_)
 try dsimp only
 refine aq (wpAny_field ho hd (x:=.ref t) rfl ?_);refine aq (wpAny_field ho hd (x:=rawInt (i:Int)) rfl ?_);show wpAny _ _ (if(i:Int)<0 then _ else _) _ _ s;rw[if_neg (by omega)];refine aq (wpAny_specialOf ht.typeIs PyProof.Rows.slot_tuple_getitem.lookup ?_);refine wpAny_ite_split (λhab=>absurd hab (by decide)) (λ_=>?_);refine aq (wpAny_mkInt ?_);refine aq (wpAny_attempt (PyProof.Rows.getItem_tuple ht (by omega) (by omega) hj hx ?_))
 try dsimp only
 refine aq (wpAny_field ho hd (x:=rawInt (i:Int)) rfl ?_);refine aq (wpAny_setField ho hd (by simp) ?_);refine aL ⟨x,rfl,aL (hQ _ _ ?_ (jD ..))⟩;exact⟨_,fE _ ho (iO (dG hd _)),(kh ..).trans hc,by
  rw[dG hd];simp⟩
def next_end{it:Addr}{Q:Option Value->Shared->Prop}(hh:A.handled=none)(hit:yC s.heap it t (-1))
  (hQ:∀h',Heap.ExtBut it s.heap h'->Q none { s with heap:=h' }):wpAny (model prog w) A (pyNext (.ref it)) Q E s:=by
 obtain⟨o,ho,hc,hd⟩:=id hit;unfold pyNext;refine aq (wpAny_attempt (wpAny_callSpecial?_slot (name:=Str.ofString "__next__") hit.typeIs slot_next
  (wpAny_call_entry slot_next hit.typeIs entry_next ?_ (args_next _))))
 unfold Builtin.«reversed.__next__»;refine aq (wpAny_of_eq (a:=(Value.ref it,[])) rfl ?_)
 try dsimp only
 refine aq (wpAny_field ho hd (x:=.ref t) rfl ?_);refine aq (wpAny_field ho hd (x:=rawInt (-1)) rfl ?_);show wpAny _ _ (if(-1:Int)<0 then _ else _) _ _ s;rw[if_pos (by decide)];refine aq (wpAny_rule ?_);refine aq ?_
 wp_delta
 refine aq (wpAny_setField ho hd (by simp) ?_);have ho2:=fE (Obj.mapFields (·.setIfInBounds 1 (rawInt (-1)))) ho (iO (dG hd _));refine wpAny_setField ho2 (dG hd _) (by simp) ?_;refine aq ?_;show wpAny _ _ (newExc (.type "StopIteration") [] >>= _) _ _ _;refine aq ?_;simp only[newExc,newTuple];refine aq (wpAny_newObj_type ?_ (by size_fits));refine aq (m:=firstArgMember _ _) (wpAny_of_eq (a:=Value.none) (by first|rfl|(simp only[firstArgMember];rfl)) ?_);refine wpAny_newObj_type ?_ (by size_fits);simp only[raiseNew];refine aq (wpAny_handled ?_)
 first|rw[show A.in1.handled=none from hh]|rw[hh]
 refine aq (aL (wpAny_throw ?_));refine aq (wpAny_isInstance (T := "StopIteration") (b:=true) ⟨_,iE _ rfl,rfl⟩ isSubtype_stop ?_);refine aL (hQ _ λb o' hb e=>?_);refine c9 _ (c9 _ ?_);exact(j9 _ _ (bA hb)).trans ((j9 _ _ (bA hb)).trans e)
variable {I:Addr}{fp wr:List Addr}{n:Nat}{P:Nat->Value->Prop}{St:Nat->Heap->Prop}{T:String}
end
end RV
namespace L2
open PySem PySem.Spec PyProof.Rows
variable {v x:V}{i j:Int}{b:Bool}{tl:TA}{g:TG}{A B:Prop}{p q a:Addr}{o:HO}{H':Hp}{xs:List V}{T:String}{R:It->Hp->Prop}{X:Cx}{y x0 x1 x2 x3 x4 x5 x6 x7 x8 x9 Lm:Option V}
section
variable {X:Cx}{tg:Expr}
end
section
variable {K:aD}{nx bk ct:St->Hp->Prop}{rt:VK}{σ:St}{H:Hp}{Q:VK}{P:Bool->Hp->Prop}{ta tb tc te:TE}{t u:TS}{c d:TT}
def W7(h:nx σ H):M7 ⟨nx,rt,bk,ct⟩ σ H:=h
def ql(J:St->Hp->Prop)(h:t ⟨J,rt,bk,ct⟩ σ H)(k:∀σ' H',J σ' H'->u ⟨nx,rt,bk,ct⟩ σ' H'):Pj t u ⟨nx,rt,bk,ct⟩ σ H:=⟨J,h,k⟩
def aae(h:te σ H rt):R4 te ⟨nx,rt,bk,ct⟩ σ H:=h
def W8(h:te σ H λ_ H1=>nx σ H1):M8 te ⟨nx,rt,bk,ct⟩ σ H:=h
def s_c(h:Q v H):tC v σ H Q:=h
def ab2{r:R2}(h:ta σ H λx H1=>tb σ H1 λy H2=>r x y H2 Q):OX r ta tb σ H Q:=h
def ab3{r:V->Hp->VK->Prop}(h:ta σ H λx H1=>r x H1 Q):Z6 r ta σ H Q:=h
def s_u{g:Int->V}(h:Q (g i) H):rU g (.int i) H Q:=⟨i,rfl,h⟩
def wQ(P:Bool->Hp->Prop):VK:=λx H=>∃k,x=.bl k/\P k H
def aaf(h:P b H):wQ P (.bl b) H:=⟨b,rfl,h⟩
def W9(h:te σ H (wQ P)):GQ te σ H P:=h
def s_b(h:te σ H (wQ P)):tB te σ H P:=h
def aag(h:c σ H λb H1=>if b=true then d σ H1 P else P false H1):RZ c d σ H P:=h
def ab4(h:c σ H λb H1=>if b=true then P true H1 else d σ H1 P):Z1 c d σ H P:=h
def aah(h:c σ H λb H1=>P (!b) H1):R1 c σ H P:=h
def aai(h:c σ H λb H1=>if b=true then ta σ H1 Q else tb σ H1 Q):Z2 c ta tb σ H Q:=h
def Xa(h:ta σ H (wQ λb H1=>if b=true then tb σ H1 Q else Q (.bl false) H1)):M5 ta tb σ H Q:=h
def aaj(h:ta σ H (wQ λb H1=>if b=true then Q (.bl true) H1 else tb σ H1 Q)):R3 ta tb σ H Q:=h
def VB{r r':R2}(h:ta σ H λx H1=>tb σ H1 λy H2=>r x y H2 (wQ λb H3=>if b=true then tc σ H3 (λz H4=>r' y z H4 Q) else Q (.bl false) H3)):GR r r' ta tb tc σ H Q:=h
def ab5{g:Int->Int->V}(h:Q (g i j) H):K8 g (.int i) (.int j) H Q:=⟨i,j,rfl,rfl,h⟩
def s_i{C:Int->Int->Prop}{g:Int->Int->V}(hc:C i j)(h:Q (g i j) H):rI C g (.int i) (.int j) H Q:=⟨i,j,rfl,rfl,hc,h⟩
def aak(h:Q (.bl (decide (i=j))) H):WO (.int i) (.int j) H Q:=⟨rfl,by rw[show decide (V.int i=V.int j)=decide (i=j) by simp];exact h⟩
def aal{i j:Str}(h:Q (.bl (decide (i=j))) H):WO (.str i) (.str j) H Q:=⟨rfl,by rw[show decide (V.str i=V.str j)=decide (i=j) by simp];exact h⟩
def aam{i j:Str}(h:Q (.bl (!decide (i=j))) H):Z7 (.str i) (.str j) H Q:=⟨rfl,by rw[show decide (V.str i=V.str j)=decide (i=j) by simp];exact h⟩
def s_call{sp:Sp}{E:XK}(h:tl σ H λvs H1=>sp vs H1 Q E):GV sp [] E tl σ H Q:=by show tl σ H λvs H1=>sp (vs++[]) H1 Q E;simpa only[i0] using h
def aan{R:List V->Hp->Prop}(h:R [] H):So σ H R:=h
def Xb{R:List V->Hp->Prop}(h:ta σ H λx H1=>tl σ H1 λxs H2=>R (x::xs) H2):Nd ta tl σ H R:=h
def ab6{r:List V->Hp->VK->Prop}(h:tl σ H λvs H1=>r vs H1 Q):WS r tl σ H Q:=h
def aao(h:te σ H λx H1=>g x σ H1 nx):OW te g ⟨nx,rt,bk,ct⟩ σ H:=h
def CY(h1:b=true->A)(h2:b=false->B):if b=true then A else B:=by
 cases b
 .rw[if_neg jT];exact h2 rfl
 .rw[if_pos rfl];exact h1 rfl
def Bq{p:Prop}[Decidable p](h1:p->A)(h2:¬p->B):if decide p=true then A else B:=CY (λh=>h1 (of_decide_eq_true h)) λh=>h2 (of_decide_eq_false h)
def Xc{p:Prop}[Decidable p](hp:p)(h:A):if decide p=true then A else B:=Bq (λ_=>h) λn=>absurd hp n
def Xd{p:Prop}[Decidable p](hp:¬p)(h:B):if decide p=true then A else B:=Bq (λn=>absurd n hp) λ_=>h
def Br{p:Prop}[Decidable p](h1:¬p->A)(h2:p->B):if(!decide p)=true then A else B:=CY (λh=>h1 (by simpa using h)) λh=>h2 (by simpa using h)
def Xe{p:Prop}[Decidable p](hp:¬p)(h:A):if(!decide p)=true then A else B:=Br (λ_=>h) λn=>absurd n hp
def Xf{p:Prop}[Decidable p](hp:p)(h:B):if(!decide p)=true then A else B:=Br (λn=>absurd hp n) λ_=>h
def aap(h:B):if(!true)=true then A else B:=WY h
def aaq(h:A):if(!false)=true then A else B:=Ph h
def fh(H:Hp)(p:Addr)(o:HO)(H':Hp):Prop:=H p=none/\H'=upd H p o
def pC(H:Hp)(p:Addr)(o:HO)(H':Hp):Prop:=H'=upd H p o
def fh.self(n:fh H p o H'):H' p=some o:=by rw[n.2];exact jU
def fh.keep{v:HO}(n:fh H p o H')(h:H q=some v):H' q=some v:=by rw[n.2,ck (aW h n.1)];exact h
def fh.same(n:fh H p o H'):aB H H':=λ_ _ h=>n.keep h
theorem fh.none{H':Hp}(n:fh H p o H')(h:H' q=Option.none):H q=Option.none:=n.same.free h
def fh.ne{v:HO}{H':Hp}(n:fh H p o H')(h:H q=some v):q≠p:=aW h n.1
def pC.self(n:pC H p o H'):H' p=some o:=by rw[show H'=upd H p o from n];exact jU
def pC.keep{v:HO}(n:pC H p o H')(ne:q≠p)(h:H q=some v):H' q=some v:=by rw[show H'=upd H p o from n,ck ne];exact h
theorem pC.none{v:HO}(n:pC H p o H')(hp:H p=some v)(h:H q=Option.none):H' q=Option.none:=by rw[show H'=upd H p o from n,ck (λe=>by rw[e,hp] at h;cases h)];exact h
def SY(xs:List V)(H:Hp)(Q:VK):Prop:=xs.length<=sizeLine/\∀p,H p=none->Q (.ref p) (upd H p (.tup xs))
def S0(xs:List V)(H:Hp)(Q:VK):Prop:=xs.length<=sizeLine/\∀p,H p=none->Q (.ref p) (upd H p (.lst xs))
def aar(h:tl σ H λxs H1=>SY xs H1 Q):Sq tl σ H Q:=h
def aas(h:tl σ H λxs H1=>S0 xs H1 Q):Ss tl σ H Q:=h
def Xg(hz:xs.length<=1000)(h:∀p H',fh H p (.tup xs) H'->Q (.ref p) H'):SY xs H Q:=⟨bJ hz (by decide),λp hp=>h p _ ⟨hp,rfl⟩⟩
def Xh(hz:xs.length<=1000)(h:∀p H',fh H p (.lst xs) H'->Q (.ref p) H'):S0 xs H Q:=⟨bJ hz (by decide),λp hp=>h p _ ⟨hp,rfl⟩⟩
def cJ(hS:bE K H p xs)(hv:nF xs i=some v)(h:Q v H):O8 K (.ref p) (.int i) H Q:=⟨p,xs,i,v,rfl,rfl,hS,hv,h⟩
def vc(hS:cM K H p xs)(hv:nF xs i=some v)(h:Q v H):O9 K (.ref p) (.int i) H Q:=⟨p,xs,i,v,rfl,rfl,hS,hv,h⟩
def Nq{z:Str}{ch:Nat}(hz:z.length<=1000)(hv:nF z.cps.toList i=some ch)(h:Q (.str ⟨#[ch]⟩) H):Sw (.str z) (.int i) H Q:=⟨z,i,ch,rfl,rfl,bJ hz (by decide),hv,h⟩
def ab7(hS:bE K H p xs\/cM K H p xs)(h1:kQ x=true)(h2:xs.all kQ=true)(h:Q (.bl (uA x xs)) H):Vz K false x (.ref p) H Q:=⟨p,xs,rfl,hS,h1,h2,h⟩
def aat(hS:bE K H p xs\/cM K H p xs)(h1:kQ x=true)(h2:xs.all kQ=true)(h:Q (.bl (!uA x xs)) H):Vz K true x (.ref p) H Q:=⟨p,xs,rfl,hS,h1,h2,h⟩
def ab8{r:V->List V->Hp->VK->Prop}(h:ta σ H λx H1=>Rv K T x H1/\tl σ H1 λxs H2=>r x xs H2 Q):tBM K T r ta tl σ H Q:=h
def aau{r:V->List V->Hp->VK->Prop}(h:ta σ H λx H1=>Rv K T x H1/\r x [] H1 Q):Sy K T r ta σ H Q:=h
def S1{l:Addr}{y:V}(hl:H l=some (.lst xs))(hz:xs.length<1000000)(h:∀H',pC H l (.lst (xs++[y])) H'->Q .cY H'):CO (.ref l) [y] H Q:=⟨l,xs,y,rfl,rfl,hl,bS hz (by decide),h _ rfl⟩
def s_pop{l:Addr}{y:V}(hl:H l=some (.lst xs))(hy:xs[xs.length-1]?=some y)(h:∀H',pC H l (.lst xs.dropLast) H'->Q y H'):SD (.ref l) [] H Q:=⟨l,xs,y,rfl,rfl,hl,hy,h _ rfl⟩
def S2(K:aD)(R:It->Hp->Prop):V->Hp->Prop:=λx H=>∃a,x=.ref a/\(∃xs,bE K H a xs)/\R (KH K a) H
def S3(K:aD)(R:It->Hp->Prop):V->Hp->Prop:=λx H=>∃a,x=.ref a/\(∃xs,cM K H a xs)/\R (KI K a) H
def Xi{tl:TE}(h:tl σ H (S2 K R)):GK K tl σ H R:=h
def VC{tl:TE}(h:tl σ H (S3 K R)):Sb K tl σ H R:=h
def Pn(hb:b=true)(h:A):if b=true then A else B:=CY (λ_=>h) λn=>by rw[hb] at n;cases n
def Po(hb:b=false)(h:B):if b=true then A else B:=CY (λn=>by rw[hb] at n;cases n) λ_=>h
def Pp(K:aD):List V->Hp->VK->Prop:=λxs H Q=>∃p ys,xs=[.ref p]/\(bE K H p ys\/cM K H p ys)/\Q (.int ys.length) H
def bI:dj X (.builtin "len") (Pp X.K):=wI
def aav{ys:List V}(hS:bE K H p ys\/cM K H p ys)(h:Q (.int ys.length) H):Pp K [.ref p] H Q:=⟨p,ys,rfl,hS,h⟩
def Nr:List V->Hp->VK->Prop:=λxs H Q=>(∃i,xs=[.int i]/\Q (.int i) H)\/∃k,xs=[.bl k]/\Q (.int (if k then 1 else 0)) H
def vd:dj X (.type "int") Nr:=EJ
def Xj(h:Q (.int (if b then 1 else 0)) H):Nr [.bl b] H Q:=.inr ⟨b,rfl,h⟩
def Pq(K:aD):List V->Hp->VK->Prop:=λxs H Q=>∃x T t b,xs=[x,.ty T]/\mH K H x t/\PySem.W.kitOne K t (.type T)=some b/\Q (.bl b) H
def ve:dj X (.builtin "isinstance") (Pq X.K):=Hw
def S4{ty:Value}(ht:mH K H x ty)(e:PySem.W.kitOne K ty (.type T)=some b)(h:Q (.bl b) H):Pq K [x,.ty T] H Q:=⟨x,T,ty,b,rfl,ht,e,h⟩
def CZ(K:aD):List V->Hp->VK->Prop:=λxs H Q=>∃p ys,xs=[.ref p]/\(bE K H p ys\/cM K H p ys)/\∀l,H l=none->Q (.ref l) (upd H l (.lst ys))
def nu:dj X (.type "list") (CZ X.K):=wJ
def S5{ys:List V}(hS:bE K H p ys\/cM K H p ys)(h:∀l H',fh H l (.lst ys) H'->Q (.ref l) H'):CZ K [.ref p] H Q:=⟨p,ys,rfl,hS,λl hl=>h l _ ⟨hl,rfl⟩⟩
def S6(R:It->Hp->Prop):List V->Hp->Prop:=λvs H=>∃j:Int,vs=[.int j] /\ -(2 ^ 62)<=j/\j<2 ^ 62/\R (mL 0 j.toNat) H
def S7(h:tl σ H (S6 R)):Na tl σ H R:=h
def aaw(h1:-(2 ^ 62)<=j)(h2:j<2 ^ 62)(h:R (mL 0 j.toNat) H):S6 R [.int j] H:=⟨j,rfl,h1,h2,h⟩
def Pr(J:It)(g:TG)(tb:TS)(nx:St->Hp->Prop)(rt:VK)(σ:St)(H:Hp):Prop:=∃W:Nat->Nat->St->Hp->Prop,(∃m,W 0 m σ H)/\∀i m σ H,W i m σ H ->
 (J.stop i H/\nx σ H)\/(J.go i H/\∃N:St->Hp->Prop,(∀σ' H',N σ' H'->∃m',m'<m/\W (i+1) m' σ' H')/\∀x H',J.Gz i H x H'->g x σ H' λσ2 H2=>tb ⟨N,rt,nx,N⟩ σ2 H2)
def aax{wi:TI}{tb:TS}(h:wi σ H λJ H1=>Pr J g tb nx rt σ H1):Sd wi g tb ⟨nx,rt,bk,ct⟩ σ H:=h
def qJ{lo:Int}{n:Nat}{tb:TS}(Pv:Nat->St->Hp->Prop)(h0:Pv 0 σ H)
  (hs:∀i σ H,i<n->Pv i σ H->g (.int (lo+i)) σ H λσ2 H2=>tb ⟨Pv (i+1),rt,nx,Pv (i+1)⟩ σ2 H2)(hd:∀σ H,Pv n σ H->nx σ H):Pr (mL lo n) g tb nx rt σ H :=
 EH (D:=⟨nx,rt,nx,nx⟩) Pv h0 hs hd
def f_list{tb:TS}(Pv:Nat->St->Hp->Prop)(h0:Pv 0 σ H)(hl:∀i σ H,i<=xs.length->Pv i σ H->bE K H a xs)
  (hs:∀i x σ H,xs[i]?=some x->Pv i σ H->g x σ H λσ2 H2=>tb ⟨Pv (i+1),rt,nx,Pv (i+1)⟩ σ2 H2)(hd:∀σ H,Pv xs.length σ H->nx σ H):Pr (KH K a) g tb nx rt σ H :=
 GN (D:=⟨nx,rt,nx,nx⟩) Pv h0 hl hs hd
def f_tup{tb:TS}(Pv:Nat->St->Hp->Prop)(h0:Pv 0 σ H)(hl:∀i σ H,i<=xs.length->Pv i σ H->cM K H a xs)
  (hs:∀i x σ H,xs[i]?=some x->Pv i σ H->g x σ H λσ2 H2=>tb ⟨Pv (i+1),rt,nx,Pv (i+1)⟩ σ2 H2)(hd:∀σ H,Pv xs.length σ H->nx σ H):Pr (KI K a) g tb nx rt σ H :=
 K7 (D:=⟨nx,rt,nx,nx⟩) Pv h0 hl hs hd
def Xk{n:Nat}{gs:EE}{R:St->Hp->Prop}(hS:cM K H a xs)(hn:xs.length=n)(h:gs xs σ H R):OV K n gs (.ref a) σ H R:=⟨a,xs,rfl,hS,hn,h⟩
def VD{gs:EE}{vs:List V}{R:St->Hp->Prop}(h:g v σ H λσ' H'=>gs vs σ' H' R):M9 g gs (v::vs) σ H R:=⟨v,vs,rfl,h⟩
def Xl{R:St->Hp->Prop}(h:R σ H):R8 [] σ H R:=⟨rfl,h⟩
def VE{xs:List V}(hS:bE K H p xs)(h:R (KH K p) H):S2 K R (.ref p) H:=⟨p,rfl,⟨xs,hS⟩,h⟩
def Xm{xs:List V}(hS:cM K H p xs)(h:R (KI K p) H):S3 K R (.ref p) H:=⟨p,rfl,⟨xs,hS⟩,h⟩
def ab9{tb:TS}{m:Nat}{W:Nat->St->Hp->Prop}(h:tb ⟨λσ' H'=>∃m',m'<m/\W m' σ' H',rt,nx,λσ' H'=>∃m',m'<m/\W m' σ' H'⟩ σ H):∃N:St->Hp->Prop,(∀σ' H',N σ' H'->∃m',m'<m/\W m' σ' H')/\tb ⟨N,rt,nx,N⟩ σ H:=⟨_,λ_ _ h=>h,h⟩
def l8{tb:TS}(W:Nat->St->Hp->Prop)(h0:∃m,W m σ H)(hs:∀m σ H,W m σ H->c σ H λb H1=>if b=true then ∃N:St->Hp->Prop,(∀σ' H',N σ' H'->∃m',m'<m/\W m' σ' H')/\tb ⟨N,rt,nx,N⟩ σ H1 else nx σ H1):GJ c tb ⟨nx,rt,bk,ct⟩ σ H:=⟨W,h0,hs⟩
def Nt(t u:TS):TS:=Pj t u
def nP{st:Stmt}{rest:List Stmt}{t u:TS}(h1:PS X st t)(h2:uR X rest u):uR X (st::rest) (Nt t u):=iR h1 h2
def Pu(h:t ⟨λσ' H'=>σ'=σ/\H'=H,rt,bk,ct⟩ σ H)(k:u ⟨nx,rt,bk,ct⟩ σ H):Nt t u ⟨nx,rt,bk,ct⟩ σ H:=⟨_,h,λ_ _ e=>by rw[e.1,e.2];exact k⟩
def pC.same{H0:Hp}(n:pC H p o H')(e:aB H0 H)(hp:H0 p=Option.none):aB H0 H':=λb v q=>n.keep (aW q hp) (e b v q)
def aay{xs:List V}(hS:bE K H p xs)(h:A):Rv K "list" (.ref p) H/\A:=⟨.inl ⟨rfl,_,hS⟩,h⟩
def Xn{r:St}(h:Q v H):mG 0 (some v::r) H Q:=⟨v,rfl,h⟩
def acd{r:St}{R:St->Hp->Prop}(h:R (some v::r) H):iy 0 v (y::r) H R:=h
def Xo{r:St}(h:Q v H):mG 1 (x0::some v::r) H Q:=⟨v,rfl,h⟩
def ace{r:St}{R:St->Hp->Prop}(h:R (x0::some v::r) H):iy 1 v (x0::y::r) H R:=h
def Xp{r:St}(h:Q v H):mG 2 (x0::x1::some v::r) H Q:=⟨v,rfl,h⟩
def acf{r:St}{R:St->Hp->Prop}(h:R (x0::x1::some v::r) H):iy 2 v (x0::x1::y::r) H R:=h
def Xq{r:St}(h:Q v H):mG 3 (x0::x1::x2::some v::r) H Q:=⟨v,rfl,h⟩
def Xr{r:St}{R:St->Hp->Prop}(h:R (x0::x1::x2::some v::r) H):iy 3 v (x0::x1::x2::y::r) H R:=h
def Xs{r:St}(h:Q v H):mG 4 (x0::x1::x2::x3::some v::r) H Q:=⟨v,rfl,h⟩
def acg{r:St}{R:St->Hp->Prop}(h:R (x0::x1::x2::x3::some v::r) H):iy 4 v (x0::x1::x2::x3::y::r) H R:=h
def Xu{r:St}(h:Q v H):mG 5 (x0::x1::x2::x3::x4::some v::r) H Q:=⟨v,rfl,h⟩
def ach{r:St}{R:St->Hp->Prop}(h:R (x0::x1::x2::x3::x4::some v::r) H):iy 5 v (x0::x1::x2::x3::x4::y::r) H R:=h
def Xv{r:St}(h:Q v H):mG 6 (x0::x1::x2::x3::x4::x5::some v::r) H Q:=⟨v,rfl,h⟩
def aci{r:St}{R:St->Hp->Prop}(h:R (x0::x1::x2::x3::x4::x5::some v::r) H):iy 6 v (x0::x1::x2::x3::x4::x5::y::r) H R:=h
def Xw{r:St}(h:Q v H):mG 7 (x0::x1::x2::x3::x4::x5::x6::some v::r) H Q:=⟨v,rfl,h⟩
def acj{r:St}{R:St->Hp->Prop}(h:R (x0::x1::x2::x3::x4::x5::x6::some v::r) H):iy 7 v (x0::x1::x2::x3::x4::x5::x6::y::r) H R:=h
def Xx{r:St}(h:Q v H):mG 8 (x0::x1::x2::x3::x4::x5::x6::x7::some v::r) H Q:=⟨v,rfl,h⟩
def ack{r:St}{R:St->Hp->Prop}(h:R (x0::x1::x2::x3::x4::x5::x6::x7::some v::r) H):iy 8 v (x0::x1::x2::x3::x4::x5::x6::x7::y::r) H R:=h
def Xy{r:St}(h:Q v H):mG 9 (x0::x1::x2::x3::x4::x5::x6::x7::x8::some v::r) H Q:=⟨v,rfl,h⟩
def acm{r:St}{R:St->Hp->Prop}(h:R (x0::x1::x2::x3::x4::x5::x6::x7::x8::some v::r) H):iy 9 v (x0::x1::x2::x3::x4::x5::x6::x7::x8::y::r) H R:=h
def VF{r:St}(h:Q v H):mG 10 (x0::x1::x2::x3::x4::x5::x6::x7::x8::x9::some v::r) H Q:=⟨v,rfl,h⟩
def aaz{r:St}{R:St->Hp->Prop}(h:R (x0::x1::x2::x3::x4::x5::x6::x7::x8::x9::some v::r) H):iy 10 v (x0::x1::x2::x3::x4::x5::x6::x7::x8::x9::y::r) H R:=h
def VG{r:St}(h:Q v H):mG 11 (x0::x1::x2::x3::x4::x5::x6::x7::x8::x9::Lm::some v::r) H Q:=⟨v,rfl,h⟩
def aaA{r:St}{R:St->Hp->Prop}(h:R (x0::x1::x2::x3::x4::x5::x6::x7::x8::x9::Lm::some v::r) H):iy 11 v (x0::x1::x2::x3::x4::x5::x6::x7::x8::x9::Lm::y::r) H R:=h
def VH{VI:Option V}{r:St}(h:Q v H):mG 12 (x0::x1::x2::x3::x4::x5::x6::x7::x8::x9::Lm::VI::some v::r) H Q:=⟨v,rfl,h⟩
def aaB{VI:Option V}{r:St}{R:St->Hp->Prop}(h:R (x0::x1::x2::x3::x4::x5::x6::x7::x8::x9::Lm::VI::some v::r) H):iy 12 v (x0::x1::x2::x3::x4::x5::x6::x7::x8::x9::Lm::VI::y::r) H R:=h
end
end L2
namespace ZP
open PySem
variable {Q:Value->Shared->Prop}
def Src(t:Bool)(h:Heap)(a:Addr)(xs:Array Value):Prop:=match t with
 | true=>h.IsTuple a xs
 | false=>h.IsList a xs
def mL(t:Bool)(h:Heap)(it a:Addr)(i:Nat):Prop:=match t with
 | true=>h.IsTupleIter it a i
 | false=>h.IsListIter it a i
def nQ(t:Bool)(a:Addr):Obj:=match t with
 | true=>{ cls:=.type "tuple_iterator", data:=.fields #[.ref a,.int 0 0] }
 | false=>{ cls:=.type "list_iterator", data:=.fields #[.ref a,.int 0 0] }
section
variable {t:Bool}{h h':Heap}{a it:Addr}{xs:Array Value}{i:Nat}
def Src.at(x:Src t h a xs)(k:∀o,h.get? a=some o->h'.get? a=some o):Src t h' a xs:=by
 cases t
 .obtain⟨o,e,r⟩:=x;exact⟨o,k o e,r⟩
 .obtain⟨o,e,r⟩:=x;exact⟨o,k o e,r⟩
def Src.here(x:Src t h a xs):∃o,h.get? a=some o:=by
 cases t
 .obtain⟨o,e,r⟩:=x;exact⟨o,e⟩
 .obtain⟨o,e,r⟩:=x;exact⟨o,e⟩
theorem Src.push(x:Src t h a xs)(o:Obj):Src t (h.push o) a xs:=x.at λ_ e=>c9 _ e
def mL.at(x:mL t h it a i)(k:∀o,h.get? it=some o->h'.get? it=some o):mL t h' it a i:=by
 cases t
 .obtain⟨o,e,r⟩:=x;exact⟨o,k o e,r⟩
 .obtain⟨o,e,r⟩:=x;exact⟨o,k o e,r⟩
def mL.here(x:mL t h it a i):∃o,h.get? it=some o/\∃vs,o.data=.fields vs:=by
 cases t
 .obtain⟨o,e,c,d⟩:=x;exact⟨o,e,_,d⟩
 .obtain⟨o,e,c,d⟩:=x;exact⟨o,e,_,d⟩
def mL.new(e:h.get? it=some (nQ t a)):mL t h it a 0:=by
 cases t
 .exact⟨_,e,rfl,rfl⟩
 .exact⟨_,e,rfl,rfl⟩
end
section
variable {prog:Program}{w:World}{A:Around}{E:Value->Shared->Prop}{s:Shared}{t:Bool}{a it:Addr}{xs:Array Value}{i:Nat}
def C0(x:Src t s.heap a xs)(q:Q (.ref s.heap.objs.size) { s with heap:=s.heap.push (nQ t a) }):wpAny (model prog w) A (pyIter (.ref a)) Q E s:=by
 cases t
 .exact wpAny_pyIter_list x q
 .exact wpAny_pyIter_tuple x q
def alive{T:Addr}{o:Obj}{Q:Option Obj->Shared->Prop}(ho:s.heap.get? T=some o)(h:Q (some o) s):wpAny (model prog w) A (loadIfAlive T) Q E s:=by
 have h':Q (s.heap.get? T) s:=by rw[ho];exact h
 exact λ_ _ _=>h'
def next_item{x:Value}(hit:mL t s.heap it a i)(hs:Src t s.heap a xs)(hx:xs[i]?=some x)
  (hQ:∀h',mL t h' it a (i+1)->Heap.SameBut it s.heap h'->Q x { s with heap:=h' }):wpAny (model prog w) A (Builtin.SmallTypes.nextOf (.ref it)) Q E s:=by
 cases t
 .exact wpAny_nextOf_list_item hit hs hx hQ
 .have hit:s.heap.IsTupleIter it a i:=hit;obtain⟨o,ho,hc,hd⟩:=id hit;obtain⟨ol,yc,_,nl,hdl⟩:=id hs;unfold Builtin.SmallTypes.nextOf;refine aq (wpAny_callSpecial?_slot (name:=Str.ofString "__next__") hit.typeIs wm (wpAny_call_entry wm hit.typeIs F.entry_tuple_iterator_next ?_ (F.args_tuple_iterator_next_1 _)));show wpAny _ _ (field (.ref it) 0 >>= _) _ _ s;refine aq (wpAny_field ho hd (x:=.ref a) rfl ?_);show wpAny _ _ (if(Value.ref a==Value.none)=true then _ else _) _ _ s;rw[if_neg (show ¬((Value.ref a==Value.none)=true) from jT)];show wpAny _ _ (field (.ref it) 1 >>= _) _ _ s;refine aq (wpAny_field ho hd (x:=.int i 0) rfl ?_);show wpAny _ _ (seqItems? (.ref a) >>= _) _ _ s;refine aq (wpAny_seqItems yc hdl ?_);simp only[gF,hx];refine aq (wpAny_setField ho hd (by simp) (aL ⟨x,rfl,aL (hQ _ ?_ (jD ..))⟩));exact⟨_,fE _ ho (iO (dG hd _)),(kh ..).trans hc,by rw[dG hd];simp[rawInt]⟩
def next_end(hh:A.handled=none)(hit:mL t s.heap it a i)(hs:Src t s.heap a xs)(hx:xs[i]?=none)
  (hE:∀h' e,Heap.ExtBut it s.heap h'->(∃o,h'.get? e=some o/\o.cls=.type "StopIteration")->E (.ref e) { s with heap:=h' }):wpAny (model prog w) A (Builtin.SmallTypes.nextOf (.ref it)) Q E s:=by
 cases t
 .exact wpAny_nextOf_list_end hh hit hs hx hE
 .have hit:s.heap.IsTupleIter it a i:=hit;obtain⟨o,ho,hc,hd⟩:=id hit;obtain⟨ol,yc,_,nl,hdl⟩:=id hs;unfold Builtin.SmallTypes.nextOf;refine aq (wpAny_callSpecial?_slot (name:=Str.ofString "__next__") hit.typeIs wm (wpAny_call_entry wm hit.typeIs F.entry_tuple_iterator_next ?_ (F.args_tuple_iterator_next_1 _)));show wpAny _ _ (field (.ref it) 0 >>= _) _ _ s;refine aq (wpAny_field ho hd (x:=.ref a) rfl ?_);show wpAny _ _ (if(Value.ref a==Value.none)=true then _ else _) _ _ s;rw[if_neg (show ¬((Value.ref a==Value.none)=true) from jT)];show wpAny _ _ (field (.ref it) 1 >>= _) _ _ s;refine aq (wpAny_field ho hd (x:=.int i 0) rfl ?_);show wpAny _ _ (seqItems? (.ref a) >>= _) _ _ s;refine aq (wpAny_seqItems yc hdl ?_);simp only[gF,hx];refine aq (wpAny_rule (aq (wpAny_setField ho hd (by simp) ?_)));show wpAny _ _ (newExc (.type "StopIteration") [] >>= _) _ _ _;refine aq ?_;simp only[newExc,newTuple];refine aq (wpAny_newObj_type ?_ (by size_fits));refine aq (m:=firstArgMember _ _) (wpAny_of_eq (a:=Value.none) (by first|rfl|(simp only[firstArgMember];rfl)) ?_);refine wpAny_newObj_type ?_ (by size_fits);simp only[raiseNew];refine aq (wpAny_handled ?_)
  first|rw[show A.in1.handled=none from hh]|rw[hh]
  refine aq (aL (wpAny_throw ?_));exact hE _ _ (((jD ..).extBut.push _).push _) ⟨_,iE _ rfl,rfl⟩
end
abbrev ZO(h:Heap)(z TI TO:Addr)(f0:Value)(f:Bool):Prop :=
 h.get? z=some { cls:=.type "zip", dict:=none,data:=.fields #[f0,.bool f,.bool false,.ref TI,.ref TO],slots:=#[] }
structure Zs (t1 t2:Bool) (TI TO i1 i2 l1 l2:Addr) (i:Nat) (h:Heap):Prop where
 ti:IsPair h TI (.ref i1) (.ref i2)
 to:∃a b,IsPair h TO a b
 a1:mL t1 h i1 l1 i
 a2:mL t2 h i2 l2 i
def Zs.keep{t1 t2:Bool}{TI TO i1 i2 l1 l2:Addr}{i:Nat}{h h':Heap}(x:Zs t1 t2 TI TO i1 i2 l1 l2 i h)(k:∀b,b=TI\/b=TO\/b=i1\/b=i2->∀o,h.get? b=some o->h'.get? b=some o):Zs t1 t2 TI TO i1 i2 l1 l2 i h' :=
 ⟨k _ (.inl rfl) _ x.ti,let⟨a,b,e⟩:=x.to;⟨a,b,k _ (.inr (.inl rfl)) _ e⟩,x.a1.at λo e=>k _ (.inr (.inr (.inl rfl))) o e,x.a2.at λo e=>k _ (.inr (.inr (.inr rfl))) o e⟩
def Rest(z TO i1 i2:Addr)(h h':Heap):Prop:=∀c o,c≠z->c≠TO->c≠i1->c≠i2->h.get? c=some o->h'.get? c=some o
section
variable {prog:Program}{w:World}{A:Around}{E:Value->Shared->Prop}{s:Shared}{t1 t2:Bool}{z TI TO i1 i2 l1 l2:Addr}{i:Nat}{xs ys:Array Value}{x y:Value}
def Hy(D:ZipApart z TI TO i1 i2 l1 l2)(hz:ZO s.heap z TI TO .none false)(st:Zs t1 t2 TI TO i1 i2 l1 l2 i s.heap)(hl1:Src t1 s.heap l1 xs)(hl2:Src t2 s.heap l2 ys)(hx:xs[i]?=some x)(hy:ys[i]?=some y)
  (hQ:∀h',ZO h' z TI TO (rawInt s.heap.objs.size) false->Zs t1 t2 TI TO i1 i2 l1 l2 (i+1) h'->IsPair h' s.heap.objs.size x y->h'.objs.size=s.heap.objs.size+1->Rest z TO i1 i2 s.heap h'->Q (.ref s.heap.objs.size) { s with heap:=h' }):
  wpAny (model prog w) A (Builtin.«zip.__next__» ⟨[.ref z],[]⟩) (λfin s'=>∃v,fin=.done (.ret v)/\Q v s') E s:=by
 obtain⟨hTI,⟨a,b,hTO⟩,h1,h2⟩:=st;show wpAny _ _ (field (.ref z) 2 >>= _) _ _ _;refine aq (wpAny_field hz rfl (x:=.bool false) rfl ?_);show wpAny _ _ (field (.ref z) 3 >>= _) _ _ _;refine aq (wpAny_field hz rfl (x:=.ref TI) rfl ?_);refine aq (wpAny_seqItems hTI rfl ?_);show wpAny _ _ (Builtin.SmallTypes.ownedTupleIsFree (.ref z) >>= _) _ _ _;refine aq ?_;unfold Builtin.SmallTypes.ownedTupleIsFree;refine aq (wpAny_field hz rfl (x:=.none) rfl (aL ?_));simp only[if_true];refine aq (wpAny_rule ?_);refine aq (wpAny_field hz rfl (x:=.ref TO) rfl ?_);refine aq (wpAny_setField_rec hz (by simp) λh₁ yD hs₁=>?_)
 replace yD:ZO h₁ z TI TO .ellipsis false:=yD
 refine aq ?_;simp only[List.zipIdx_cons,List.zipIdx_nil,jG,k6];refine aq (aq (wpAny_onRaise ?_));show wpAny _ _ (Builtin.SmallTypes.nextOf (.ref i1) >>= _) _ _ _;refine aq (next_item (h1.at λo e=>hs₁.extBut _ o D.i1z e) (hl1.at λo e=>hs₁.extBut _ o D.l1z e) hx λh₂ Nu hs₂=>aL ?_);have Hz:IsPair h₂ TO a b:=hs₂.extBut _ _ D.TOi1 (hs₁.extBut _ _ D.TOz hTO);refine aq (wpAny_seqItems Hz rfl ?_);refine aq (wpAny_updateSeq_pair Hz λh₃ Ln pF=>?_)
 replace Ln:IsPair h₃ TO x b:=Ln
 refine aq (wpAny_letGo (aL ?_));refine aq (aq (wpAny_onRaise ?_));show wpAny _ _ (Builtin.SmallTypes.nextOf (.ref i2) >>= _) _ _ _;refine aq (next_item (h2.at λo e=>pF.extBut _ o D.TOi2.symm (hs₂.extBut _ o D.i12.symm (hs₁.extBut _ o D.i2z e)))
  (hl2.at λo e=>pF.extBut _ o D.l2TO (hs₂.extBut _ o D.l2i1 (hs₁.extBut _ o D.l2z e))) hy λh₄ h2₄ Nv=>aL ?_)
 have S8:IsPair h₄ TO x b:=Nv.extBut _ _ D.TOi2 Ln;refine aq (wpAny_seqItems S8 rfl ?_);refine aq (wpAny_updateSeq_pair S8 λh₅ Lo Nx=>?_)
 replace Lo:IsPair h₅ TO x y:=Lo
 refine aq (wpAny_letGo (aL (aL ?_)));refine aq (wpAny_seqItems Lo rfl ?_);refine aq (wpAny_newTuple ?_);have hsz:h₅.objs.size=s.heap.objs.size:=by rw[Nx.1,Nv.1,pF.1,hs₂.1,hs₁.1]
 have hz₅:ZO h₅ z TI TO .ellipsis false:=Nx.extBut _ _ D.TOz.symm (Nv.extBut _ _ D.i2z.symm (pF.extBut _ _ D.TOz.symm (hs₂.extBut _ _ D.i1z.symm yD)));have hk₅:Rest z TO i1 i2 s.heap h₅:=λc o c1 c2 c3 c4 e=>Nx.extBut _ _ c2 (Nv.extBut _ _ c4 (pF.extBut _ _ c2 (hs₂.extBut _ _ c3 (hs₁.extBut _ _ c1 e))));have h1₅:mL t1 h₅ i1 l1 (i+1):=Nu.at λo e=>Nx.extBut _ o D.TOi1.symm (Nv.extBut _ o D.i12 (pF.extBut _ o D.TOi1.symm e));have h2₅:mL t2 h₅ i2 l2 (i+1):=h2₄.at λo e=>Nx.extBut _ o D.TOi2.symm e;have S9:z<h₅.objs.size:=aK hz₅;show wpAny _ _ (Builtin.SmallTypes.ownedTupleHandOut (.ref z) (.ref h₅.objs.size) >>= _) _ _ _;refine aq ?_;unfold Builtin.SmallTypes.ownedTupleHandOut;have hz₆:ZO (h₅.push { cls:=.type "tuple", data:=.seq #[x,y] }) z TI TO .ellipsis false:=c9 _ hz₅;refine aq (wpAny_setField_rec hz₆ (by simp) λh₇ Xz XA=>?_)
 replace Xz:ZO h₇ z TI TO (rawInt h₅.objs.size) false:=Xz
 refine wpAny_setField_rec Xz (by simp) λh₈ VJ XC=>?_
 replace VJ:ZO h₈ z TI TO (rawInt h₅.objs.size) false:=VJ
 have up:∀c o,c≠z->h₅.get? c=some o->h₈.get? c=some o:=λc o c1 e=>XC.extBut _ _ c1 (XA.extBut _ _ c1 (c9 _ e));have hT₈:IsPair h₈ h₅.objs.size x y:=XC.extBut _ _ (jq S9) (XA.extBut _ _ (jq S9) (iE _ rfl));have hz8:h₈.objs.size=h₅.objs.size+1:=by rw[XC.1,XA.1,fF]
 rw[hsz] at VJ hT₈ hz8;refine aL ⟨_,rfl,?_⟩;show Q (.ref h₅.objs.size) _;rw[hsz];exact hQ h₈ VJ ⟨up _ _ D.TIz (hk₅ _ _ D.TIz D.TITO D.TIi1 D.TIi2 hTI),⟨x,y,up _ _ D.TOz Lo⟩,h1₅.at λo e=>up _ o D.i1z e,h2₅.at λo e=>up _ o D.i2z e⟩ hT₈ hz8 λc o c1 c2 c3 c4 e=>up c o c1 (hk₅ c o c1 c2 c3 c4 e)
def VL{f:Bool}{T:Addr}{oT:Obj}(D:ZipApart z TI TO i1 i2 l1 l2)(hz:ZO s.heap z TI TO (rawInt T) f)(hT:s.heap.get? T=some oT)(st:Zs t1 t2 TI TO i1 i2 l1 l2 i s.heap)(hl1:Src t1 s.heap l1 xs)(hl2:Src t2 s.heap l2 ys)(hx:xs[i]?=some x)(hy:ys[i]?=some y)
  (hQ:∀h',ZO h' z TI TO (rawInt T) true->Zs t1 t2 TI TO i1 i2 l1 l2 (i+1) h'->IsPair h' s.heap.objs.size x y->h'.objs.size=s.heap.objs.size+1->Rest z TO i1 i2 s.heap h'->Q (.ref s.heap.objs.size) { s with heap:=h' }):
  wpAny (model prog w) A (Builtin.«zip.__next__» ⟨[.ref z],[]⟩) (λfin s'=>∃v,fin=.done (.ret v)/\Q v s') E s:=by
 obtain⟨hTI,⟨a,b,hTO⟩,h1,h2⟩:=st;show wpAny _ _ (field (.ref z) 2 >>= _) _ _ _;refine aq (wpAny_field hz rfl (x:=.bool false) rfl ?_);show wpAny _ _ (field (.ref z) 3 >>= _) _ _ _;refine aq (wpAny_field hz rfl (x:=.ref TI) rfl ?_);refine aq (wpAny_seqItems hTI rfl ?_);show wpAny _ _ (Builtin.SmallTypes.ownedTupleIsFree (.ref z) >>= _) _ _ _;have fin:∀h₁,ZO h₁ z TI TO (rawInt T) true->Heap.SameBut z s.heap h₁->∀h₂ h₃,mL t1 h₂ i1 l1 (i+1)->Heap.SameBut i1 h₁ h₂->mL t2 h₃ i2 l2 (i+1)->Heap.SameBut i2 h₂ h₃ ->
   Q (.ref h₃.objs.size) { s with heap:=h₃.push { cls:=.type "tuple", data:=.seq #[x,y] } }:=by
  intro h₁ yD hs₁ h₂ h₃ q1 hs₂ q2 pF;have hsz:h₃.objs.size=s.heap.objs.size:=by rw[pF.1,hs₂.1,hs₁.1]
  have up:Rest z TO i1 i2 s.heap (h₃.push { cls:=.type "tuple", data:=.seq #[x,y] }):=λc o c1 c2 c3 c4 e=>c9 _ (pF.extBut _ _ c4 (hs₂.extBut _ _ c3 (hs₁.extBut _ _ c1 e)));have hp:IsPair (h₃.push { cls:=.type "tuple", data:=.seq #[x,y] }) h₃.objs.size x y:=iE _ rfl;rw[hsz] at hp ⊢;refine hQ _ (c9 _ (pF.extBut _ _ D.i2z.symm (hs₂.extBut _ _ D.i1z.symm yD))) ⟨up _ _ D.TIz D.TITO D.TIi1 D.TIi2 hTI,⟨a,b,?_⟩,?_,?_⟩ hp (by rw[fF,hsz]) up
  .exact c9 _ (pF.extBut _ _ D.TOi2 (hs₂.extBut _ _ D.TOi1 (hs₁.extBut _ _ D.TOz hTO)))
  .exact q1.at λo e=>c9 _ (pF.extBut _ o D.i12 e)
  .exact q2.at λo e=>c9 _ e
 refine aq ?_;unfold Builtin.SmallTypes.ownedTupleIsFree;refine aq (wpAny_field hz rfl (x:=rawInt T) rfl ?_);show wpAny _ _ (loadIfAlive ((T:Int).toNat) >>= _) _ _ _;rw[gF];refine aq (alive hT ?_);simp only[Option.isNone_some,bV,if_false];refine aq (wpAny_field hz rfl (x:=.bool f) rfl ?_);cases f
 .rw[if_pos (by decide)];refine aq (wpAny_setField_rec hz (by simp) λh₁ yD hs₁=>aL ?_)
  replace yD:ZO h₁ z TI TO (rawInt T) true:=yD
  rw[if_neg (by decide)];refine aq ?_;simp only[<- kZ,jG,k6];refine aq (aq (wpAny_holding ?_));show wpAny _ _ (Builtin.SmallTypes.nextOf (.ref i1) >>= _) _ _ _;refine aq (next_item (h1.at λo e=>hs₁.extBut _ o D.i1z e) (hl1.at λo e=>hs₁.extBut _ o D.l1z e) hx λh₂ Nu hs₂=>aL ?_);refine aL (aq (aq (wpAny_holding ?_)));show wpAny _ _ (Builtin.SmallTypes.nextOf (.ref i2) >>= _) _ _ _;refine aq (next_item (h2.at λo e=>hs₂.extBut _ o D.i12.symm (hs₁.extBut _ o D.i2z e)) (hl2.at λo e=>hs₂.extBut _ o D.l2i1 (hs₁.extBut _ o D.l2z e)) hy λh₃ XD pF=>aL ?_);refine aL (aL ?_);refine aq (wpAny_newTuple (aL ⟨_,rfl,?_⟩) (hsz:=by show 2<=sizeLine;decide));exact fin h₁ yD hs₁ h₂ h₃ Nu hs₂ XD pF
 .rw[if_neg (by decide)];refine aL ?_;have yD:=hz;have hs₁:Heap.SameBut z s.heap s.heap:=rL ..;let h₁:=s.heap;rw[if_neg (by decide)];refine aq ?_;simp only[<- kZ,jG,k6];refine aq (aq (wpAny_holding ?_));show wpAny _ _ (Builtin.SmallTypes.nextOf (.ref i1) >>= _) _ _ _;refine aq (next_item (h1.at λo e=>hs₁.extBut _ o D.i1z e) (hl1.at λo e=>hs₁.extBut _ o D.l1z e) hx λh₂ Nu hs₂=>aL ?_);refine aL (aq (aq (wpAny_holding ?_)));show wpAny _ _ (Builtin.SmallTypes.nextOf (.ref i2) >>= _) _ _ _;refine aq (next_item (h2.at λo e=>hs₂.extBut _ o D.i12.symm (hs₁.extBut _ o D.i2z e)) (hl2.at λo e=>hs₂.extBut _ o D.l2i1 (hs₁.extBut _ o D.l2z e)) hy λh₃ XD pF=>aL ?_);refine aL (aL ?_);refine aq (wpAny_newTuple (aL ⟨_,rfl,?_⟩) (hsz:=by show 2<=sizeLine;decide));exact fin h₁ yD hs₁ h₂ h₃ Nu hs₂ XD pF
def Lp{f:Bool}{f0:Value}{Q:Fin->Shared->Prop}(hf:f0=.none\/∃(T:Addr)(oT:Obj),f0=rawInt T/\s.heap.get? T=some oT)(hh:A.handled=none)(D:ZipApart z TI TO i1 i2 l1 l2)(hz:ZO s.heap z TI TO f0 f)(st:Zs t1 t2 TI TO i1 i2 l1 l2 i s.heap)(hl1:Src t1 s.heap l1 xs)(hl2:Src t2 s.heap l2 ys)
  (hend:xs[i]?=none\/ys[i]?=none)
  (hE:∀h' e,Rest z TO i1 i2 s.heap h'->(∃o,h'.get? e=some o/\o.cls=.type "StopIteration")->E (.ref e) { s with heap:=h' }):
  wpAny (model prog w) A (Builtin.«zip.__next__» ⟨[.ref z],[]⟩) Q E s:=by
 obtain⟨hTI,⟨a,b,hTO⟩,h1,h2⟩:=st;show wpAny _ _ (field (.ref z) 2 >>= _) _ _ _;refine aq (wpAny_field hz rfl (x:=.bool false) rfl ?_);show wpAny _ _ (field (.ref z) 3 >>= _) _ _ _;refine aq (wpAny_field hz rfl (x:=.ref TI) rfl ?_);refine aq (wpAny_seqItems hTI rfl ?_);show wpAny _ _ (Builtin.SmallTypes.ownedTupleIsFree (.ref z) >>= _) _ _ _;refine aq ?_;unfold Builtin.SmallTypes.ownedTupleIsFree;rcases hf with rfl|⟨T,oT,rfl,hT⟩
 .refine aq (wpAny_field hz rfl (x:=.none) rfl (aL ?_));simp only[if_true];refine aq (wpAny_rule ?_);refine aq (wpAny_field hz rfl (x:=.ref TO) rfl ?_);refine aq (wpAny_setField_rec hz (by simp) λh₁ yD hs₁=>?_)
  replace yD:ZO h₁ z TI TO .ellipsis f:=yD
  refine aq ?_;simp only[List.zipIdx_cons,List.zipIdx_nil,jG,k6];refine aq (aq (wpAny_onRaise ?_));show wpAny _ _ (Builtin.SmallTypes.nextOf (.ref i1) >>= _) _ _ _;cases hx:xs[i]? with
  | none =>
   refine aq (next_end hh (h1.at λo e=>hs₁.extBut _ o D.i1z e) (hl1.at λo e=>hs₁.extBut _ o D.l1z e) hx λh₂ e hs₂ he=>?_);obtain⟨oe,Pw,hce⟩:=he;have hz₂:ZO h₂ z TI TO .ellipsis f:=hs₂ _ _ D.i1z.symm yD;have XE:e≠z:=λx=>by subst x;rw[hz₂] at Pw;cases Pw;simp at hce
   exact wpAny_setField_rec hz₂ (by simp) λh₃ _ pF=>hE h₃ e (λc o c1 _ c3 _ x=>pF.extBut _ _ c1 (hs₂ _ _ c3 (hs₁.extBut _ _ c1 x))) ⟨oe,pF.extBut _ _ XE Pw,hce⟩
  | some x =>
   have hy:ys[i]?=none:=by
    rcases hend with h|h
    .rw[hx] at h;cases h
    .exact h
   refine aq (next_item (h1.at λo e=>hs₁.extBut _ o D.i1z e) (hl1.at λo e=>hs₁.extBut _ o D.l1z e) hx λh₂ Nu hs₂=>aL ?_);have Hz:IsPair h₂ TO a b:=hs₂.extBut _ _ D.TOi1 (hs₁.extBut _ _ D.TOz hTO);refine aq (wpAny_seqItems Hz rfl ?_);refine aq (wpAny_updateSeq_pair Hz λh₃ Ln pF=>?_);refine aq (wpAny_letGo (aL ?_));refine aq (aq (wpAny_onRaise ?_));show wpAny _ _ (Builtin.SmallTypes.nextOf (.ref i2) >>= _) _ _ _;refine aq (next_end hh (h2.at λo e=>pF.extBut _ o D.TOi2.symm (hs₂.extBut _ o D.i12.symm (hs₁.extBut _ o D.i2z e)))
    (hl2.at λo e=>pF.extBut _ o D.l2TO (hs₂.extBut _ o D.l2i1 (hs₁.extBut _ o D.l2z e))) hy λh₄ e Nv he=>?_)
   obtain⟨oe,Pw,hce⟩:=he;have hz₄:ZO h₄ z TI TO .ellipsis f:=Nv _ _ D.i2z.symm (pF.extBut _ _ D.TOz.symm (hs₂.extBut _ _ D.i1z.symm yD));have XE:e≠z:=λx=>by subst x;rw[hz₄] at Pw;cases Pw;simp at hce
   exact wpAny_setField_rec hz₄ (by simp) λh₅ _ Nx=>hE h₅ e (λc o c1 c2 c3 c4 x=>Nx.extBut _ _ c1 (Nv _ _ c4 (pF.extBut _ _ c2 (hs₂.extBut _ _ c3 (hs₁.extBut _ _ c1 x))))) ⟨oe,Nx.extBut _ _ XE Pw,hce⟩
 .refine aq (wpAny_field hz rfl (x:=rawInt T) rfl ?_);show wpAny _ _ (loadIfAlive ((T:Int).toNat) >>= _) _ _ _;rw[gF];refine aq (alive hT ?_);simp only[Option.isNone_some,bV,if_false];refine aq (wpAny_field hz rfl (x:=.bool f) rfl ?_);cases f
  .rw[if_pos (by decide)];refine aq (wpAny_setField_rec hz (by simp) λh₁ yD hs₁=>aL ?_);rw[if_neg (by decide)];refine aq ?_;simp only[<- kZ,jG,k6];refine aq (aq (wpAny_holding ?_));show wpAny _ _ (Builtin.SmallTypes.nextOf (.ref i1) >>= _) _ _ _;cases hx:xs[i]? with
   | none=>exact aq (next_end hh (h1.at λo e=>hs₁.extBut _ o D.i1z e) (hl1.at λo e=>hs₁.extBut _ o D.l1z e) hx λh₂ e hs₂ he=>hE h₂ e (λc o c1 _ c3 _ x=>hs₂ _ _ c3 (hs₁.extBut _ _ c1 x)) he)
   | some x =>
    have hy:ys[i]?=none:=by
     rcases hend with h|h
     .rw[hx] at h;cases h
     .exact h
    refine aq (next_item (h1.at λo e=>hs₁.extBut _ o D.i1z e) (hl1.at λo e=>hs₁.extBut _ o D.l1z e) hx λh₂ Nu hs₂=>aL ?_);refine aL (aq (aq (wpAny_holding ?_)));show wpAny _ _ (Builtin.SmallTypes.nextOf (.ref i2) >>= _) _ _ _;exact aq (next_end hh (h2.at λo e=>hs₂.extBut _ o D.i12.symm (hs₁.extBut _ o D.i2z e)) (hl2.at λo e=>hs₂.extBut _ o D.l2i1 (hs₁.extBut _ o D.l2z e)) hy λh₃ e pF he=>hE h₃ e (λc o c1 _ c3 c4 x=>pF _ _ c4 (hs₂.extBut _ _ c3 (hs₁.extBut _ _ c1 x))) he)
  .rw[if_neg (by decide)];refine aL ?_;let h₁:=s.heap;have hs₁:Heap.SameBut z s.heap s.heap:=rL ..;rw[if_neg (by decide)];refine aq ?_;simp only[<- kZ,jG,k6];refine aq (aq (wpAny_holding ?_));show wpAny _ _ (Builtin.SmallTypes.nextOf (.ref i1) >>= _) _ _ _;cases hx:xs[i]? with
   | none=>exact aq (next_end hh (h1.at λo e=>hs₁.extBut _ o D.i1z e) (hl1.at λo e=>hs₁.extBut _ o D.l1z e) hx λh₂ e hs₂ he=>hE h₂ e (λc o c1 _ c3 _ x=>hs₂ _ _ c3 (hs₁.extBut _ _ c1 x)) he)
   | some x =>
    have hy:ys[i]?=none:=by
     rcases hend with h|h
     .rw[hx] at h;cases h
     .exact h
    refine aq (next_item (h1.at λo e=>hs₁.extBut _ o D.i1z e) (hl1.at λo e=>hs₁.extBut _ o D.l1z e) hx λh₂ Nu hs₂=>aL ?_);refine aL (aq (aq (wpAny_holding ?_)));show wpAny _ _ (Builtin.SmallTypes.nextOf (.ref i2) >>= _) _ _ _;exact aq (next_end hh (h2.at λo e=>hs₂.extBut _ o D.i12.symm (hs₁.extBut _ o D.i2z e)) (hl2.at λo e=>hs₂.extBut _ o D.l2i1 (hs₁.extBut _ o D.l2z e)) hy λh₃ e pF he=>hE h₃ e (λc o c1 _ c3 c4 x=>pF _ _ c4 (hs₂.extBut _ _ c3 (hs₁.extBut _ _ c1 x))) he)
def Lq{Q:Option Value->Shared->Prop}{Q':Value->Shared->Prop}(hT:s.TypeIs (.ref z) "zip")(h:wpAny (model prog w) A.in1 (Builtin.«zip.__next__» ⟨[.ref z],[]⟩) (λfin s'=>∃v,fin=.done (.ret v)/\Q' v s') (λ_ _=>False) s)(q:∀v s',Q' v s'->Q (some v) s'):wpAny (model prog w) A (pyNext (.ref z)) Q E s:=by unfold pyNext;refine aq (wpAny_attempt (wpAny_callSpecial?_slot (name:=Str.ofString "__next__") hT F.slot_zip_next (wpAny_call_entry F.slot_zip_next hT F.entry_zip_next (wpAny_mono h (λfin s' h'=>?_) λ_ _ h'=>h'.elim) (F.args_zip_next_1 _))));obtain⟨v,rfl,h'⟩:=h';exact⟨v,rfl,aL (q v s' h')⟩
def Px{Q:Option Value->Shared->Prop}(hT:s.TypeIs (.ref z) "zip")(h:wpAny (model prog w) A.in1 (Builtin.«zip.__next__» ⟨[.ref z],[]⟩) (λ_ _=>False) (λe s'=>∃a o,e=.ref a/\s'.heap.get? a=some o/\o.cls=.type "StopIteration" /\ Q none s') s):wpAny (model prog w) A (pyNext (.ref z)) Q E s:=by unfold pyNext;refine aq (wpAny_attempt (wpAny_callSpecial?_slot (name:=Str.ofString "__next__") hT F.slot_zip_next (wpAny_call_entry F.slot_zip_next hT F.entry_zip_next (wpAny_mono h (λ_ _ h'=>h'.elim) λe s' h'=>?_) (F.args_zip_next_1 _))));obtain⟨a,o,rfl,ho,hc,q⟩:=h';refine aq (wpAny_isInstance (T := "StopIteration") (b:=true) ⟨o,ho,hc⟩ isSubtype_stop ?_);exact aL q
end
section
variable {prog:Program}{w:World}{A:Around}{E:Value->Shared->Prop}{s:Shared}{t1 t2:Bool}{l1 l2:Addr}{xs ys:Array Value}
abbrev VM(t1:Bool)(h:Heap)(l1:Addr):Heap:=h.push (nQ t1 l1)
abbrev VN(t1 t2:Bool)(h:Heap)(l1 l2:Addr):Heap:=(VM t1 h l1).push (nQ t2 l2)
abbrev VO(t1 t2:Bool)(h:Heap)(l1 l2:Addr):Heap:=(VN t1 t2 h l1 l2).push { cls:=.type "tuple", data:=.seq #[.ref h.objs.size,.ref (VM t1 h l1).objs.size] }
abbrev VP(t1 t2:Bool)(h:Heap)(l1 l2:Addr):Heap:=(VO t1 t2 h l1 l2).push { cls:=.type "tuple", data:=.seq #[.none,.none] }
abbrev Py(t1 t2:Bool)(h:Heap)(l1 l2:Addr):Heap:=(VP t1 t2 h l1 l2).push { cls:=.type "zip", data:=.fields #[.none,.bool false,.bool false,.ref (VN t1 t2 h l1 l2).objs.size,.ref (VO t1 t2 h l1 l2).objs.size] }
def EX(t1 t2:Bool)(l1 l2:Addr)(xs ys:Array Value):
  Meets (Builtin.«zip.__new__» ⟨[.type "zip", .ref l1,.ref l2],[]⟩) (λ_ R s=>Src t1 s.heap l1 xs/\Src t2 s.heap l2 ys /\
   R (.ok (.ret (.ref (VP t1 t2 s.heap l1 l2).objs.size))) { s with heap:=Py t1 t2 s.heap l1 l2 }) :=
 .of_wp λprog w A R s h=>by
  obtain⟨hp,g,d,tk,os⟩:=s;obtain⟨hl1,hl2,h⟩:=h;have hsub:=sub_zip;have Pz:Src t1 (Shared.heap ⟨hp,g,d,tk,os⟩) l1 xs:=hl1;have Ny:Src t2 (Shared.heap ⟨hp.push (nQ t1 l1),g,d,tk,os⟩) l2 ys:=Src.push hl2 _
  wp_walk using C0 Pz,C0 Ny
  exact⟨_,rfl,h⟩
def HA(hl1:Src t1 s.heap l1 xs)(hl2:Src t2 s.heap l2 ys)
  (h:∀h',ZO h' (s.heap.objs.size+4) (s.heap.objs.size+2) (s.heap.objs.size+3) .none false->Zs t1 t2 (s.heap.objs.size+2) (s.heap.objs.size+3) s.heap.objs.size (s.heap.objs.size+1) l1 l2 0 h' ->
   h'.objs.size=s.heap.objs.size+5->(∀c o,s.heap.get? c=some o->h'.get? c=some o)->Q (.ref (s.heap.objs.size+4)) { s with heap:=h' }):
  wpAny (model prog w) A (call (.type "zip") [.ref l1,.ref l2]) Q E s:=by
 refine callType_new F.called_zip (by decide) (F.typeCall_zip_2 _ _) (F.newCall_zip_2 _ _) (λobj=>F.args_object_init_3 obj _ _) F.entry_zip_new
  (EX t1 t2 l1 l2 xs ys) ⟨hl1,hl2,?_⟩
 have z1:(VM t1 s.heap l1).objs.size=s.heap.objs.size+1:=fF ..;have z2:(VN t1 t2 s.heap l1 l2).objs.size=s.heap.objs.size+2:=by rw[fF,z1]
 have z3:(VO t1 t2 s.heap l1 l2).objs.size=s.heap.objs.size+3:=by rw[fF,z2]
 have z4:(VP t1 t2 s.heap l1 l2).objs.size=s.heap.objs.size+4:=by rw[fF,z3]
 have z5:(Py t1 t2 s.heap l1 l2).objs.size=s.heap.objs.size+5:=by rw[fF,z4]
 have g5:(Py t1 t2 s.heap l1 l2).get? (VP t1 t2 s.heap l1 l2).objs.size=some _:=iE _ rfl;have g4:(Py t1 t2 s.heap l1 l2).get? (VO t1 t2 s.heap l1 l2).objs.size=some _:=c9 _ (iE _ rfl);have g3:(Py t1 t2 s.heap l1 l2).get? (VN t1 t2 s.heap l1 l2).objs.size=some _:=c9 _ (c9 _ (iE _ rfl));have r2:(nQ t2 l2).isFreed=false:=by cases t2<;>rfl
 have r1:(nQ t1 l1).isFreed=false:=by cases t1<;>rfl
 have g2:(Py t1 t2 s.heap l1 l2).get? (VM t1 s.heap l1).objs.size=some (nQ t2 l2):=c9 _ (c9 _ (c9 _ (iE _ r2)));have g1:(Py t1 t2 s.heap l1 l2).get? s.heap.objs.size=some (nQ t1 l1):=c9 _ (c9 _ (c9 _ (c9 _ (iE _ r1))));show _/\_;rw[z2,z3,z4] at g5;rw[z1,z2] at g3;rw[z3] at g4;rw[z1] at g2;rw[z4];exact⟨⟨_,g5,rfl⟩,h _ g5 ⟨g3,⟨_,_,g4⟩,mL.new g1,mL.new g2⟩ z5 λc o x =>
  c9 _ (c9 _ (c9 _ (c9 _ (c9 _ x))))⟩
end
section
variable {prog:Program}{w:World}{A:Around}{E:Value->Shared->Prop}{s:Shared}{I:Addr}{T:String}{St:Heap->Prop}
end
end ZP
def BT.Tc:PySem.bootBuiltins "zip" = some (.type "zip"):=by decide +kernel
namespace L2
open PySem PySem.Spec PyProof.Rows
variable {b a p:Addr}{xs:List V}{R:Option Int->Hp->Prop}{i:Int}{scope:Scope}{cl:List (Str×Addr)}{fr:List Str}{ix:List Nat}{v:V}{tt:TT}
section
variable {X:Cx}{pins:List (Addr×Obj)}{σ:St}{H:Hp}{s:Shared}{h':Heap}
def Inv.qK{t':Nat}{fp:List Addr}(I:Inv X pins σ H s)(k:∀b o,b∉fp->s.heap.get? b=some o->h'.get? b=some o)(hf:∀b∈fp,iH X pins H b):Inv X pins σ H { s with heap:=h',toks:=t' }:=by
 have RY:∀b u,H b=some u->b∉fp:=λb u e z=>by rw[(hf b z).1] at e;cases e
 refine I.step (g':=s.gens) (d':=s.drawn) (ch:=fp) (λb hb=>?_) (λb o _ _ hc e _=>k b o hc e) (λb o _ _ hc e _=>⟨o.slots,k b o hc e⟩) (λ_ _ _ _ n=>n)
  (λb o hc e=>⟨o,k b o hc e⟩) (λ_ _ e=>e) (λ_ _ _ e=>e) (λb ps e=>⟨#[],by rw[e];simp⟩) (λm hm=>?_) (λb u e=>?_) I.bare
 .exact⟨(hf b hb).2.2.2.1,(hf b hb).2.1,(hf b hb).2.2.2.2.1,(hf b hb).2.2.2.2.2⟩
 .obtain⟨o,es,ep,ho,r⟩:=hm;exact⟨o,es,ep,k _ o (λz=>(hf _ z).2.1 rfl) ho,r⟩
 .refine(I.hok b u e).stay (λc v hc q=>k c v ?_ q) (λ_ q=>q) λ_ _ q=>q;rcases hc with z|z
  .rw[z];exact RY b u e
  .exact RY c _ z
theorem iH.upd{T:Addr}{o:HO}(f:iH X pins H b)(h:b≠T):iH X pins (L2.upd H T o) b:=⟨by rw[ck h];exact f.1,f.2⟩
def EY(t:Bool)(K:aD)(H:Hp)(a:Addr)(xs:List V):Prop:=match t with
 | true=>cM K H a xs
 | false=>bE K H a xs
def aB.XF{K:aD}{H H':Hp}(e:aB H H')(h:cM K H a xs):cM K H' a xs:=by
 rcases h with(h|⟨o,h⟩)|h
 .exact .inl (.inl (e _ _ h))
 .exact .inl (.inr ⟨o,e _ _ h⟩)
 .exact .inr h
def Inv.src{t:Bool}(I:Inv X pins σ H s)(h:EY t X.K H a xs):∃its:List Value,Vals xs its/\ZP.Src t s.heap a its.toArray/\xs.length<=sizeLine:=by
 cases t
 .obtain⟨its,r,pl,z⟩:=I.list h;exact⟨its,r,pl.isList,z⟩
 .obtain⟨its,r,pl,z⟩:=I.tuple h;exact⟨its,r,pl,z⟩
def bQ(H:Hp)(ps:List Addr)(xs ys:List V)(i:Nat):Prop:=ps.length=i/\∀(j:Nat)(p:Addr),ps[j]?=some p->∃x y,xs[j]?=some x/\ys[j]?=some y/\H p=some (.tup [x,y])
def sF:jS X (binaryOp .FloorDiv) (rI (λ_ j=>0<j/\j<18446744073709551616) λi j=>.int (i / j)):=Sg λi j _ _ _ _ _ hc q=>by have h1:(0:Int)<j:=hc.1;have h2:j<18446744073709551616:=hc.2;refine floordiv_int (by omega) (by rw[Int.fdiv_eq_ediv_of_nonneg i (by omega)];exact q) (.inl (PyProof.noPylong_of_log2 ?_));have h3:j.natAbs.log2<64:=(Nat.log2_lt (by omega)).mpr (by omega);omega
end
section
variable {K:aD}{nx bk ct:St->Hp->Prop}{rt:VK}{σ:St}{H:Hp}{Q:VK}{te:TE}{t u:TS}
def Nz(R:Option Int->Hp->Prop):V->Hp->Prop:=λx H=>∃i,x=.int i/\R (some i) H
def XG(h:te σ H (Nz R)):Nh te σ H R:=h
def VQ(h:R (some i) H):Nz R (.int i) H:=⟨i,rfl,h⟩
def Td(h:R none H):CM σ H R:=h
end
def EZ{α:Type}(P:α->Prop):List α->Prop
 | []=>True
 | a::l=>P a/\EZ P l
theorem EZ.mem{α:Type}{P:α->Prop}:∀{l:List α},EZ P l->∀a∈l,P a
 | [],_,a,h=>nomatch h
 | b::l,hl,a,h=>by
  rcases aI.mp h with e|h
  .rw[e];exact hl.1
  .exact EZ.mem hl.2 a h
section
variable {X:Cx}
def bD.caps{x:Str}{nm:List Str}(calm:X.calm=true)(clos:closureFor scope X.env=pure cl)(cell:∀y∈scope.names,y.2≠.cell)(kind:scope.kind=.function)
  (names:∀y∈scope.names,y.2=.local->scope.names.lookup y.1=some .local)(loc:scope.names.lookup x=some .local)(nd:(x::fr).Nodup)
  (hcl:EZ (λp=>X.env.cells.lookup p.1=some p.2) cl)(hnm:cl.map (·.1)=nm)(hfree:∀z∈scope.names,z.2=.free->z.1∈nm)(hlen:fr.length=ix.length)
  (hfx:EZ (λp=>X.N[p.2]?=some p.1/\X.env.kindOf p.1=some .cell/\(relabel scope X.env).names.lookup p.1=some .cell) (fr.zip ix)):bD X scope cl x fr ix where
 calm:=calm
 clos:=clos
 cell:=cell
 kind:=kind
 names:=names
 loc:=loc
 nd:=nd
 Ry:=λy c h=>hcl.mem (y,c) (ju h)
 Np:=λy h=>by
  have mem:∀{k:NameKind},(relabel scope X.env).names.lookup y=some k->∃z∈scope.names,(if(z.2==.free&&X.env.scope.kind==.function&&X.env.kindOf z.1==some .cell) then(z.1,NameKind.cell) else(z.1,z.2))=(y,k):=λ{k} e=>by have q:=ju e;obtain⟨z,hz,e⟩:=aF.mp q;exact⟨z,hz,e⟩
  have key:∃z∈scope.names,z.1=y/\z.2=.free:=by
   rcases h with h|h
   .obtain⟨z,hz,e⟩:=mem h;refine⟨z,hz,?_⟩;by_cases hf:(z.2==NameKind.free)=true
    .refine⟨?_,by cases hk:z.2<;>rw[hk] at hf<;>first|rfl|cases hf⟩;split at e
     .exact congrArg Prod.fst e
     .exact congrArg Prod.fst e
    .exfalso;rw[Bool.not_eq_true] at hf;rw[hf,rJ,rJ,if_neg jT] at e;exact cell z hz (congrArg Prod.snd e)
   .obtain⟨z,hz,e⟩:=mem h;refine⟨z,hz,?_⟩;split at e
    .exact absurd (congrArg Prod.snd e) (by intro q;cases q)
    .exact⟨congrArg Prod.fst e,congrArg Prod.snd e⟩
  obtain⟨z,hz,rfl,hk⟩:=key;have hm:=hfree z hz hk;rw[<- hnm] at hm;obtain⟨p,hp,e⟩:=aF.mp hm;cases q:cl.lookup z.1 with
  | some c=>exact⟨c,rfl⟩
  | none =>
   exfalso;have:=List.lookup_eq_none_iff.mp q p hp;rw[e] at this;simp at this
 fx:=λj y h=>by
  have hj:j<fr.length:=(fu h).1;have hi:ix[j]?=some (ix[j]'(by omega)):=by simp
  have hz:(y,ix[j]'(by omega))∈fr.zip ix:=fB (i:=j) (by rw[pI];exact⟨h,hi⟩);obtain⟨a,b,c⟩:=hfx.mem _ hz;exact⟨_,hi,a,.inl b,.inl c⟩
 len:=hlen
end
section
variable {X:Cx}{K:aD}{nx bk ct:St->Hp->Prop}{rt:VK}{σ:St}{H:Hp}{Q:VK}{P:Bool->Hp->Prop}{te ta tb:TE}{t u:TS}
def Lr:R2:=λx y H Q=>y=.cY/\Q (.bl (decide (x=.cY))) H
def HB:R2:=λx y H Q=>y=.cY/\Q (.bl (!decide (x=.cY))) H
def C1:jS X (compareOp .Is) Lr:=O0
def yE:jS X (compareOp .IsNot) HB:=La
def XH(h:Q (.bl true) H):Lr .cY .cY H Q:=⟨rfl,h⟩
def XI(h:Q (.bl false) H):Lr (.ref a) .cY H Q:=⟨rfl,h⟩
def XJ(h:Q (.bl false) H):Lr (.int i) .cY H Q:=⟨rfl,h⟩
def VR(h:Q (.bl false) H):HB .cY .cY H Q:=⟨rfl,h⟩
def VS(h:Q (.bl true) H):HB (.int i) .cY H Q:=⟨rfl,h⟩
def HC(K:aD):List V->Hp->VK->Prop:=λxs H Q=>∃p ys,xs=[.ref p]/\((bE K H p ys/\∀l,H l=none->Q (.ref l) (upd H l (.tup ys)))\/(cM K H p ys/\Q (.ref p) H))
def vf:dj X (.type "tuple") (HC X.K):=uB
def XM{ys:List V}(hS:bE K H p ys)(h:∀l H',fh H l (.tup ys) H'->Q (.ref l) H'):HC K [.ref p] H Q:=⟨p,ys,rfl,.inl ⟨hS,λl hl=>h l _ ⟨hl,rfl⟩⟩⟩
def XN{n:Nat}{gs:EE}{R:St->Hp->Prop}(hS:bE K H a xs)(hn:xs.length=n)(h:gs xs σ H R):SX K n gs (.ref a) σ H R:=⟨a,xs,rfl,hS,hn,h⟩
def aaI{l:Addr}{zs:List V}(h1:H l=some (.lst xs))(h2:H b=some (.lst zs))(hz:xs.length+zs.length<=1000000)(h:∀p H',fh H p (.lst (xs++zs)) H'->Q (.ref p) H'):SE (.ref l) (.ref b) H Q :=
 ⟨l,b,xs,zs,rfl,rfl,h1,h2,bJ hz (by decide),λp hp=>h p _ ⟨hp,rfl⟩⟩
def Te{l:Addr}{zs:List V}(h1:H l=some (.lst xs))(h2:H b=some (.lst zs))(hz:xs.length+zs.length<=1000000)(h:∀H',pC H l (.lst (xs++zs)) H'->Q .cY H'):CP (.ref l) [.ref b] H Q :=
 ⟨l,b,xs,zs,rfl,rfl,h1,h2,bJ hz (by decide),h _ rfl⟩
def Tf(K:aD)(P:Bool->Hp->Prop):VK:=λx H=>∃k,Lb K x H k/\P k H
def Tg(K:aD)(ta:TE):TT:=λσ H Q=>ta σ H λx H'=>∃k,Lb K x H' k/\Q k H'
def vg{a:Expr}(ha:PE X a ta)(he:∀whole,isTrue a X.env whole=(do let v <- whole;standAt a.pos;holding [v] (truthy v))):PT X a (Tg X.K ta):=GU ha he
def aaJ(h:ta σ H (Tf K P)):Tg K ta σ H P:=h
def XO(hS:bE K H p xs)(h:P (!xs.isEmpty) H):Tf K P (.ref p) H:=⟨_,.inl ⟨xs,hS,rfl⟩,h⟩
def acr{r:V->Option Int->Option Int->Hp->VK->Prop}{tl th:TO}(h:te σ H λx H1=>tl σ H1 λl H2=>th σ H2 λu H3=>r x l u H3 Q):tSl r te tl th σ H Q:=h
def aaK{lo hi:Option Int}(hS:bE K H a xs)(h:∀p H',fh H p (.lst (iP xs lo hi)) H'->Q (.ref p) H'):Sx K (.ref a) lo hi H Q:=⟨a,xs,rfl,hS,λp hp=>h p _ ⟨hp,rfl⟩⟩
def XQ{i:Nat}(e:σ[i]?=some (some v))(h:Q v H):mG i σ H Q:=⟨v,e,h⟩
def XR{i:Nat}(h:te σ H λv H1=>iy i v σ H1 nx):Hv te i ⟨nx,rt,bk,ct⟩ σ H:=h
def NB{c:TT}(Jt Jf:Hp->Prop)(h:c σ H λb H1=>if b=true then Jt H1 else Jf H1)(h1:∀H1,Jt H1->t ⟨nx,rt,bk,ct⟩ σ H1)(h2:∀H1,Jf H1->u ⟨nx,rt,bk,ct⟩ σ H1):SO c t u ⟨nx,rt,bk,ct⟩ σ H:=⟨Jt,Jf,h,h1,h2⟩
def XS{to ti:TE}{ts:K6}{R:St->Hp->Prop}(h:to σ H λo H1=>ti σ H1 λi H2=>ts o i v H2 λH3=>R σ H3):R9 to ti ts v σ H R:=h
def kB{k:Int}{j:Nat}{R:Hp->Prop}(hl:H p=some (.lst xs))(hj:EO xs.length k=some j)(h:∀H',pC H p (.lst (xs.set j v)) H'->R H'):Ni (.ref p) (.int k) v H R:=⟨p,xs,k,j,rfl,rfl,hl,hj,h _ rfl⟩
def yF(x y:Str):(x++y).length=x.length+y.length:=by show(x.cps++y.cps).size=x.cps.size+y.cps.size;simp
def NC(h:P true H):Ll σ H P:=h
def Bs(J:It)(tt:TT)(te:TE)(τ:St)(Q:VK)(H:Hp):Prop:=∃W:Nat->Nat->List V->Hp->Prop,(∃m,W 0 m [] H)/\∀i m ys H,W i m ys H ->
 (J.stop i H/\∀p,H p=none->Q (.ref p) (upd H p (.lst ys)))\/(J.go i H/\ys.length<sizeLine/\∃N:List V->Hp->Prop,(∀ys' H',N ys' H'->∃m',m'<m/\W (i+1) m' ys' H') /\
  ∀v H',J.Gz i H v H'->tt (some v::τ) H' λb H3=>if b=true then te (some v::τ) H3 λy H4=>N (ys++[y]) H4 else N ys H3)
def XT{wi:TI}(h:wi σ H λJ H1=>Bs J tt te (cut ix σ) Q H1):Hu wi tt te ix σ H Q:=h
def ia{lo:Int}{n:Nat}{τ:St}(Pv:Nat->List V->Hp->Prop)(h0:Pv 0 [] H)
  (hs:∀i ys H,i<n->Pv i ys H->ys.length<sizeLine/\tt (some (.int (lo+i))::τ) H λb H3=>if b=true then te (some (.int (lo+i))::τ) H3 λy H4=>Pv (i+1) (ys++[y]) H4 else Pv (i+1) ys H3)
  (hd:∀ys H,Pv n ys H->∀p H',fh H p (.lst ys) H'->Q (.ref p) H'):Bs (mL lo n) tt te τ Q H:=by
 refine⟨λi m ys H=>m=n-i/\i<=n/\Pv i ys H,⟨n,by simp,aH _,h0⟩,?_⟩;rintro i m ys H ⟨rfl,hi,p⟩;by_cases hlt:i<n
 .obtain⟨hz,q⟩:=hs i ys H hlt p;refine .inr ⟨hlt,hz,Pv (i+1),λσ' H' p'=>⟨n-(i+1),by omega,rfl,hlt,p'⟩,λx H' y=>?_⟩;obtain⟨e,y⟩:=y;subst e y;exact q
 .have e:i=n:=by omega
  subst e;exact .inl ⟨az _,λq hq=>hd ys H p q _ ⟨hq,rfl⟩⟩
def gI{τ:St}(Pv:Nat->List V->Hp->Prop)(h0:Pv 0 [] H)(hl:∀i ys H,i<=xs.length->Pv i ys H->bE K H a xs)
  (hs:∀i x ys H,xs[i]?=some x->Pv i ys H->ys.length<sizeLine/\tt (some x::τ) H λb H3=>if b=true then te (some x::τ) H3 λy H4=>Pv (i+1) (ys++[y]) H4 else Pv (i+1) ys H3)
  (hd:∀ys H,Pv xs.length ys H->∀p H',fh H p (.lst ys) H'->Q (.ref p) H'):Bs (KH K a) tt te τ Q H:=by
 refine⟨λi m ys H=>m=xs.length-i/\i<=xs.length/\Pv i ys H,⟨xs.length,by simp,aH _,h0⟩,?_⟩;rintro i m ys H ⟨rfl,hi,p⟩;have q:=hl i ys H hi p;by_cases hlt:i<xs.length
 .have hx:xs[i]?=some xs[i]:=by simp[hlt]
  obtain⟨hz,q'⟩:=hs i _ ys H hx p;refine .inr ⟨⟨xs,xs[i],q,hx⟩,hz,Pv (i+1),λσ' H' p'=>⟨xs.length-(i+1),by omega,rfl,hlt,p'⟩,λx H' y=>?_⟩;obtain⟨e,y⟩:=y;subst e;have e2:x=xs[i]:=Option.some.inj ((y xs q).symm.trans hx);subst e2;exact q'
 .have e:i=xs.length:=by omega
  subst e;exact .inl ⟨⟨xs,q,az _⟩,λr hr=>hd ys H p r _ ⟨hr,rfl⟩⟩
end
structure iS (X:Cx) (scope:Scope) (cl:List (Str×Addr)) (xs fr:List Str) (ix:List Nat):Prop where
 calm:X.calm=true
 clos:closureFor scope X.env=pure cl
 cell:∀y∈scope.names,y.2≠.cell
 kind:scope.kind=.function
 names:∀y∈scope.names,y.2=.local->scope.names.lookup y.1=some .local
 nd:(xs++fr).Nodup
 Ry:∀y c,cl.lookup y=some c->X.env.cells.lookup y=some c
 Np:∀y,((relabel scope X.env).names.lookup y=some .cell\/(relabel scope X.env).names.lookup y=some .free)->∃c,cl.lookup y=some c
 fx:∀(j:Nat) y,fr[j]?=some y->∃i:Nat,ix[j]?=some i/\X.N[i]?=some y/\(X.env.kindOf y=some .cell\/X.env.kindOf y=some .free)/\((relabel scope X.env).names.lookup y=some .cell\/(relabel scope X.env).names.lookup y=some .free)
 len:fr.length=ix.length
section
variable {X:Cx}{pins:List (Addr×Obj)}{σ:St}{H:Hp}{s:Shared}
def iS.of{x:Str}{xs:List Str}(O:bD X scope cl x fr ix)(nd:(xs++fr).Nodup):iS X scope cl xs fr ix:=⟨O.calm,O.clos,O.cell,O.kind,O.names,nd,O.Ry,O.Np,O.fx,O.len⟩
def qm{elt iter tg:Expr}{xs:List Str}{g:TG}{ifs:List Expr}{pos:Pos}{te:TE}{E:Value->Shared->Prop}{RR:Value->Addr->Result->Shared->Prop}
  (O:iS X scope cl xs fr ix)(hg:∀C fp s H,PG (mO X (xs++fr) scope cl C fp s H) tg g)(ht:∀C fp s H,PF (mO X (xs++fr) scope cl C fp s H) ifs tt)(he:∀C fp s H,PE (mO X (xs++fr) scope cl C fp s H) elt te)
  {it:Addr}{fp:List Addr}{tn:Nat->Heap->Prop}{J:It}{H2:Hp}{s2:Shared}(I2:Inv X pins σ H2 s2)(T:Turn X.prog X.w X.K tg J fp it tn)(st2:tn 0 s2.heap)(f2:∀b∈fp,iH X pins H2 b)
  (Z:List V->Hp->Prop)(W:Nat->Nat->List V->St->Hp->Prop)(m0:Nat)(w0:W 0 m0 [] (List.replicate xs.length none++cut ix σ) H2)
  (turn:∀i m ys τ H,W i m ys τ H->(J.stop i H/\Z ys H)\/(J.go i H/\ys.length<sizeLine/\∃N:List V->St->Hp->Prop,(∀ys' τ' H',N ys' τ' H'->∃m',m'<m/\W (i+1) m' ys' τ' H') /\
   ∀v H',J.Gz i H v H'->g v τ H' λτ2 H2=>tt τ2 H2 λb H3=>if b=true then te τ2 H3 λy H4=>N (ys++[y]) τ2 H4 else N ys τ2 H3))
  (hRR:∀D C s' ys H',Inv X pins σ (upd H' D (.lst ys)) s'->(∃m,s'.heap.Ns C m)->iH X pins (upd H' D (.lst ys)) C->H' D=none->Z ys H'->RR (.ref D) C (.ok .next) s'):
  wpAny (model X.prog X.w) X.A (newList []) (λacc s₃=>wpAny (model X.prog X.w) X.A (newFunctionEnv scope X.env.globals cl [] X.env.qual none .none (some X.env)) (λcenv s₄ =>
   codeAny (model X.prog X.w) X.A (.compStart (.ListComp elt [⟨tg,iter,ifs,0⟩] scope pos) 0 (.ref it) acc { cenv with scope:=relabel scope X.env }) (RR acc cenv.locals) s₄) E s₃) E s2:=by
 refine wpAny_newObj_type (wpAny_newFunctionEnv O.cell (by intro y hy;simp at hy) (λh₁ Bl wO=>?_) O.kind);dsimp only at Bl wO ⊢;generalize hG:s2.heap.push { cls:=.type "list", dict:=none,data:=.seq ([]:List Value).toArray }=G at Bl wO ⊢;have hC:G.objs.size=s2.heap.objs.size+1:=by rw[<- hG,fF]
 have hDC:s2.heap.objs.size≠G.objs.size:=by rw[hC];exact aQ (g8 _)
 have Bm:s2.heap.objs.size<=G.objs.size:=by rw[hC];exact lu _
 have below:∀b,b<s2.heap.objs.size->b≠G.objs.size/\b≠s2.heap.objs.size:=λb hb=>⟨by rw[hC];exact aQ (jo hb),aQ hb⟩;have old:∀b o,s2.heap.get? b=some o->h₁.get? b=some o:=λb o e=>wO.extBut b o (below b (aK e)).1 (c9 _ (hG▸c9 _ e));have hacc:h₁.get? s2.heap.objs.size=some { cls:=.type "list", data:=.seq ([]:List Value).toArray }:=wO.extBut _ _ hDC (c9 _ (hG▸iE _ rfl));have SQ:H2 s2.heap.objs.size=none:=I2.hok.fresh (az _);have SR:H2 G.objs.size=none:=I2.hok.fresh Bm;have fD:iH X pins H2 s2.heap.objs.size:=I2.nJ (az _) SQ;have fC:iH X pins H2 G.objs.size:=I2.nJ Bm SR;have Bo:∀b∈fp,b<s2.heap.objs.size:=λb hb=>by obtain⟨o,e,_⟩:=T.obj _ _ st2 b hb;exact aK e
 have yy:∀b∈frs X.stack,b∈X.env.locals::X.fs:=I2.wB;have fK:=O.Ry;have ok:(mO X (xs++fr) scope cl G.objs.size fp s2 H2).Ok:=by
  refine⟨I2.ok.mod,O.kind,I2.ok.glob,I2.ok.blt,Bm,λy z c h1 h2=>I2.ok.inj y z c (fK y c h1) (fK z c h2),λy hy=>O.Np y hy,λy c h _=>absurd h jT,λh=>I2.ok.hd h,I2.ok.frames,.inl rfl,λb hb=>?_,I2.bs,bJ I2.ok.KD I2.sz,λb o e hb=>?_,λb hb hs=>?_,I2.stack,I2.wC⟩
  .exact⟨(below b (Bo b hb)).1,λy c e=>(f2 b hb).2.2.2.2.1 y c (fK y c e)⟩
  .rcases(f2 b hb).2.2.2.1 with z|z
   .exact I2.ok.EB b o e z
   .exact absurd (bS (aK (I2.ok.bs b o e).1) z) (fZ _)
  .rcases aI.mp (yy b hs) with z|z
   .exact(f2 b hb).2.1 z
   .exact(f2 b hb).2.2.1 z
 have SS:∀b,s2.heap.objs.size<=b->b∉frs X.stack:=λb hb hs=>by
  rcases aI.mp (yy b hs) with z|z
  .exact absurd (bS I2.lt (z▸hb)) (fZ _)
  .exact I2.OQ hb z
 have Ic:Inv (mO X (xs++fr) scope cl G.objs.size fp s2 H2) [(s2.heap.objs.size,{ cls:=.type "list", data:=.seq ([]:List Value).toArray })] (List.replicate xs.length none++cut ix σ) H2 { s2 with heap:=h₁,toks:=s2.toks+([]:List (Str×Value)).length }:=by
  refine⟨ok,rfl,I2.bare,Un.kept old,⟨_,Bl,λi y v h1 h2 h3=>?_⟩,λy c e=>?_,SR,λy c e=>I2.kP y c (fK y c e),λp hp=>?_,I2.hok.kept old,?_⟩
  .have hk:xs.length<=i:=by
    rcases aY i xs.length with q|q
    .rw[i7 (by simpa using q),List.getElem?_replicate,if_pos q] at h2;cases h2
    .exact q
   .obtain⟨j,rfl⟩:∃j,i=xs.length+j:=⟨i-xs.length,by omega⟩;have h1:fr[j]?=some y:=by
     have h1:(xs++fr)[xs.length+j]?=some y:=h1
     rwa [iF (by omega),Nat.add_sub_cancel_left] at h1
    have h2:(cut ix σ)[j]?=some (some v):=by
     rwa [iF (by simp),List.length_replicate,Nat.add_sub_cancel_left] at h2
    obtain⟨i,e1,e2,k,kc⟩:=O.fx j y h1;obtain⟨c,e3⟩:=O.Np y kc;have e4:σ[i]?=some (some v):=by
     unfold cut at h2;rw[bw,e1] at h2;have h2:some ((σ[i]?).join)=some (some v):=h2;have h2:=Option.some.inj h2;cases q:σ[i]? with
     | none=>rw[q] at h2;cases h2
     | some z=>rw[q] at h2;exact congrArg some h2
    obtain⟨m,_,hl⟩:=I2.loc;obtain⟨u,r,l⟩:=hl i y v e2 e4 (k.elim (λz=>.inr (.inl z)) λz=>.inr (.inr z));refine⟨u,r,.inr ⟨kc,c,e3,?_⟩⟩;rcases l with⟨l1,_⟩|⟨_,c',l2,l3⟩
    .rcases k with k|k<;>(rw[k] at l1;cases l1)
    .have e5:=fK y c e3;rw[l2] at e5;cases e5;obtain⟨o,ho,hd⟩:=l3;exact⟨o,old _ _ ho,hd⟩
  .obtain⟨v,o,ho,hd⟩:=I2.cell y c (fK y c e);exact⟨v,o,old _ _ ho,hd⟩
  .have e:p=(s2.heap.objs.size,{ cls:=.type "list", data:=.seq ([]:List Value).toArray }):=by simpa[mO] using hp
   subst e;exact⟨hacc,SQ,hDC,SS _ (az _),λv z=>by cases z⟩
  .show(List.replicate xs.length none++cut ix σ).length=(xs++fr).length;unfold cut;simp[O.len]
 have Bp:∀b∈fp,b≠s2.heap.objs.size:=λb hb=>(below b (Bo b hb)).2;have r9:∀{pl:List (Addr×Obj)}{H':Hp},(∀p∈pl,p.1=s2.heap.objs.size)->(∀b∈fp,H' b=none)->∀b∈fp,iH (mO X (xs++fr) scope cl G.objs.size fp s2 H2) pl H' b:=λ{pl H'} hp hn b hb =>
  ⟨hn b hb,(below b (Bo b hb)).1,λhs=>ok.EC b hb hs,.inl hb,λy c e=>(f2 b hb).2.2.2.2.1 y c (fK y c e),λp SV z=>Bp b hb (z.symm.trans (hp p SV))⟩
 have one:∀{o:Obj},∀p∈[(s2.heap.objs.size,o)],p.1=s2.heap.objs.size:=λp hp=>by have e:=aA.mp hp;rw[e]
 have loop:codeAny (model X.prog X.w) X.A (.compLoop (.ListComp elt [⟨tg,iter,ifs,0⟩] scope pos) 0 (.ref it) (.ref s2.heap.objs.size) (compEnvC scope cl G.objs.size X.env)) (RR (.ref s2.heap.objs.size) G.objs.size)
   { s2 with heap:=h₁,toks:=s2.toks+([]:List (Str×Value)).length }:=by
  refine nO (λn s'=>∃(i:Nat)(ys:List V)(its:List Value)(c:Nat)(τ:St)(H':Hp),Inv (mO X (xs++fr) scope cl G.objs.size fp s2 H2) [(s2.heap.objs.size,{ cls:=.type "list", data:=.seq its.toArray c })] τ H' s'/\tn i s'.heap/\(∀b∈fp,H' b=none)/\Vals ys its/\ys.length<=sizeLine/\W i n ys τ H') ?_ m0
   ⟨0,[],[],0,_,H2,Ic,T.keep _ _ _ st2 (λb _ o e=>old b o e),λb hb=>(f2 b hb).1,.nil,aH _,w0⟩
  rintro n s3 ⟨i,ys,its,c,τ,H3,I3,st3,Nc,rv,hl3,w3⟩;rcases turn i n ys τ H3 w3 with⟨stop,zz⟩|⟨go,hlt,N,hN,step⟩
  .refine wpAny_mono (T.done (mO X (xs++fr) scope cl G.objs.size fp s2 H2) rfl rfl rfl O.calm i _ s3 _ H3 _ I3 (r9 one Nc) st3 stop) (λr s4 h4=>?_) λ_ _ e=>e;obtain⟨hr,I4⟩:=h4;subst hr;have pD:=I4.pin _ (cA _ (aA.mpr rfl));have IX:Inv X pins σ H3 s4:=I2.M4 I4.os I4.base I4.hok I4.bare λb hb=>⟨(f2 b hb).2.2.2.1,(f2 b hb).2.1,(f2 b hb).2.2.2.2.1,(f2 b hb).2.2.2.2.2⟩;obtain⟨mC,WZ,_⟩:=I4.loc;exact hRR _ _ s4 ys H3 (IX.u0 ⟨pD.2.1,fD.2⟩ ⟨hl3,its,c,rv,pD.1⟩) ⟨mC,WZ⟩ ⟨by rw[ck (bA hDC)];exact I4.free,fC.2⟩ pD.2.1 zz
  .refine wpAny_mono (T.item (mO X (xs++fr) scope cl G.objs.size fp s2 H2) rfl rfl rfl O.calm i _ s3 _ H3 _ I3 (r9 one Nc) st3 go) (λr s4 h4=>?_) λ_ _ e=>e;obtain⟨u,hr,h4⟩:=h4;subst hr;refine wpAny_mono h4 (λ_ s5 h5=>?_) λ_ _ e=>e;obtain⟨v,H5,I5,r5,y5,Ba,Se⟩:=h5;have Sf:=I5.pinned (r9 one Se) (T.obj _ _ Ba);refine wpAny_mono (hg _ _ _ _ _ s5 τ H5 v u _ Sf r5 (step v H5 y5)) (λ_ s6 h6=>?_) λ_ _ f=>False.elim f;obtain⟨τ2,H6,I6,q6⟩:=h6;refine wpAny_mono (ht _ _ _ _ _ s6 _ H6 _ I6 q6) (λok s7 h7=>?_) λ_ _ f=>False.elim f;obtain⟨H7,I7,q7⟩:=h7;cases ok with
   | true =>
    rw[if_pos rfl] at q7 ⊢;refine wpAny_mono (he _ _ _ _ _ s7 _ H7 _ I7 q7) (λuy s8 h8=>?_) λ_ _ f=>False.elim f;obtain⟨y,H8,I8,r8,n8⟩:=h8;have pD:=I8.pin _ (cA _ (mZ _ (aA.mpr rfl)));have rl:=rv.length;refine append_at (hsz:=by rw[aV];omega) pD.1 λh9 SW W2=>?_;obtain⟨m',hm,w9⟩:=hN _ _ _ n8;have Ia:Inv (mO X (xs++fr) scope cl G.objs.size fp s2 H2) (lA fp s5.heap) τ2 H8 s8:=I8.lZ λp hp=>I8.pin p (cA _ (cA _ hp));have Ib:=Ia.turned (h':=h9) (t':=s8.toks) (it:=s2.heap.objs.size) (λb o hb e=>SW.extBut b o hb e) pD.2.1 hDC (.inr (az _)) (λy c e=>fD.2.2.2.2.1 y c (fK y c e))
     λp hp=>by obtain⟨hb,_⟩:=pP (fp:=fp) (h:=s5.heap) (show p∈lA fp s5.heap from hp);exact Bp p.1 hb
    refine⟨m',hm,i+1,ys++[y],its++[uy],c+1,τ2,H8,Ib.lZ λp hp=>?_,T.keep _ _ _ Ba λb hb o e=>?_,λb hb=>?_,rv.append (.cons r8 .nil),by rw[aR,jJ];omega,w9⟩
    .have e:=aA.mp hp;subst e;refine⟨?_,pD.2.1,hDC,pD.2.2.2.1,λv z=>by cases z⟩;have q:its.toArray.push uy=(its++[uy]).toArray:=by simp
     rw[<- q];exact W2
    .exact SW.extBut b o (Bp b hb) (I8.pin (b,o) (cA _ (cA _ (dZ hb e)))).1
    .obtain⟨o,e,d⟩:=T.obj _ _ Ba b hb;exact(I8.pin (b,o) (cA _ (cA _ (dZ hb e)))).2.1
   | false =>
    rw[if_neg jT] at q7 ⊢;obtain⟨m',hm,w9⟩:=hN _ _ _ q7;refine⟨m',hm,i+1,ys,its,c,τ2,H7,I7.lB,T.keep _ _ _ Ba λb hb o e=>?_,λb hb=>?_,rv,hl3,w9⟩
    .exact(I7.pin (b,o) (cA _ (cA _ (dZ hb e)))).1
    .obtain⟨o,e,d⟩:=T.obj _ _ Ba b hb;exact(I7.pin (b,o) (cA _ (cA _ (dZ hb e)))).2.1
 exact codeAny_compStart_list loop (T.self _ 0 _ _ _ (T.keep _ _ _ st2 λb _ o e=>old b o e) loop)
def Bt(wi:TI)(g:TG)(tt:TT)(te:TE)(ix:List Nat)(k:Nat):TE:=λσ H Q=>wi σ H λJ H1=>∃W:Nat->Nat->List V->St->Hp->Prop,(∃m,W 0 m [] (List.replicate k none++cut ix σ) H1)/\∀i m ys τ H,W i m ys τ H ->
 (J.stop i H/\∀p,H p=none->Q (.ref p) (upd H p (.lst ys)))\/(J.go i H/\ys.length<sizeLine/\∃N:List V->St->Hp->Prop,(∀ys' τ' H',N ys' τ' H'->∃m',m'<m/\W (i+1) m' ys' τ' H') /\
  ∀v H',J.Gz i H v H'->g v τ H' λτ2 H2=>tt τ2 H2 λb H3=>if b=true then te τ2 H3 λy H4=>N (ys++[y]) τ2 H4 else N ys τ2 H3)
def yG{elt iter tg:Expr}{xs:List Str}{g:TG}{ifs:List Expr}{pos:Pos}{wi:TI}{te:TE}(O:iS X scope cl xs fr ix)(hi:PI X tg iter wi)(hg:∀C fp s H,PG (mO X (xs++fr) scope cl C fp s H) tg g)
  (ht:∀C fp s H,PF (mO X (xs++fr) scope cl C fp s H) ifs tt)(he:∀C fp s H,PE (mO X (xs++fr) scope cl C fp s H) elt te)
  (hs:∀v,foldedSetIterable iter X.env v=pure v:=by intro _;rfl):PE X (.ListComp elt [⟨tg,iter,ifs,0⟩] scope pos) (Bt wi g tt te ix xs.length):=by intro pins s σ H Q I h;rw[eval_ListComp];refine wpAny_comprehension_free (use:=none) rfl hs O.clos O.kind O.names (cT (hi pins s σ H _ I h) λv s1 h1=>cT h1 λitv s2 h2=>?_);obtain⟨it,fp,tn,J,H2,e,I2,T,st2,f2,W,⟨m0,w0⟩,turn⟩:=h2;subst e;refine qm O hg ht he I2 T st2 f2 (λys H=>∀p,H p=none->Q (.ref p) (upd H p (.lst ys))) W m0 w0 turn λD C s' ys H' I' hm fC hD z=>?_;obtain⟨m,hm⟩:=hm;refine⟨m,hm,λh' hs'=>?_⟩;exact⟨.ref D,_,I'.turned (t':=s'.toks) (it:=C) (λb o hb e=>hs'.extBut b o hb e) fC.1 fC.2.1 fC.2.2.2.1 fC.2.2.2.2.1 fC.2.2.2.2.2,rfl,z D hD⟩
end
end L2
def BT.yH:PySem.bootBuiltins "enumerate" = some (.type "enumerate"):=by decide +kernel
namespace L2
open PySem PySem.Spec PyProof.Rows
variable {w:World}{K:aD}{es:List Expr}{k n:Nat}{pos:Pos}{t1 t2:Bool}{xs ys:List V}{a b:Addr}{R:It->Hp->Prop}{g:TG}{tt:TT}
def Th(K:aD)(t1 t2:Bool)(l1 l2:Addr)(xs ys:List V):It :=
 ⟨λi H=>EY t1 K H l1 xs/\EY t2 K H l2 ys/\i<min xs.length ys.length,
  λi H v H'=>∃p x y,xs[i]?=some x/\ys[i]?=some y/\v=.ref p/\fh H p (.tup [x,y]) H',
  λi H=>EY t1 K H l1 xs/\EY t2 K H l2 ys/\min xs.length ys.length<=i⟩
def HD{P:Program}{z TI TO i1 i2 l1 l2:Addr}(D:ZipApart z TI TO i1 i2 l1 l2):
  Turn P w K (.Tuple es k pos) (Th K t1 t2 l1 l2 xs ys) [z,TI,TO,i1,i2] z (λi h=>ZP.ZO h z TI TO .none false/\ZP.Zs t1 t2 TI TO i1 i2 l1 l2 i h) where
 mem:=by simp
 obj:=λi h st b hb=>by
  obtain⟨hz,hs⟩:=st;obtain⟨a,c,hTO⟩:=hs.to;simp only[aI,fY,or_false] at hb;rcases hb with e|e|e|e|e<;>rw[e]
  .exact⟨_,hz,λv q=>by cases q⟩
  .exact⟨_,hs.ti,λv q=>by cases q⟩
  .exact⟨_,hTO,λv q=>by cases q⟩
  .obtain⟨o,e1,vs,d⟩:=hs.a1.here;exact⟨o,e1,λv q=>by rw[d] at q;cases q⟩
  .obtain⟨o,e1,vs,d⟩:=hs.a2.here;exact⟨o,e1,λv q=>by rw[d] at q;cases q⟩
 keep:=λi h h' st kk=>⟨kk z (by simp) _ st.1,st.2.keep λb hb o e=>kk b (by rcases hb with q|q|q|q<;>simp[q]) o e⟩
 item:=by
  intro X hP hw hK hc i pins s σ H E I hf st hg;subst hP hw hK;obtain⟨q1,q2,hlt⟩:=hg;obtain⟨HE,v1,E1,z1⟩:=I.src q1;obtain⟨its2,v2,E2,z2⟩:=I.src q2;have hx:xs[i]?=some (xs[i]'(by omega)):=by simp
  have hy:ys[i]?=some (ys[i]'(by omega)):=by simp
  generalize xs[i]'(by omega)=x at hx;generalize ys[i]'(by omega)=y at hy;obtain⟨u,hu,ru⟩:=v1.get hx;obtain⟨v,hv,rv⟩:=v2.get hy;obtain⟨hz,hs⟩:=st;refine ZP.Lq ⟨_,hz,rfl⟩ (ZP.Hy (Q:=λr s'=>r=.ref s.heap.objs.size/\∃h',s'={ s with heap:=h' }/\ZP.ZO h' z TI TO (rawInt s.heap.objs.size) false/\ZP.Zs t1 t2 TI TO i1 i2 l1 l2 (i+1) h'/\IsPair h' s.heap.objs.size u v/\ZP.Rest z TO i1 i2 s.heap h')
   D hz hs E1 E2 (by simpa using hu) (by simpa using hv) λh' a1 a2 a3 _ a5=>⟨rfl,h',rfl,a1,a2,a3,a5⟩) λr s' q=>?_
  obtain⟨rfl,h',rfl,hz',st',SV,hr⟩:=q;refine⟨_,rfl,wpAny_letOwnedTupleGo_zip hz' λh2 hz2 hs2=>?_⟩;have hTl:z≠s.heap.objs.size:=aQ (aK hz);have hr2:∀b o,b∉[z,TO,i1,i2]->s.heap.get? b=some o->h2.get? b=some o:=λb o hb e =>
   hs2.extBut b o (λq=>hb (by simp[q])) (hr b o (λq=>hb (by simp[q])) (λq=>hb (by simp[q])) (λq=>hb (by simp[q])) (λq=>hb (by simp[q])) e)
  have I1:Inv X pins σ H { s with heap:=h2,toks:=s.toks }:=I.qK (fp:=[z,TO,i1,i2]) hr2 λb hb=>hf b (by
   simp only[aI,fY,or_false] at hb ⊢;rcases hb with h|h|h|h<;>simp[h])
  have hfr:H s.heap.objs.size=none:=I.hok.fresh (az _);have I2:=I1.u0 (I.nJ (az _) hfr) (o:=.tup [x,y]) ⟨by show 2<=sizeLine;decide,[u,v],.cons ru (.cons rv .nil),⟨_,hs2.extBut _ _ (bA hTl) SV,rfl,_,rfl⟩⟩;obtain⟨a,c,hTO⟩:=st'.to;refine⟨.ref s.heap.objs.size,_,I2,rfl,⟨_,x,y,hx,hy,rfl,hfr,rfl⟩,⟨hz2,st'.keep λb hb o e=>hs2.extBut b o ?_ e⟩,λb hb=>?_⟩
  .rcases hb with q|q|q|q<;>rw[q]
   .exact D.TIz
   .exact D.TOz
   .exact D.i1z
   .exact D.i2z
  .rw[ck ?_]
   .exact(hf b hb).1
   .obtain⟨a0,c0,XU⟩:=hs.to;obtain⟨o1,e1,_⟩:=hs.a1.here;obtain⟨o2,e2,_⟩:=hs.a2.here;have lt:∀{b:Addr}{o:Obj},s.heap.get? b=some o->b≠s.heap.objs.size:=λe=>aQ (aK e);simp only[aI,fY,or_false] at hb;rcases hb with h|h|h|h|h<;>rw[h]
    .exact lt hz
    .exact lt hs.ti
    .exact lt XU
    .exact lt e1
    .exact lt e2
 done:=by
  intro X hP hw hK hc i pins s σ H E I hf st hg;subst hP hw hK;obtain⟨q1,q2,hge⟩:=hg;obtain⟨HE,v1,E1,z1⟩:=I.src q1;obtain⟨its2,v2,E2,z2⟩:=I.src q2;obtain⟨hz,hs⟩:=st;have e1:=v1.length;have e2:=v2.length;refine ZP.Px ⟨_,hz,rfl⟩ (ZP.Lp (.inl rfl) (I.ok.hd hc) D hz hs E1 E2 ?_ λh' e hr he=>?_)
  .rcases Nat.le_total xs.length ys.length with hle|hle
   .refine .inl ?_;simp only[k7];exact jH (by omega)
   .refine .inr ?_;simp only[k7];exact jH (by omega)
  .obtain⟨o,ho,hcl⟩:=he;refine⟨e,o,rfl,ho,hcl,rfl,?_⟩;exact I.qK (t':=s.toks) (fp:=[z,TO,i1,i2]) (λb o hb e=>hr b o (λq=>hb (by simp[q])) (λq=>hb (by simp[q])) (λq=>hb (by simp[q])) (λq=>hb (by simp[q])) e) λb hb=>hf b (by
    simp only[aI,fY,or_false] at hb ⊢;rcases hb with h|h|h|h<;>simp[h])
 self:=λA i s Q E st q=>wpAny_pyIter_zip st.1 q
section
variable {X:Cx}{es:List Expr}{k:Nat}{tpos:Pos}
def PB(K:aD)(R:It->Hp->Prop):List V->Hp->Prop:=λvs H=>∃t1 t2 a b xs ys,vs=[.ref a,.ref b]/\EY t1 K H a xs/\EY t2 K H b ys/\R (Th K t1 t2 a b xs ys) H
def Ti(K:aD)(ta:TA):TI:=λσ H R=>ta σ H (PB K R)
def Bu{a b:Expr}{ta:TA}{p:Pos}(hg:Gl X "zip")(hm:X.mg "zip" = none)(ha:PA X [a,b] ta)
  (he:starEach [a,b] X.env=(false,eval a X.env)::starEach [b] X.env:=by rfl)(hpl:(backTo pos (starEach [b] X.env)).any (·.1)=false:=by rfl):PI X (.Tuple es k tpos) (.Call (.Name "zip" p) [a,b] [] pos) (Ti X.K ta):=by
 intro pins s σ H R I h;refine wpAny_Call_Name_kw (jL I hg hm BT.Tc ?_);refine ki (cT (ha pos pins s σ H _ I h) λus s1 zq=>?_) he hpl;obtain⟨vs,H1,I1,rv,q1⟩:=zq;obtain⟨t1,t2,pa,pb,xs,ys,rfl,hx,hy,q⟩:=q1;obtain⟨u,u',rfl,r1,r2⟩:=vals2 rv;cases r1;cases r2;obtain⟨HE,v1,E1,z1⟩:=I1.src hx;obtain⟨its2,v2,E2,z2⟩:=I1.src hy;obtain⟨o1,e1⟩:=E1.here;obtain⟨o2,e2⟩:=E2.here;refine ZP.HA E1 E2 λh' hz st hsz hk=>?_;have I2:Inv X pins σ H1 { s1 with heap:=h',toks:=s1.toks }:=I1.kept hk;refine wpAny_pyIter_zip hz ⟨_,_,_,_,H1,rfl,I2,HD (zipApart_new (aK e1) (aK e2)),⟨hz,st⟩,λb hb=>?_,q⟩;have fr:∀b,s1.heap.objs.size<=b->iH X pins H1 b:=λb hb=>I1.nJ hb (I1.hok.fresh hb);refine fr b ?_;simp only[aI,fY,or_false] at hb;rcases hb with h|h|h|h|h<;>rw[h]
 .exact nc _ _
 .exact nc _ _
 .exact nc _ _
 .exact az _
 .exact nc _ _
end
def Tj(K:aD)(l:Addr)(xs:List V):It :=
 ⟨λi H=>bE K H l xs/\i<xs.length,λi H v H'=>∃p x,xs[i]?=some x/\v=.ref p/\fh H p (.tup [.int i,x]) H',λi H=>bE K H l xs/\xs.length<=i⟩
def E3{P:Program}{e it l:Addr}(hei:e≠it):
  Turn P w K (.Tuple es k pos) (Tj K l xs) [e,it] e (λi h=>(∃old,IsEnum h e it i old)/\h.IsListIter it l i) where
 mem:=by simp
 obj:=λi h st b hb=>by
  obtain⟨⟨old,he⟩,o,e1,c,d⟩:=st;simp only[aI,fY,or_false] at hb;rcases hb with q|q<;>rw[q]
  .exact⟨_,he,λv q=>by cases q⟩
  .exact⟨o,e1,λv q=>by rw[d] at q;cases q⟩
 keep:=λi h h' st kk=>⟨let⟨old,he⟩:=st.1;⟨old,kk e (by simp) _ he⟩,let⟨o,e1,r⟩:=st.2;⟨o,kk it (by simp) o e1,r⟩⟩
 item:=by
  intro X hP hw hK hc i pins s σ H E I hf st hg;subst hP hw hK;obtain⟨q1,hlt⟩:=hg;obtain⟨HE,v1,pl,z1⟩:=I.list q1;have hx:xs[i]?=some (xs[i]'(by omega)):=by simp
  generalize xs[i]'(by omega)=x at hx;obtain⟨u,hu,ru⟩:=v1.get hx;obtain⟨⟨old,he⟩,hit⟩:=st;have hT1:e≠s.heap.objs.size:=aQ (aK he);have hT2:it≠s.heap.objs.size:=by obtain⟨o,e1,_⟩:=hit;exact aQ (aK e1)
  refine wpAny_pyNext_enum_item he hit pl.isList (by simpa using hu) hei λh' ho yI hT hsz hk=>⟨_,rfl,?_⟩;refine wpAny_letOwnedTupleGo_enum ho λh2 he2 hs2=>?_;have hfr:H s.heap.objs.size=none:=I.hok.fresh (az _);have I1:Inv X pins σ H { s with heap:=h2,toks:=s.toks+1 }:=I.qK (fp:=[e,it]) (λb o hb e1=>hs2.extBut b o (λq=>hb (by simp[q])) (hk b o (λq=>hb (by simp[q])) (λq=>hb (by simp[q])) e1)) λb hb=>hf b hb;have I2:=I1.u0 (I.nJ (az _) hfr) (o:=.tup [.int i,x]) ⟨by show 2<=sizeLine;decide,[.int i s.toks,u],.cons ⟨_,rfl⟩ (.cons ru .nil),⟨_,hs2.extBut _ _ (bA hT1) hT,rfl,_,rfl⟩⟩;refine⟨.ref s.heap.objs.size,_,I2,rfl,⟨_,x,hx,rfl,hfr,rfl⟩,⟨⟨_,by simpa using he2⟩,yI.extBut hs2.extBut (bA hei)⟩,λb hb=>?_⟩;rw[ck ?_]
  .exact(hf b hb).1
  .simp only[aI,fY,or_false] at hb;rcases hb with h|h<;>rw[h]
   .exact hT1
   .exact hT2
 done:=by
  intro X hP hw hK hc i pins s σ H E I hf st hg;subst hP hw hK;obtain⟨q1,hge⟩:=hg;obtain⟨HE,v1,pl,z1⟩:=I.list q1;obtain⟨⟨old,he⟩,hit⟩:=st;have e1:=v1.length;refine wpAny_pyNext_enum_end (I.ok.hd hc) he hit pl.isList ?_ λh' hx=>⟨rfl,?_⟩
  .simp only[k7];exact jH (by omega)
  .exact I.qK (t':=s.toks) (fp:=[e,it]) (λb o hb e1=>hx b o (λq=>hb (by simp[q])) e1) λb hb=>hf b hb
 self:=λA i s Q E st q=>let⟨old,he⟩:=st.1;wpAny_pyIter_enum he q
section
variable {X:Cx}{es:List Expr}{k:Nat}{tpos:Pos}
def PD(K:aD)(R:It->Hp->Prop):List V->Hp->Prop:=λvs H=>∃a xs,vs=[.ref a]/\bE K H a xs/\R (Tj K a xs) H
def ND(K:aD)(ta:TA):TI:=λσ H R=>ta σ H (PD K R)
def kC{a:Expr}{ta:TA}{p:Pos}(hg:Gl X "enumerate")(hm:X.mg "enumerate" = none)(ha:PA X [a] ta)
  (he:starEach [a] X.env=(false,eval a X.env)::starEach [] X.env:=by rfl)(hpl:(backTo pos (starEach [] X.env)).any (·.1)=false:=by rfl):PI X (.Tuple es k tpos) (.Call (.Name "enumerate" p) [a] [] pos) (ND X.K ta):=by
 intro pins s σ H R I h;refine wpAny_Call_Name_kw (jL I hg hm BT.yH ?_);refine ki (cT (ha pos pins s σ H _ I h) λus s1 zq=>?_) he hpl;obtain⟨vs,H1,I1,rv,q1⟩:=zq;obtain⟨pa,xs,rfl,hx,q⟩:=q1;obtain⟨u,rfl,r1⟩:=vals1 rv;cases r1;obtain⟨HE,v1,pl,z1⟩:=I1.list hx;refine call_enumerate_list pl.isList λh' hE hI hsz hk=>?_;have I2:Inv X pins σ H1 { s1 with heap:=h',toks:=s1.toks }:=I1.kept hk;refine wpAny_pyIter_enum hE ⟨_,_,_,_,H1,rfl,I2,E3 (Nat.succ_ne_self _),⟨⟨_,hE⟩,hI⟩,λb hb=>?_,q⟩;have fr:∀b,s1.heap.objs.size<=b->iH X pins H1 b:=λb hb=>I1.nJ hb (I1.hok.fresh hb);refine fr b ?_;simp only[aI,fY,or_false] at hb;rcases hb with h|h<;>rw[h]
 .exact nc _ _
 .exact az _
end
section
variable {X:Cx}
end
mutual
inductive RD (K:aD) (H:Hp):V->PyData->Prop
 | cY:RD K H .cY .none
 | bl (b:Bool):RD K H (.bl b) (.bool b)
 | int (i:Int):RD K H (.int i) (.int i)
 | str (x:Str):RD K H (.str x) (.str x)
 | lst {a:Addr} {xs:List V} {ds:List PyData}:bE K H a xs->qL K H xs ds->RD K H (.ref a) (.list ds)
 | tup {a:Addr} {xs:List V} {ds:List PyData}:cM K H a xs->qL K H xs ds->RD K H (.ref a) (.tuple ds)
inductive qL (K:aD) (H:Hp):List V->List PyData->Prop
 | nil:qL K H [] []
 | cons {x:V} {d:PyData} {xs:List V} {ds:List PyData}:RD K H x d->qL K H xs ds->qL K H (x::xs) (d::ds)
end
section
variable {X:Cx}{pins:List (Addr×Obj)}{σ:St}{H:Hp}{s:Shared}
mutual
theorem RD.reads(I:Inv X pins σ H s):∀{x:V}{d:PyData}{u:Value},RD X.K H x d->RelV x u->∃as,Reads s.heap u d as
 | _,_,_,.cY,r=>by cases r;exact⟨[],.none⟩
 | _,_,_,.bl b,r=>by cases r;exact⟨[],.bool b⟩
 | _,_,_,.int i,r=>by obtain⟨t,rfl⟩:=r;exact⟨[],.int i t⟩
 | _,_,_,.str x,r=>by obtain⟨t,rfl⟩:=r;exact⟨[],.str x t⟩
 | _,_,_,.lst h rs,r=>by
  cases r;obtain⟨its,rv,⟨o,n,e,hc,hd,hs⟩,z⟩:=I.list h;obtain⟨as,q⟩:=qL.reads I rs rv;exact⟨_,.list e hc hs (by simpa using q)⟩
 | _,_,_,.tup h rs,r=>by cases r;obtain⟨its,rv,⟨o,e,hc,n,hs⟩,z⟩:=I.tuple h;obtain⟨as,q⟩:=qL.reads I rs rv;exact⟨_,.tuple e hc hs (by simpa using q)⟩
theorem qL.reads(I:Inv X pins σ H s):∀{xs:List V}{ds:List PyData}{us:List Value},qL X.K H xs ds->Vals xs us->∃as,ReadsAll s.heap us ds as
 | _,_,_,.nil,r=>by cases r;exact⟨[],.nil⟩
 | _,_,_,.cons h rs,r=>by
  cases r with
  | cons r1 r2 =>
   obtain⟨as,q⟩:=RD.reads I h r1;obtain⟨bs,q'⟩:=qL.reads I rs r2;exact⟨_,.cons q q'⟩
end
end
section
variable {K:aD}{H H':Hp}
mutual
theorem RD.same(e:aB H H'):∀{x:V}{d:PyData},RD K H x d->RD K H' x d
 | _,_,.cY=>.cY
 | _,_,.bl b=>.bl b
 | _,_,.int i=>.int i
 | _,_,.str x=>.str x
 | _,_,.lst h rs=>.lst (e.seq h) (qL.same e rs)
 | _,_,.tup h rs=>.tup (e.XF h) (qL.same e rs)
theorem qL.same(e:aB H H'):∀{xs:List V}{ds:List PyData},qL K H xs ds->qL K H' xs ds
 | _,_,.nil=>.nil
 | _,_,.cons h rs=>.cons (RD.same e h) (qL.same e rs)
end
def qL.append{ds es:List PyData}(h:qL K H xs ds)(h':qL K H ys es):qL K H (xs++ys) (ds++es):=by
 induction xs generalizing ds with
 | nil=>cases h;exact h'
 | cons x xs ih=>cases h with
  | cons a b=>exact .cons a (ih b)
end
def Sh(k:Nat)(d:PyData):Prop:=d.canLay0=true/\d.depth<=k
theorem Sh.shaped{d:PyData}(h:Sh k d)(hk:k<=64):SeqAt.shaped d=true:=by unfold SeqAt.shaped;rw[h.1,decide_eq_true (bJ h.2 hk)];rfl
def Sh.mono{j k:Nat}{d:PyData}(h:Sh j d)(hk:j<=k):Sh k d:=⟨h.1,bJ h.2 hk⟩
theorem Sh.int(i:Int):Sh k (.int i):=⟨rfl,aH _⟩
theorem Sh.bool(i:Bool):Sh k (.bool i):=⟨rfl,aH _⟩
def Sh.cY:Sh k .none:=⟨rfl,aH _⟩
theorem Sh.str{x:Str}(h:PyData.strOk x=true):Sh k (.str x):=⟨h,aH _⟩
theorem Sh.all:∀{ds:List PyData},(∀d∈ds,Sh k d)->PyData.canLayAll0 ds=true/\PyData.depthAll ds<=k
 | [],_=>⟨rfl,aH _⟩
 | d::ds,h=>by
  have h1:=h d (by simp);have h2:=Sh.all (ds:=ds) λe he=>h e (dg _ he);refine⟨?_,?_⟩
  .show(PyData.canLay0 d&&PyData.canLayAll0 ds)=true;rw[h1.1,h2.1];rfl
  .show max (PyData.depth d) (PyData.depthAll ds)<=k;exact Nat.max_le.mpr ⟨h1.2,h2.2⟩
theorem Sh.list{ds:List PyData}(h:∀d∈ds,Sh k d):Sh (k+1) (.list ds):=⟨(Sh.all h).1,Nat.succ_le_succ (Sh.all h).2⟩
def Sh.tup{k:Nat}{ds:List PyData}(h:∀d∈ds,Sh k d):Sh (k+1) (.tuple ds):=⟨(Sh.all h).1,Nat.succ_le_succ (Sh.all h).2⟩
def HF(K:aD):R2:=λx y H Q=>∃d e,RD K H x d/\RD K H y e/\SeqAt.shaped d=true/\SeqAt.shaped e=true/\Q (.bl (PyData.eqv d e)) H
def Tn(K:aD):R2:=λx y H Q=>∃d e,RD K H x d/\RD K H y e/\SeqAt.shaped d=true/\SeqAt.shaped e=true/\Q (.bl (!PyData.eqv d e)) H
section
variable {X:Cx}
def Bv(hu:X.A.units+64<cLine):jS X (compareOp .Eq) (HF X.K):=by intro pins s σ H x y v u Q I rx ry h;obtain⟨d,e,hd,he,sd,se,q⟩:=h;obtain⟨as,ra⟩:=hd.reads I rx;obtain⟨bs,rb⟩:=he.reads I ry;exact eq_dataH ra rb sd se hu ⟨.bl _,H,I,rfl,q⟩
def HG(hu:X.A.units+64<cLine):jS X (compareOp .NotEq) (Tn X.K):=by intro pins s σ H x y v u Q I rx ry h;obtain⟨d,e,hd,he,sd,se,q⟩:=h;obtain⟨as,ra⟩:=hd.reads I rx;obtain⟨bs,rb⟩:=he.reads I ry;exact ne_dataH ra rb sd se hu ⟨.bl _,H,I,rfl,q⟩
end
section
variable {K:aD}{nx bk ct:St->Hp->Prop}{rt:VK}{σ:St}{H:Hp}{Q:VK}{P:Bool->Hp->Prop}{ta tb tc te:TE}{t u:TS}
def PJ{x y:V}(d:PyData)(k:Nat)(hk:k<=64)(hx:RD K H x d)(hy:RD K H y d)(hs:Sh k d)(h:Q (.bl true) H):HF K x y H Q:=⟨d,d,hx,hy,hs.shaped hk,hs.shaped hk,by rw[SeqAt.eqv_refl d hs.1];exact h⟩
def HH{x y:V}(d:PyData)(k:Nat)(hk:k<=64)(hx:RD K H x d)(hy:RD K H y d)(hs:Sh k d)(h:Q (.bl false) H):Tn K x y H Q:=⟨d,d,hx,hy,hs.shaped hk,hs.shaped hk,by rw[SeqAt.eqv_refl d hs.1];exact h⟩
def je{lo hi:Option Int}(hS:cM K H a xs)(hw:¬(HT.dB xs.length 0 lo=0/\HT.dB xs.length xs.length hi=xs.length))(h:∀p H',fh H p (.tup (iP xs lo hi)) H'->Q (.ref p) H'):Sv K (.ref a) lo hi H Q:=⟨a,xs,rfl,hS,hw,λp hp=>h p _ ⟨hp,rfl⟩⟩
def To{l:Addr}{k:Int}(hl:H l=some (.lst xs))(h1:-(2 ^ 62)<=k)(h2:k<2 ^ 62)(hz:xs.length*k.toNat<=1000000)(h:∀p H',fh H p (.lst (List.replicate k.toNat xs).flatten) H'->Q (.ref p) H'):SH (.ref l) (.int k) H Q :=
 ⟨l,k,xs,rfl,rfl,hl,by omega,by omega,bJ hz (by decide),λp hp=>h p _ ⟨hp,rfl⟩⟩
def XW{tl:TA}(h:tl σ H (PB K R)):Ti K tl σ H R:=h
def C2(hx:EY t1 K H a xs)(hy:EY t2 K H b ys)(h:R (Th K t1 t2 a b xs ys) H):PB K R [.ref a,.ref b] H:=⟨t1,t2,a,b,xs,ys,rfl,hx,hy,h⟩
def VT{tl:TA}(h:tl σ H (PD K R)):ND K tl σ H R:=h
def aaL(hS:bE K H a xs)(h:R (Tj K a xs) H):PD K R [.ref a] H:=⟨a,xs,rfl,hS,h⟩
def sG{tb:TS}(Pv:Nat->St->Hp->Prop)(h0:Pv 0 σ H)(hl:∀i σ H,i<=xs.length->Pv i σ H->bE K H a xs)
  (hs:∀i x p σ H H',xs[i]?=some x->Pv i σ H->fh H p (.tup [.int i,x]) H'->g (.ref p) σ H' λσ2 H2=>tb ⟨Pv (i+1),rt,nx,Pv (i+1)⟩ σ2 H2)(hd:∀σ H,Pv xs.length σ H->nx σ H):Pr (Tj K a xs) g tb nx rt σ H:=by
 refine⟨λi m σ H=>m=xs.length-i/\i<=xs.length/\Pv i σ H,⟨xs.length,by simp,aH _,h0⟩,?_⟩;rintro i m σ H ⟨rfl,hi,p⟩;have q:=hl i σ H hi p;by_cases hlt:i<xs.length
 .refine .inr ⟨⟨q,hlt⟩,Pv (i+1),λσ' H' p'=>⟨xs.length-(i+1),by omega,rfl,hlt,p'⟩,λx H' y=>?_⟩;obtain⟨pa,x',hx,rfl,n⟩:=y;exact hs i x' pa σ H H' hx p n
 .have e:i=xs.length:=by omega
  subst e;exact .inl ⟨⟨q,az _⟩,hd σ H p⟩
def Tp{tb:TS}(Pv:Nat->St->Hp->Prop)(h0:Pv 0 σ H)(hl:∀i σ H,i<=min xs.length ys.length->Pv i σ H->EY t1 K H a xs/\EY t2 K H b ys)
  (hs:∀i x y p σ H H',xs[i]?=some x->ys[i]?=some y->Pv i σ H->fh H p (.tup [x,y]) H'->g (.ref p) σ H' λσ2 H2=>tb ⟨Pv (i+1),rt,nx,Pv (i+1)⟩ σ2 H2)(hd:∀σ H,Pv (min xs.length ys.length) σ H->nx σ H):Pr (Th K t1 t2 a b xs ys) g tb nx rt σ H:=by
 refine⟨λi m σ H=>m=min xs.length ys.length-i/\i<=min xs.length ys.length/\Pv i σ H,⟨min xs.length ys.length,by simp,aH _,h0⟩,?_⟩;rintro i m σ H ⟨rfl,hi,p⟩;have q:=hl i σ H hi p;by_cases hlt:i<min xs.length ys.length
 .refine .inr ⟨⟨q.1,q.2,hlt⟩,Pv (i+1),λσ' H' p'=>⟨min xs.length ys.length-(i+1),by omega,rfl,hlt,p'⟩,λx H' y=>?_⟩;obtain⟨pa,x',y',hx,hy,rfl,n⟩:=y;exact hs i x' y' pa σ H H' hx hy p n
 .have e:i=min xs.length ys.length:=by omega
  rw[e] at p;exact .inl ⟨⟨q.1,q.2,by omega⟩,hd σ H p⟩
def HJ(J:It)(g:TG)(tt:TT)(te:TE)(τ0:St)(Q:VK)(H:Hp):Prop:=∃W:Nat->Nat->List V->St->Hp->Prop,(∃m,W 0 m [] τ0 H)/\∀i m ys τ H,W i m ys τ H ->
 (J.stop i H/\∀p,H p=none->Q (.ref p) (upd H p (.lst ys)))\/(J.go i H/\ys.length<sizeLine/\∃N:List V->St->Hp->Prop,(∀ys' τ' H',N ys' τ' H'->∃m',m'<m/\W (i+1) m' ys' τ' H') /\
  ∀v H',J.Gz i H v H'->g v τ H' λτ2 H2=>tt τ2 H2 λb H3=>if b=true then te τ2 H3 λy H4=>N (ys++[y]) τ2 H4 else N ys τ2 H3)
def VU{wi:TI}{ix:List Nat}(h:wi σ H λJ H1=>HJ J g tt te (List.replicate k none++cut ix σ) Q H1):Bt wi g tt te ix k σ H Q:=h
def HK{τ0:St}(Pv:Nat->List V->St->Hp->Prop)(h0:Pv 0 [] τ0 H)(hl:∀i zs τ H,i<=min xs.length ys.length->Pv i zs τ H->EY t1 K H a xs/\EY t2 K H b ys/\zs.length<=i)(hz:xs.length<=1000000)
  (hs:∀i x y p zs τ H H',xs[i]?=some x->ys[i]?=some y->Pv i zs τ H->fh H p (.tup [x,y]) H'->g (.ref p) τ H' λτ2 H2=>tt τ2 H2 λb H3=>if b=true then te τ2 H3 λy H4=>Pv (i+1) (zs++[y]) τ2 H4 else Pv (i+1) zs τ2 H3)
  (hd:∀zs τ H,Pv (min xs.length ys.length) zs τ H->∀p H',fh H p (.lst zs) H'->Q (.ref p) H'):HJ (Th K t1 t2 a b xs ys) g tt te τ0 Q H:=by
 refine⟨λi m zs τ H=>m=min xs.length ys.length-i/\i<=min xs.length ys.length/\Pv i zs τ H,⟨min xs.length ys.length,by simp,aH _,h0⟩,?_⟩;rintro i m zs τ H ⟨rfl,hi,p⟩;obtain⟨q1,q2,q3⟩:=hl i zs τ H hi p;by_cases hlt:i<min xs.length ys.length
 .refine .inr ⟨⟨q1,q2,hlt⟩,bS (show zs.length<1000001 by omega) (by decide),Pv (i+1),λzs' τ' H' p'=>⟨min xs.length ys.length-(i+1),by omega,rfl,hlt,p'⟩,λx H' y=>?_⟩;obtain⟨pa,x',y',hx,hy,rfl,n⟩:=y;exact hs i x' y' pa zs τ H H' hx hy p n
 .have e:i=min xs.length ys.length:=by omega
  rw[e] at p;exact .inl ⟨⟨q1,q2,by omega⟩,λr hr=>hd zs τ H p r _ ⟨hr,rfl⟩⟩
def C3{τ0:St}(Pv:Nat->List V->St->Hp->Prop)(h0:Pv 0 [] τ0 H)(hl:∀i zs τ H,i<=xs.length->Pv i zs τ H->bE K H a xs/\zs.length<=i)(hz:xs.length<=1000000)
  (hs:∀i x p zs τ H H',xs[i]?=some x->Pv i zs τ H->fh H p (.tup [.int i,x]) H'->g (.ref p) τ H' λτ2 H2=>tt τ2 H2 λb H3=>if b=true then te τ2 H3 λy H4=>Pv (i+1) (zs++[y]) τ2 H4 else Pv (i+1) zs τ2 H3)
  (hd:∀zs τ H,Pv xs.length zs τ H->∀p H',fh H p (.lst zs) H'->Q (.ref p) H'):HJ (Tj K a xs) g tt te τ0 Q H:=by
 refine⟨λi m zs τ H=>m=xs.length-i/\i<=xs.length/\Pv i zs τ H,⟨xs.length,by simp,aH _,h0⟩,?_⟩;rintro i m zs τ H ⟨rfl,hi,p⟩;obtain⟨q1,q3⟩:=hl i zs τ H hi p;by_cases hlt:i<xs.length
 .refine .inr ⟨⟨q1,hlt⟩,bS (show zs.length<1000001 by omega) (by decide),Pv (i+1),λzs' τ' H' p'=>⟨xs.length-(i+1),by omega,rfl,hlt,p'⟩,λx H' y=>?_⟩;obtain⟨pa,x',hx,rfl,n⟩:=y;exact hs i x' pa zs τ H H' hx p n
 .have e:i=xs.length:=by omega
  rw[e] at p;exact .inl ⟨⟨q1,by omega⟩,λr hr=>hd zs τ H p r _ ⟨hr,rfl⟩⟩
end
def yJ(w:World)(K:aD)(a:Addr)(kvs:List (Key×V)):Prop:=(a==sysModules)=false/\∀(P:Program)(h:Heap),K.In h->∃vs,KV kvs vs/\h.DictOf (bK P w) a vs
def entriesOf(w:World):List (Str×Tok×Value)->List DictEntry
 | []=>[]
 | (k,t,v)::r=>{ hash:=PyData.keyHash w.params k,key:=.str k t,val:=v }::entriesOf w r
theorem kD{P:Program}{w:World}:∀(es:List (Str×Tok×Value)),(∀e∈entriesOf w es,∃k,(bK P w).is k e.key=true/\e.hash=(bK P w).hash k)/\Pairs (bK P w) (entriesOf w es) (es.map λe=>(Sum.inr e.1,e.2.2))
 | []=>by
  refine⟨λe h=>?_,?_⟩
  .simp[entriesOf] at h
  .exact Pairs.nil
 | (k,t,v)::r=>by
  obtain⟨h1,h2⟩:=kD (P:=P) (w:=w) r;refine⟨λe he=>?_,.cons (ly P w k t) rfl h2⟩;rcases aI.mp he with q|q
  .subst q;exact⟨.inr k,ly P w k t,rfl⟩
  .exact h1 e q
def yJ.mk'{es:List (Str×Tok×Value)}{kvs:List (Key×V)}(l:K.lookup a=some ⟨.type "dict", none,.dict (entriesOf w es).toArray n,#[]⟩)(hd:(a==sysModules)=false)(nd:(es.map (·.1)).Nodup)
  (hv:KV kvs (es.map λe=>((Sum.inr e.1:Key),e.2.2))):yJ w K a kvs:=by
 refine⟨hd,λP h RU=>⟨_,hv,_,_,_,RU a _ l,⟨rfl,rfl,rfl⟩,rfl,?_,?_,?_⟩⟩
 .intro e he;exact(kD es).1 e (by simpa using he)
 .simpa using(kD (P:=P) (w:=w) es).2
 .have q:((es.map λe=>((Sum.inr e.1:Key),e.2.2)).map (·.1))=(es.map (·.1)).map (λx=>(Sum.inr x:Key)):=by simp[fV,Function.comp_def]
  rw[q];exact lq.mpr (List.Pairwise.imp (λh e=>h (Sum.inr.inj e)) nd)
section
variable {X:Cx}{o i e f:Expr}{pos apos cpos:Pos}{td ty tx:TE}{a:Addr}{kvs:List (Key×V)}
def HL(a:Addr)(kvs:List (Key×V))(td ty:TE):TE:=λσ H Q=>td σ H λx H1=>ty σ H1 λy H2=>∃k v,x=.ref a/\y=kV k/\e9 kvs k=some v/\Q v H2
def yK(C:yJ X.w X.K a kvs)(ho:PE X o td)(hi:PE X i ty)(hs:G8 i):PE X (.Subscript o i pos) (HL a kvs td ty):=by intro pins s σ H Q I h;refine wM PySem.F.slot_dict_getitem.lookup hs (cT (ho pins s σ H _ I h) λu s1 zq=>?_);obtain⟨x,H1,I1,rx,q1⟩:=zq;refine cT (hi pins s1 σ H1 _ I1 q1) λiv s2 zq=>?_;obtain⟨y,H2,I2,ry,k,v,ex,ey,l,q2⟩:=zq;subst ex ey;obtain rfl:u=Value.ref a:=rx;obtain⟨vs,rel,dd⟩:=C.2 X.prog s2.heap I2.wA;obtain⟨w',hw,rw'⟩:=lz.some_of (v:=v) (o:=valueAt vs k) (by rw[<- l];exact rel.val k);exact⟨dd.typeIs,wpAny_getItem_of (nN ry) dd.mapOf hw ⟨v,H2,I2.tok _,rw',q2⟩⟩
end
section
variable {nx bk ct:St->Hp->Prop}{rt:VK}{σ:St}{H:Hp}{Q:VK}{td ty tx:TE}{a:Addr}{kvs:List (Key×V)}
def rDK(a:Addr)(kvs:List (Key×V)):R2:=λx y H Q=>∃k v,x=.ref a/\y=kV k/\e9 kvs k=some v/\Q v H
def VV(h:td σ H λx H1=>ty σ H1 λy H2=>rDK a kvs x y H2 Q):HL a kvs td ty σ H Q:=h
def Tq{x:Str}{v:V}(hv:e9 kvs (.inr x)=some v)(h:Q v H):rDK a kvs (.ref a) (.str x) H Q:=⟨.inr x,v,rfl,rfl,hv,h⟩
end
def iA(K:aD)(a:Addr)(xs:List V):Prop:=∀H:Hp,cM K H a xs
def iA.sq{H:Hp}(c:iA K a xs):cM K H a xs:=c H
def iA.mk'{od:Option Addr}{its:Array Value}{sl:Array (Option Value)}(l:K.lookup a=some ⟨.type "tuple", od,.seq its n,sl⟩)(r:Vals xs its.toList)(hz:its.size<=1000):iA K a xs :=
 λ_=>.inr ⟨_,its,n,l,rfl,rfl,bJ hz (by decide),r⟩
section
variable {X:Cx}{K:aD}
def gJ(e:X.K=K):KL X (O8 K):=e▸bL
def nR(e:X.K=K):KL X (O9 K):=e▸cO
def kE(e:X.K=K):dj X (.builtin "len") (Pp K):=e▸bI
def PK(e:X.K=K):dj X (.builtin "isinstance") (Pq K):=e▸ve
def Ls(e:X.K=K)(hu:X.A.units+64<cLine):jS X (compareOp .Eq) (HF K):=e▸Bv hu
def qM{t:EE}(e:X.K=K)(hc:X.calm=true)(h:Rt X es t)
  (hn:(assignEach es X.env).length=n:=by rfl)(hst:(assignEach es X.env).findIdx? (·.1)=none:=by rfl):PG X (.Tuple es k pos) (OV K n t):=e▸nj hc h hn hst
def HN{tg l:Expr}{tl:TE}(e:X.K=K)(hl:PE X l tl):PI X tg l (GK K tl):=e▸cI hl
end
def HP{α:Type}(x:α)(xs:List α):nF (x::xs) 0=some x:=fP (j:=0) rfl
end L2
def BT.NF:PySem.bootBuiltins "min" = some (.builtin "min"):=by decide +kernel
def BT.NG:PySem.bootBuiltins "max" = some (.builtin "max"):=by decide +kernel
namespace L2
open PySem PySem.Spec PyProof.Rows
variable {i:Int}{xs:List V}
section
variable {X:Cx}{K:aD}{nx bk ct:St->Hp->Prop}{rt:VK}{σ:St}{H:Hp}{Q:VK}{P:Bool->Hp->Prop}{ta tb tc te td ty tx tv:TE}{t u:TS}{a:Addr}{kvs:List (Key×V)}
def rDG:R2:=λx y H Q=>∃a v,x=.ref a/\kW H a y (some v)/\Q v H
def XX(h:td σ H λx H1=>ty σ H1 λy H2=>rDG x y H2 Q):Nl td ty σ H Q:=h
def Tr{v:V}(hd:H a=some (.dK kvs))(hv:e9 kvs (.inl i)=some v)(h:Q v H):rDG (.ref a) (.int i) H Q:=⟨a,v,rfl,.inl ⟨kvs,.inl i,.inl hd,rfl,hv.symm⟩,h⟩
def rDI:R2:=λy x H Q=>∃a o,x=.ref a/\kW H a y o/\Q (.bl o.isSome) H
def Tt:R2:=λy x H Q=>∃a o,x=.ref a/\kW H a y o/\Q (.bl (!o.isSome)) H
def aaP(h:ty σ H λy H1=>td σ H1 λx H2=>rDI y x H2 Q):SK ty td σ H Q:=h
def XY(h:ty σ H λy H1=>td σ H1 λx H2=>Tt y x H2 Q):CQ ty td σ H Q:=h
def rD2(ty tx:TE)(σ:St)(Q:VK):V->Hp->Prop:=λx H1=>∃a,x=.ref a/\WU H1 a/\ty σ H1 λy H2=>tx σ H2 λz H3=>∃o,kW H3 a y o/\Q (o.getD z) H3
def Tu(a:Addr):V->V->Hp->VK->Prop:=λy z H3 Q=>∃o,kW H3 a y o/\Q (o.getD z) H3
def VW(h:td σ H (rD2 ty tx σ Q)):Ho td ty tx σ H Q:=h
def acv(hd:H a=some (.dK kvs))(h:ty σ H λy H2=>tx σ H2 λz H3=>Tu a y z H3 Q):rD2 ty tx σ Q (.ref a) H:=⟨a,rfl,.inl ⟨kvs,.inl hd⟩,h⟩
def aaR{z:V}(hd:H a=some (.dK kvs))(h:Q ((e9 kvs (.inl i)).getD z) H):Tu a (.int i) z H Q:=⟨_,.inl ⟨kvs,.inl i,.inl hd,rfl,rfl⟩,h⟩
def XZ(v x y:V)(H3:Hp)(R:Hp->Prop):Prop:=∃a H4,x=.ref a/\yv H3 a y v H4/\R H4
def X0(h:tv σ H λv H1=>td σ H1 λx H2=>ty σ H2 λy H3=>XZ v x y H3 λH4=>nx σ H4):Nm td ty tv ⟨nx,rt,bk,ct⟩ σ H:=h
def aaS{v:V}{R:Hp->Prop}(hd:H a=some (.dK kvs))(hz:kvs.length<1000000)(h:∀H',pC H a (.dK (putK kvs (.inl i) v)) H'->R H'):XZ v (.ref a) (.int i) H R:=⟨a,_,rfl,.inl ⟨kvs,.inl i,hd,rfl,bS hz (by decide),rfl⟩,h _ rfl⟩
def X3(h:∀p H',fh H p (.dK []) H'->Q (.ref p) H'):Hh σ H Q:=λp hp=>h p _ ⟨hp,rfl⟩
def Lu{l:Addr}{k:Nat}{y:V}(hl:H l=some (.lst xs))(h0:0<=i)(hk:i.toNat=k)(hy:xs[k]?=some y)(hz:xs.length<=1000000)(h:∀H',pC H l (.lst (xs.eraseIdx k)) H'->Q y H'):G4 (.ref l) [.int i] H Q:=by
 have hlt:k<xs.length:=(fu hy).1;refine⟨l,xs,i,k,y,rfl,rfl,hl,by omega,by omega,?_,hy,h _ rfl⟩;have e1:(if i<0 then i+(xs.length:Int) else i)=i:=if_neg (by omega);unfold seqIndex?;simp only[e1];have h1:i<(xs.length:Int):=by omega
 rw[if_pos (by simp[h0,h1]),hk]
def VX{l:Addr}(hl:H l=some (.lst xs))(h:∀H',pC H l (.lst []) H'->Q .cY H'):G6 (.ref l) [] H Q:=⟨l,xs,rfl,rfl,hl,h _ rfl⟩
def fj{b:Addr}{ys:List V}(ha:cM K H a xs)(hb:cM K H b ys)(hx:xs≠[])(hy:ys≠[])(hz:xs.length+ys.length<=1000000)(h:∀p H',fh H p (.tup (xs++ys)) H'->Q (.ref p) H'):GX K (.ref a) (.ref b) H Q :=
 ⟨a,b,xs,ys,rfl,rfl,ha,hb,hx,bJ hz (by decide),λe=>absurd e hy,λ_ p hp=>h p _ ⟨hp,rfl⟩⟩
def NH:List V->Hp->VK->Prop:=λxs H Q=>∃i j,xs=[.int i,.int j]/\Q (.int (if j<i then j else i)) H
def sH(hc:X.calm=true):dj X (.builtin "min") NH:=EI hc
def X4{j:Int}(h:Q (.int (if j<i then j else i)) H):NH [.int i,.int j] H Q:=⟨i,j,rfl,h⟩
def yL{i:Nat}{y:Str}{py spos:Pos}{elt iter tg:Expr}{xs:List Str}{g:TG}{ifs:List Expr}{scope:Scope}{cl:List (Str×Addr)}{pos:Pos}{fr:List Str}{ix:List Nat}{wi:TI}{tt:TT}{te:TE}(hN:X.N.Nodup)(W3:X.N[i]?=some y)(hy:Loc X.env.scope y)
  (O:iS X scope cl xs fr ix)(hi:PI X tg iter wi)(hg:∀C fp s H,PG (mO X (xs++fr) scope cl C fp s H) tg g)
  (ht:∀C fp s H,PF (mO X (xs++fr) scope cl C fp s H) ifs tt)(he:∀C fp s H,PE (mO X (xs++fr) scope cl C fp s H) elt te)
  (hsw:swapsWith (.ListComp elt [⟨tg,iter,ifs,0⟩] scope pos) (some (.Name y py)) spos.line X.env=pure true:=by rfl)
  (hs:∀v,foldedSetIterable iter X.env v=pure v:=by intro _;rfl)(hf:X.fn y=true\/X.env.scope.names.lookup y=some .local:=by first|exact .inl rfl|exact .inr rfl|assumption):
  PS X (.Assign [.Name y py] (.ListComp elt [⟨tg,iter,ifs,0⟩] scope pos) spos) (Hv (Bt wi g tt te ix xs.length) i):=by
 intro pins s σ H D I h;rw[exec_Assign_Name_used _ _ _ _ hsw];refine aq (wpAny_standAt (aq ?_));show wpAny _ X.A (do let _ <- comprehension (.ListComp elt [⟨tg,iter,ifs,0⟩] scope pos) scope X.env _ (newList []) false (eval iter X.env) (some (assign (.Name y py) X.env))) _ _ s;refine aq (wpAny_mono (wpAny_comprehension_free (use:=some (assign (.Name y py) X.env)) (Q:=λ_ s'=>SP X pins D .next s') rfl hs O.clos O.kind O.names
  (cT (hi pins s σ H _ I h) λv s1 h1=>cT h1 λitv s2 h2=>?_)) (λ_ s' hq=>aL (aL hq)) λ_ _ e=>e)
 obtain⟨it,fp,tn,J,H2,e,I2,T,st2,f2,W,⟨m0,w0⟩,turn⟩:=h2;subst e;refine qm O hg ht he I2 T st2 f2 (λys H=>∀p,H p=none->D.nx (σ.set i (some (.ref p))) (upd H p (.lst ys))) W m0 w0 turn λL C s' ys H' I' hm fC hD z=>?_;obtain⟨m,hm⟩:=hm;show wpAny _ X.A (assign (.Name y py) X.env (.ref L)) _ _ _;refine wpAny_assign_Name (pM I' hN W3 hy (v:=.ref L) rfl (λs'' W4 KN=>?_) hf);obtain⟨a,KN,ha⟩:=KN;have W5:C≠a:=by
  rcases ha with z|z
  .rw[z];exact fC.2.1
  .exact bA (fC.2.2.2.2.1 _ _ z)
 refine⟨m,hm.sameBut KN W5,λh' hs'=>?_⟩;exact⟨_,_,W4.turned (t':=s''.toks) (it:=C) (λb o hb e=>hs'.extBut b o hb e) fC.1 fC.2.1 fC.2.2.2.1 fC.2.2.2.2.1 fC.2.2.2.2.2,z L hD⟩
end
section
variable {K:aD}{H:Hp}{Q:VK}{te:TE}
end
structure Tv (K:aD) (x qual:Str) (st:Stmt) (f:Addr) (fd:FuncData) (dV:Value):Prop where
 ex:∃(oc:Value)(od:Option Addr)(kV doc pm:Value)(an:Option Addr)(cdv ct:Value)(osl:Array (Option Value)),
  fd=PySem.W.fnOf x qual (ku st) (iQ st) (aC st) dV kV doc pm an cdv ct/\K.lookup f=some ⟨oc,od,.func fd,osl⟩/\PySem.W.codeIn K cdv qual=true
 kp:PySem.W.keepIn K (.ref f)=true
section
variable {P:Program}{w:World}{K:aD}{mg:Str->Option Value}{base:Heap}
def Tv.ok{x qual:Str}{st:Stmt}{f:Addr}{fd:FuncData}{dV:Value}{N ps:List Str}{k:Nat}{sp:Sp}(F:Tv K x qual st f fd dV)(S:aN N ps (aC st))(len:∀vs H Q E,sp vs H Q E->vs.length=ps.length)
  (hbody:∀(cdv:Value)(A:Around)(outer:List Env)(s:Shared)(H:Hp)(vs:List V)(Q:VK)(E:XK),jd k (A.deeper (envOfC qual (aC st) s.heap.objs.size f cdv))->sp vs H Q E ->
   ∃t,uR (ym gT P w K mg base N qual (aC st) f cdv A outer s H E).GH (iQ st) t/\t { nx:=λ_ H'=>Q .cY H',rt:=Q } (start N vs) H):b7 P w K mg base gT (k+1) f fd ps sp:=by obtain⟨oc,od,kV,doc,pm,an,cdv,ct,osl,rfl,lk,hcd⟩:=F.ex;refine Ng lk hcd S len λA outer s H vs Q E hr KJ=>?_;obtain⟨t,h,q⟩:=hbody cdv A outer s H vs Q E hr KJ;exact⟨t,h.GH,q⟩
end
section
variable {X:Cx}{K:aD}{nx bk ct:St->Hp->Prop}{rt:VK}{σ:St}{H:Hp}{Q:VK}{P:Bool->Hp->Prop}{ta tb tc te td ty tx tv:TE}{t u:TS}{a:Addr}
def NI(R:It->Hp->Prop):List V->Hp->Prop:=λvs H1=>∃i j:Int,vs=[.int i,.int j]/\(-(2 ^ 62)<=i/\i<2 ^ 62 /\ -(2 ^ 62)<=j/\j<2 ^ 62)/\R (mL i (j-i).toNat) H1
def Tw{tl:TA}{R:It->Hp->Prop}(h:tl σ H (NI R)):Nb tl σ H R:=h
def X5{j:Int}{R:It->Hp->Prop}(h1:-(2 ^ 62)<=i/\i<2 ^ 62 /\ -(2 ^ 62)<=j/\j<2 ^ 62)(h:R (mL i (j-i).toNat) H):NI R [.int i,.int j] H:=⟨i,j,rfl,h1,h⟩
def Tz{a:Addr}{tt:TT}{τ:St}(Pv:Nat->List V->Hp->Prop)(h0:Pv 0 [] H)(hl:∀i ys H,i<=xs.length->Pv i ys H->cM K H a xs)
  (hs:∀i x ys H,xs[i]?=some x->Pv i ys H->ys.length<sizeLine/\tt (some x::τ) H λb H3=>if b=true then te (some x::τ) H3 λy H4=>Pv (i+1) (ys++[y]) H4 else Pv (i+1) ys H3)
  (hd:∀ys H,Pv xs.length ys H->∀p H',fh H p (.lst ys) H'->Q (.ref p) H'):Bs (KI K a) tt te τ Q H:=by
 refine⟨λi m ys H=>m=xs.length-i/\i<=xs.length/\Pv i ys H,⟨xs.length,by simp,aH _,h0⟩,?_⟩;rintro i m ys H ⟨rfl,hi,p⟩;have q:=hl i ys H hi p;by_cases hlt:i<xs.length
 .have hx:xs[i]?=some xs[i]:=by simp[hlt]
  obtain⟨hz,q'⟩:=hs i _ ys H hx p;refine .inr ⟨⟨xs,xs[i],q,hx⟩,hz,Pv (i+1),λσ' H' p'=>⟨xs.length-(i+1),by omega,rfl,hlt,p'⟩,λx H' y=>?_⟩;obtain⟨e,y⟩:=y;subst e;have e2:x=xs[i]:=Option.some.inj ((y xs q).symm.trans hx);subst e2;exact q'
 .have e:i=xs.length:=by omega
  subst e;exact .inl ⟨⟨xs,q,az _⟩,λr hr=>hd ys H p r _ ⟨hr,rfl⟩⟩
def PL{a:Addr}{τ:St}(f:V->V)(hS:cM K H a xs)(hz:xs.length<=1000000)(he:∀x∈xs,∀Q:VK,Q (f x) H->te (some x::τ) H Q)(h:∀p H',fh H p (.lst (xs.map f)) H'->Q (.ref p) H'):Bs (KI K a) Ll te τ Q H:=by
 refine Tz (xs:=xs) (λi ys H'=>H'=H/\ys=(xs.take i).map f) ⟨rfl,rfl⟩ ?_ ?_ ?_
 .rintro i ys H' hi ⟨rfl,_⟩;exact hS
 .rintro i x ys H' hx ⟨rfl,rfl⟩;have hi:i<xs.length:=(fu hx).1;refine⟨bS (show((xs.take i).map f).length<1000001 by rw[av,cF];omega) (by decide),?_⟩;refine NC (Ph ?_);refine he x (fB hx) _ ⟨rfl,?_⟩;rw[cB,hx,bF];rfl
 .rintro ys H' ⟨rfl,rfl⟩ p H2 n2;rw[cG] at n2;exact h p H2 n2
end
end L2
namespace ZP
open PySem PySem.Spec PyProof.Rows
section
variable {prog:Program}{w:World}{A:Around}{E:Value->Shared->Prop}{s:Shared}
end
end ZP
def F.dR:PySem.entryFor PySem.table "dict.update.loop" = some PySem.Builtin.«dict.update.loop»:=PySem.entryFor_of_tree (by kernel_rfl)
def F.bC:PySem.plainId "dict.update.loop" = true:=by decide +kernel
namespace L2
open PySem PySem.Spec PyProof.Rows
def gr(ks:Nat->Key)(vs:Nat->V):Nat->List (Key×V)
 | 0=>[]
 | i+1=>putK (gr ks vs i) (ks i) (vs i)
theorem kF(ks:Nat->Key)(vs:Nat->V):∀i,(gr ks vs i).length<=i
 | 0=>az _
 | i+1=>by have h1:=lE (gr ks vs i) (ks i) (vs i);have h2:=kF ks vs i;show(putK (gr ks vs i) (ks i) (vs i)).length<=i+1;omega
structure C4 (prog:Program) (w:World) (z d:Addr) (tn:String) (fp:List Addr) (n:Nat) (ks:Nat->Key) (vs:Nat->V) (St:Nat->Heap->Prop):Prop where
 ty:∀i(s:Shared),St i s.heap->s.TypeIs (.ref z) tn
 nd:(Value.type tn != Value.type "dict")=true
 self:∀(A:Around)(s:Shared)(Q:Value->Shared->Prop)(E:Value->Shared->Prop),St 0 s.heap->Q (.ref z) s->wpAny (model prog w) A (pyIter (.ref z)) Q E s
 nk:∀(A:Around)i(s:Shared)(Q:Option Value->Shared->Prop)(E:Value->Shared->Prop),A.handled=none->St i s.heap->(∀h' tk,(∀b o,s.heap.get? b=some o->h'.get? b=some o)->Q none { s with heap:=h',toks:=tk })->wpAny (model prog w) A (getAttr? (.ref z) "keys") Q E s
 frame:∀i h h',St i h->(∀b o,b≠d->h.get? b=some o->h'.get? b=some o)->St i h'
 item:∀(A:Around)i(s:Shared)(Q:Option Value->Shared->Prop)(E:Value->Shared->Prop),A.handled=none->i<n->St i s.heap ->
  (∀h' tk u v,RelV (kV (ks i)) u->RelV (vs i) v->(s.heap.objs.size≠d->St (i+1) h')->h'.get? s.heap.objs.size=some { cls:=.type "tuple", data:=.seq #[u,v] }->(∀b o,b∉fp->s.heap.get? b=some o->h'.get? b=some o) ->
   Q (some (.ref s.heap.objs.size)) { s with heap:=h',toks:=tk })->wpAny (model prog w) A (pyNext (.ref z)) Q E s
 done:∀(A:Around)(s:Shared)(Q:Option Value->Shared->Prop)(E:Value->Shared->Prop),A.handled=none->St n s.heap->(∀h',(∀b o,b∉fp->s.heap.get? b=some o->h'.get? b=some o)->Q none { s with heap:=h' })->wpAny (model prog w) A (pyNext (.ref z)) Q E s
section
variable {prog:Program}{w:World}{A:Around}{z d:Addr}{tn:String}{fp:List Addr}{n:Nat}{ks:Nat->Key}{vs:Nat->V}{St:Nat->Heap->Prop}
def C4.loop{R:Result->Shared->Prop}{s0:Shared}(O:C4 prog w z d tn fp n ks vs St)(hd:d∉fp)(hh:A.in1.handled=none)(hn:n<=sizeLine)
  (hR:∀h' tk rs,(∀b o,b∉fp->b≠d->s0.heap.get? b=some o->h'.get? b=some o)->h'.DictOf (bK prog w) d rs->KV (gr ks vs n) rs->R (.ok (.ret .none)) { s0 with heap:=h',toks:=tk }):
  ∀(k i:Nat)(h:Heap)(t:Nat)(rs:List (Key×Value))(c:Tok),n-i=k->i<=n->(∀b o,b∉fp->b≠d->s0.heap.get? b=some o->h.get? b=some o)->St i h->h.DictOf (bK prog w) d rs->KV (gr ks vs i) rs ->
   codeAny (model prog w) A (.builtin "dict.update.loop" ⟨[.ref d,.ref z,.int i c,.none],[]⟩) R { s0 with heap:=h,toks:=t }:=by
 intro k;induction k with
 | zero =>
  intro i h t rs c hk hi kp st dd rel;have e:i=n:=by omega
  subst e;refine codeAny_builtin F.dR ?_;rw[iw F.bC _];show wpAny _ A.in1 (pyNext (.ref z) >>= _) _ _ _;refine aq (O.done _ { s0 with heap:=h,toks:=t } _ _ hh st λh' k'=>?_);show wpAny _ A.in1 (Builtin.Dict.addKeywords d [] >>= _) _ _ _;refine aq (aL (aL ?_));exact hR h' t rs (λb o b1 b2 q=>k' b o b1 (kp b o b1 b2 q)) (let⟨o,es,ep,q,r⟩:=dd;⟨o,es,ep,k' d o hd q,r⟩) rel
 | succ k ih =>
  intro i h t rs c hk hi kp st dd rel;have hlt:i<n:=by omega
  refine codeAny_builtin F.dR ?_;rw[iw F.bC _];show wpAny _ A.in1 (pyNext (.ref z) >>= _) _ _ _;refine aq (O.item _ i { s0 with heap:=h,toks:=t } _ _ hh hlt st λh1 t1 u v ru rv st1 ht k1=>?_);have hT:d≠h.objs.size:=by obtain⟨o,_,_,q,_⟩:=dd;exact aQ (aK q)
  have d1:h1.DictOf (bK prog w) d rs:=let⟨o,es,ep,q,r⟩:=dd;⟨o,es,ep,k1 d o hd q,r⟩;have TF:({ s0 with heap:=h1,toks:=t1 }:Shared).TypeIs (.ref h.objs.size) "tuple" := ⟨_,ht,rfl⟩;show wpAny _ A.in1 (holding [Value.ref h.objs.size] _ >>= _) _ _ _;refine aq (wpAny_holding ?_);refine aq (wpAny_tryCatch ?_);unfold Builtin.Dict.pairItems;refine aq (wpAny_typeOf TF ?_);show wpAny _ _ (seqItems? (.ref h.objs.size) >>= _) _ _ _;refine aq (wpAny_seqItems ht rfl (aL ?_));show wpAny _ _ (holding [u,v] (dictSet d u v)) _ _ _;refine wpAny_holding (wpAny_dictSet_pairs (hsz:=?_) (nN ru) d1 λh2 d2 sb=>?_)
  .refine aL ⟨plainId_quiet F.bC _,?_⟩;refine ih (i+1) h2 _ (stored rs (ks i) v) 0 (by omega) hlt (λb o b1 b2 q=>?_) (O.frame _ _ _ (st1 (bA hT)) λb o b1 q=>sb.extBut b o b1 q) d2 (rel.put (ks i) rv);exact sb.extBut b o b2 (k1 b o b1 (kp b o b1 b2 q))
  .rw[<- rel.length];exact bJ (kF ks vs i) (bJ (jK hlt) hn)
end
section
variable {prog:Program}{w:World}{A:Around}{E:Value->Shared->Prop}{s:Shared}{z:Addr}{tn:String}{fp:List Addr}{n:Nat}{ks:Nat->Key}{vs:Nat->V}{St:Nat->Heap->Prop}
theorem C4.call{Q:Value->Shared->Prop}(O:C4 prog w z s.heap.objs.size tn fp n ks vs St)(hfp:∀b∈fp,b<s.heap.objs.size)(hh:A.in1.in1.handled=none)(hn:n<=sizeLine)(st:St 0 s.heap)
  (q:∀h' tk rs,(∀b o,b∉fp->s.heap.get? b=some o->h'.get? b=some o)->h'.DictOf (bK prog w) s.heap.objs.size rs->KV (gr ks vs n) rs->Q (.ref s.heap.objs.size) { s with heap:=h',toks:=tk }):
  wpAny (model prog w) A (call (.type "dict") [.ref z]) Q E s:=by refine callType_codes (Q₁:=λx s1=>x=.ref s.heap.objs.size/\s1={ s with heap:=s.heap.push { cls:=.type "dict", data:=.dict #[] } }) F.kt_called_dict (F.kt_typeCall_dict_1 _) F.entry_dict_init (kt_code_dict_new _ ⟨rfl,rfl⟩) ?_;rintro _ _ ⟨rfl,rfl⟩;have dd:(s.heap.push { cls:=.type "dict", data:=.dict #[] }).DictOf (bK prog w) s.heap.objs.size []:=Heap.DictOf.new s.heap;have hd:s.heap.objs.size∉fp:=λh=>fZ _ (hfp _ h);have st1:St 0 (s.heap.push { cls:=.type "dict", data:=.dict #[] }):=O.frame _ _ _ st λb o _ e=>c9 _ e;refine⟨dd.typeIs,F.args_dict_init_2 _ _,?_⟩;unfold Builtin.«dict.__init__»;refine aq ?_;unfold Builtin.Dict.selfAndRest;refine aq (wpAny_notOrdered_dict dd.typeIs ?_);refine aL (a:=(s.heap.objs.size,[Value.ref z])) ?_;show wpAny _ _ (Builtin.Dict.updateFrom "dict.__init__" s.heap.objs.size (.ref z) [] .none) _ _ _;unfold Builtin.Dict.updateFrom;refine aq (wpAny_typeOf (O.ty 0 _ st1) ?_);rw[if_pos O.nd];refine aq (O.nk _ 0 _ _ _ hh st1 λh1 t1 k1=>?_);show wpAny _ _ (rule _ >>= _) _ _ _;refine aq (wpAny_rule ?_);have st2:St 0 h1:=O.frame _ _ _ st1 λb o _ e=>k1 b o e;refine aq (O.self _ _ _ _ st2 ?_);refine aL ⟨plainId_quiet F.bC _,?_⟩;have hsz:∀b o,s.heap.get? b=some o->b≠s.heap.objs.size:=λb o e=>aQ (aK e);refine O.loop (s0:={ s with heap:=h1,toks:=t1 }) hd hh hn (λh' tk rs k' d' rel=>?_) _ 0 h1 t1 [] 0 rfl (aH _) (λb o _ _ e=>e) st2 (let⟨o,es,ep,x,r⟩:=dd;⟨o,es,ep,k1 _ _ x,r⟩) .nil;exact⟨rfl,q h' tk rs (λb o b1 e=>k' b o b1 (hsz b o e) (k1 b o (c9 _ e))) d' rel⟩
end
end L2
namespace ZP
open PySem PySem.Spec PyProof.Rows
end ZP
namespace L2
open PySem PySem.Spec PyProof.Rows
section
variable {X:Cx}
variable {K:aD}{σ:St}{H:Hp}{Q:VK}{a b:Addr}
end
section
variable {X:Cx}{K:aD}{nx bk ct:St->Hp->Prop}{rt:VK}{σ:St}{H:Hp}{Q:VK}{P:Bool->Hp->Prop}{ta tb tc te td ty tx tv:TE}{t u:TS}{a:Addr}
def aaT{i:Nat}{ti:R7}{x:V}(e:σ[i]?=some (some x))(h:te σ H λy H1=>ti x y H1 λz H2=>iy i z σ H2 nx):Sa i te ti ⟨nx,rt,bk,ct⟩ σ H:=⟨x,e,h⟩
def aaU{f:Int->Int->Int}{i j:Int}(h:Q (.int (f i j)) H):Z4 f (.int i) (.int j) H Q:=⟨i,j,rfl,rfl,h⟩
end
section
variable {K:aD}{nx bk ct:St->Hp->Prop}{rt:VK}{σ:St}{H:Hp}{Q:VK}{ta:TA}
end
end L2
namespace HT
open PySem PySem.Spec PyProof.Rows
section
variable {prog:Program}{w:World}{A:Around}{E:Value->Shared->Prop}{s:Shared}
end
end HT
namespace L2
open PySem PySem.Spec PyProof.Rows
section
variable {X:Cx}{K:aD}{nx bk ct:St->Hp->Prop}{rt:VK}{σ:St}{H:Hp}{Q:VK}{a:Addr}
end
section
variable {X:Cx}{K:aD}{nx bk ct:St->Hp->Prop}{rt:VK}{σ:St}{H:Hp}{Q:VK}{ta tv:TE}{t:TA}{a C dx:Addr}{fs fs':List (Str×V)}{f m:Str}{v y z:V}{sp:Sp}{E:XK}
def PM{i j:Int}(h:Q (.int (i-j)) H):Sn (.int i) (.int j) H Q:=⟨i,j,rfl,rfl,h⟩
end
section
variable {co si pl mk wd se an st x:V}
end
section
variable {X:Cx}{K:aD}{σ:St}{H:Hp}{Q:VK}{t:TA}
def uC(i:Int)(n:Nat):List V:=(List.range n).map λk:Nat=>V.int (i+(k:Int))
def HQ(i:Int)(n:Nat):(uC i n).length=n:=by unfold uC;simp
def E4{i:Int}{n:Nat}{acc:Array Value}(h:ItemsOf (λk v=>∃t,v=.int (i+(k:Int)*1) t) acc n):Vals (uC i n) acc.toList:=by
 obtain⟨h1,h2⟩:=h;have key:∀(l:List Value)(m:Nat),(∀(k:Nat) v,l[k]?=some v->∃t,v=Value.int (i+((m+k:Nat):Int)) t)->Vals ((List.range' m l.length).map λk:Nat=>V.int (i+(k:Int))) l:=by
  intro l;induction l with
  | nil=>intro m _;exact .nil
  | cons x l ih =>
   intro m h;rw[eB,List.range'_succ,cj];refine .cons ?_ (ih (m+1) λk v hk=>?_)
   .obtain⟨t,e⟩:=h 0 x rfl;exact⟨t,by rw[e];rfl⟩
   .obtain⟨t,e⟩:=h (k+1) v (by simpa using hk);exact⟨t,by rw[e,show m+(k+1)=m+1+k by omega]⟩
 have:=key acc.toList 0 λk v hk=>by obtain⟨t,e⟩:=h2 k v (by simpa using hk);exact⟨t,by rw[e,Int.mul_one,Nat.zero_add]⟩
 unfold uC;rw[List.range_eq_range'];have hl:acc.toList.length=n:=by rw[cX,h1]
 rw[hl] at this;exact this
end
end L2
namespace ZP
open PySem PySem.Spec PyProof.Rows
def uD:entryFor table "list.__getattribute__" = some Builtin.«object.__getattribute__»:=entryFor_alias (id' := "object.__getattribute__") (by kernel_rfl) (by decide +kernel) (by decide +kernel) (by kernel_rfl)
def wR:typeLookup (.type "list") "__getattr__" = pure none:=by rw[typeLookup_type,builtinLookup_eq_fast];kernel_rfl
def wU:typeLookup (.type "list") "keys" = pure none:=by rw[typeLookup_type,builtinLookup_eq_fast];kernel_rfl
def uE(x:Addr)(its:Array Value)(n:Nat)(sl:Array (Option Value))(u:Tok):
  Meets (Builtin.«object.__getattribute__» ⟨[.ref x,.str "keys" u],[]⟩) (λA R s=>s.heap.get? x=some { cls:=.type "list", dict:=none,data:=.seq its n,slots:=sl }/\raisesAttr (.ref x) "keys" A R s):=by
 refine Meets.of_wp λprog w A R s q=>?_;obtain⟨h0,g0,d0,t0,o0⟩:=s;obtain⟨hx,q⟩:=q;have hT:(⟨h0,g0,d0,t0,o0⟩:Shared).TypeIs (.ref x) "list" := ⟨_,hx,rfl⟩;have hmiss:=wU;unfold Builtin.«object.__getattribute__»
 repeat (any_goals (first|assumption|wp_step))
 exact wpAny_raiseAttrError q.1 q.2 (attrMsg_fits (by decide +kernel) (by size_fits))
def C5{prog:Program}{w:World}{A:Around}{E:Value->Shared->Prop}{s:Shared}{x:Addr}{its:Array Value}{n:Nat}{sl:Array (Option Value)}{Q:Option Value->Shared->Prop}(hx:s.heap.get? x=some { cls:=.type "list", dict:=none,data:=.seq its n,slots:=sl })(hA:A.handled=none)
  (q:∀h' tk,(∀b o,s.heap.get? b=some o->h'.get? b=some o)->Q none { s with heap:=h',toks:=tk }):wpAny (model prog w) A (getAttr? (.ref x) "keys") Q E s:=by
 obtain⟨h0,g0,d0,t0,o0⟩:=s;have hT:∀tk',(⟨h0,g0,d0,tk',o0⟩:Shared).TypeIs (.ref x) "list" := λ_=>⟨_,hx,rfl⟩;have e1:=sub_AttributeError;have e2:=F.slot_list_getattribute.lookup;have e3:=F.slot_list_getattribute.bind (.ref x);have e4:=wR;unfold getAttr? getAttrBy? getAttrBy
 repeat (any_goals (first|assumption|exact hT _|((with_reducible show wpAny _ _ (call (Value.builtin "list.__getattribute__") _ _) _ _ _);refine call_meets F.slot_list_getattribute (hT _) uD (F.args_list_getattribute_2 _ _) (uE x its n sl _) ⟨hx,hA,λh' tk' e he=>?_⟩)|wp_step))
 obtain⟨t',u',GA⟩:=he.there;show wpAny _ _ (getattributeRaised _ _ _ _ _ _ _) _ _ _;unfold getattributeRaised
 repeat (any_goals (first|assumption|wp_step))
 exact q _ _ he.keeps
end ZP
namespace L2
open PySem PySem.Spec PyProof.Rows
section
variable {prog:Program}{w:World}{A:Around}
def Bw{R:Result->Shared->Prop}{s0:Shared}{it l d:Addr}{its:Array Value}{n:Nat}{ks:Nat->Key}{vs:Nat->V}(hd:d≠it)(hdl:d≠l)(hli:l≠it)(hh:A.in1.handled=none)(hn:n<=sizeLine)(hsz:its.size=n)
  (hp:∀i,i<n->∃(T:Addr)(u v:Value)(o:Obj)(c:Nat),its[i]?=some (.ref T)/\s0.heap.get? T=some o/\o.cls=.type "tuple" /\ o.data=.seq #[u,v] c/\T≠it/\T≠d/\RelV (kV (ks i)) u/\RelV (vs i) v)
  (hl:s0.heap.IsList l its)
  (hR:∀h' tk rs,(∀b o,b≠it->b≠d->s0.heap.get? b=some o->h'.get? b=some o)->h'.DictOf (bK prog w) d rs->KV (gr ks vs n) rs->R (.ok (.ret .none)) { s0 with heap:=h',toks:=tk }):
  ∀(k i:Nat)(h:Heap)(t:Nat)(rs:List (Key×Value))(c:Tok),n-i=k->i<=n->(∀b o,b≠it->b≠d->s0.heap.get? b=some o->h.get? b=some o)->h.IsListIter it l i->h.DictOf (bK prog w) d rs->KV (gr ks vs i) rs ->
   codeAny (model prog w) A (.builtin "dict.update.loop" ⟨[.ref d,.ref it,.int i c,.none],[]⟩) R { s0 with heap:=h,toks:=t }:=by
 have lst:∀h:Heap,(∀b o,b≠it->b≠d->s0.heap.get? b=some o->h.get? b=some o)->h.IsList l its:=λh kp=>let⟨o,q,r⟩:=hl;⟨o,kp l o hli (bA hdl) q,r⟩;intro k;induction k with
 | zero =>
  intro i h t rs c hk hi kp hit dd rel;have e:i=n:=by omega
  subst e;refine codeAny_builtin F.dR ?_;rw[iw F.bC _];show wpAny _ A.in1 (pyNext (.ref it) >>= _) _ _ _;refine aq (wpAny_pyNext_list_end (s:={ s0 with heap:=h,toks:=t }) hh hit (lst h kp) (qj (by omega)) λh' k'=>?_);show wpAny _ A.in1 (Builtin.Dict.addKeywords d [] >>= _) _ _ _;refine aq (aL (aL ?_));exact hR h' t rs (λb o b1 b2 q=>k' b o b1 (kp b o b1 b2 q)) (let⟨o,es,ep,q,r⟩:=dd;⟨o,es,ep,k' d o hd q,r⟩) rel
 | succ k ih =>
  intro i h t rs c hk hi kp hit dd rel;have hlt:i<n:=by omega
  obtain⟨T,u,v,o,cc,hx,hT,X6,X7,n1,n2,ru,rv⟩:=hp i hlt;refine codeAny_builtin F.dR ?_;rw[iw F.bC _];show wpAny _ A.in1 (pyNext (.ref it) >>= _) _ _ _;refine aq (wpAny_pyNext_list_item (s:={ s0 with heap:=h,toks:=t }) hit (lst h kp) hx λh1 PN NJ=>?_);have k1:∀b o,b≠it->h.get? b=some o->h1.get? b=some o:=λb o b1 q=>NJ.extBut b o b1 q;have ht:h1.get? T=some o:=k1 T o n1 (kp T o n1 n2 hT);have d1:h1.DictOf (bK prog w) d rs:=let⟨o,es,ep,q,r⟩:=dd;⟨o,es,ep,k1 d o hd q,r⟩;have TF:({ s0 with heap:=h1,toks:=t }:Shared).TypeIs (.ref T) "tuple" := ⟨_,ht,X6⟩;show wpAny _ A.in1 (holding [Value.ref T] _ >>= _) _ _ _;refine aq (wpAny_holding ?_);refine aq (wpAny_tryCatch ?_);unfold Builtin.Dict.pairItems;refine aq (wpAny_typeOf TF ?_);show wpAny _ _ (seqItems? (.ref T) >>= _) _ _ _;refine aq (wpAny_seqItems ht X7 (aL ?_));show wpAny _ _ (holding [u,v] (dictSet d u v)) _ _ _;refine wpAny_holding (wpAny_dictSet_pairs (hsz:=?_) (nN ru) d1 λh2 d2 sb=>?_)
  .refine aL ⟨plainId_quiet F.bC _,?_⟩;refine ih (i+1) h2 _ (stored rs (ks i) v) 0 (by omega) hlt (λb o b1 b2 q=>?_) ?_ d2 (rel.put (ks i) rv)
   .exact sb.extBut b o b2 (k1 b o b1 (kp b o b1 b2 q))
   .obtain⟨oi,yd,ri⟩:=PN;exact⟨oi,sb.extBut it oi (bA hd) yd,ri⟩
  .rw[<- rel.length];exact bJ (kF ks vs i) (bJ (jK hlt) hn)
end
section
variable {prog:Program}{w:World}{A:Around}{E:Value->Shared->Prop}{s:Shared}
def Bx{l:Addr}{its:Array Value}{n:Nat}{ks:Nat->Key}{vs:Nat->V}{Q:Value->Shared->Prop}(hx:PlainL s.heap l its)(hh:A.in1.in1.handled=none)(hn:n<=sizeLine)(hsz:its.size=n)
  (hp:∀i,i<n->∃(T:Addr)(u v:Value)(o:Obj)(c:Nat),its[i]?=some (.ref T)/\s.heap.get? T=some o/\o.cls=.type "tuple" /\ o.data=.seq #[u,v] c/\RelV (kV (ks i)) u/\RelV (vs i) v)
  (q:∀h' tk rs,(∀b o,s.heap.get? b=some o->h'.get? b=some o)->h'.DictOf (bK prog w) s.heap.objs.size rs->KV (gr ks vs n) rs->Q (.ref s.heap.objs.size) { s with heap:=h',toks:=tk }):
  wpAny (model prog w) A (call (.type "dict") [.ref l]) Q E s:=by
 refine callType_codes (Q₁:=λx s1=>x=.ref s.heap.objs.size/\s1={ s with heap:=s.heap.push { cls:=.type "dict", data:=.dict #[] } }) F.kt_called_dict (F.kt_typeCall_dict_1 _) F.entry_dict_init (kt_code_dict_new _ ⟨rfl,rfl⟩) ?_;rintro _ _ ⟨rfl,rfl⟩;have dd:(s.heap.push { cls:=.type "dict", data:=.dict #[] }).DictOf (bK prog w) s.heap.objs.size []:=Heap.DictOf.new s.heap;have X8:PlainL (s.heap.push { cls:=.type "dict", data:=.dict #[] }) l its:=hx.keeps λb o e=>c9 _ e;refine⟨dd.typeIs,F.args_dict_init_2 _ _,?_⟩;unfold Builtin.«dict.__init__»;refine aq ?_;unfold Builtin.Dict.selfAndRest;refine aq (wpAny_notOrdered_dict dd.typeIs ?_);refine aL (a:=(s.heap.objs.size,[Value.ref l])) ?_;show wpAny _ _ (Builtin.Dict.updateFrom "dict.__init__" s.heap.objs.size (.ref l) [] .none) _ _ _;unfold Builtin.Dict.updateFrom;obtain⟨⟨cls,dc,da,sl⟩,c,e0,e1,e2,e3⟩:=X8;simp only at e1 e2 e3;subst e1 e2 e3;refine aq (wpAny_typeOf (T := "list") ⟨_,e0,rfl⟩ ?_);rw[if_pos (by decide)];refine aq (ZP.C5 e0 hh λh1 t1 k1=>?_);show wpAny _ _ (rule _ >>= _) _ _ _;refine aq (wpAny_rule ?_);have hl1:h1.IsList l its:=⟨_,k1 _ _ e0,rfl,c,rfl⟩;refine aq (wpAny_pyIter_list (s:={ s with heap:=h1,toks:=t1 }) hl1 ?_);refine aL ⟨plainId_quiet F.bC _,?_⟩;have sz:∀b o,s.heap.get? b=some o->b≠s.heap.objs.size:=λb o e=>aQ (aK e);have k0:∀b o,s.heap.get? b=some o->h1.get? b=some o:=λb o e=>k1 b o (c9 _ e);have k2:∀b o,h1.get? b=some o->(h1.push { cls:=.type "list_iterator", data:=.fields #[.ref l,.int 0 0] }).get? b=some o:=λb o e=>c9 _ e;have Lv:∀b o,h1.get? b=some o->b≠h1.objs.size:=λb o e=>aQ (aK e);have dd1:h1.DictOf (bK prog w) s.heap.objs.size []:=let⟨o,es,ep,x,r⟩:=dd;⟨o,es,ep,k1 _ _ x,r⟩;have hdi:s.heap.objs.size≠h1.objs.size:=by obtain⟨o,_,_,x,_⟩:=dd1;exact Lv _ _ x
 obtain⟨ol,nl,yc,_⟩:=hx;refine Bw (s0:={ s with heap:=h1.push { cls:=.type "list_iterator", data:=.fields #[.ref l,.int 0 0] },toks:=t1 }) (it:=h1.objs.size) (l:=l) (d:=s.heap.objs.size) (its:=its) (n:=n) (ks:=ks) (vs:=vs) hdi (bA (sz _ _ yc)) (Lv _ _ (k0 _ _ yc)) hh hn hsz (λi hi=>?_) (let⟨o,a,r⟩:=hl1;⟨o,k2 _ _ a,r⟩) (λh' tk rs k' d' rel=>?_) _ 0 _ t1 [] 0 rfl (aH _) (λb o _ _ e=>e) ⟨_,iE _ rfl,rfl,rfl⟩ (let⟨o,es,ep,x,r⟩:=dd1;⟨o,es,ep,k2 _ _ x,r⟩) .nil
 .obtain⟨T,u,v,o,c,a1,a2,a3,a4,a5,a6⟩:=hp i hi;exact⟨T,u,v,o,c,a1,k2 _ _ (k0 _ _ a2),a3,a4,Lv _ _ (k0 _ _ a2),sz _ _ a2,a5,a6⟩
 .exact⟨rfl,q h' tk rs (λb o e=>k' b o (Lv _ _ (k0 _ _ e)) (sz _ _ e) (k2 _ _ (k0 _ _ e))) d' rel⟩
end
section
variable {X:Cx}{K:aD}{H:Hp}{Q:VK}{a:Addr}
def wV(ps:List (Key×V)):List (Key×V):=gr (λi=>(ps.getD i (.inl 0,.cY)).1) (λi=>(ps.getD i (.inl 0,.cY)).2) ps.length
def sI(H:Hp):List V->List (Key×V)->Prop:=Paired λu p=>∃t,u=.ref t/\H t=some (.tup [kV p.1,p.2])
def TH(K:aD):List V->Hp->VK->Prop:=λvs H Q=>∃a us ps,vs=[.ref a]/\bE K H a us/\sI H us ps/\∀p,H p=none->Q (.ref p) (upd H p (.dK (wV ps)))
theorem vh{H:Hp}:∀{us:List V}{ps:List (Key×V)},sI H us ps->us.length=ps.length/\∀i,i<ps.length->∃t,us[i]?=some (.ref t)/\H t=some (.tup [kV (ps.getD i (.inl 0,.cY)).1,(ps.getD i (.inl 0,.cY)).2])
 | _,_,.nil=>⟨rfl,λi h=>absurd h (gG _)⟩
 | _,_,.cons h t=>by
  obtain⟨e,k⟩:=vh t;refine⟨by simp[e],λi hi=>?_⟩;cases i with
  | zero =>
   obtain⟨z,rfl,hz⟩:=h;exact⟨z,rfl,hz⟩
  | succ i =>
   obtain⟨z,h1,h2⟩:=k i (by simpa using hi);exact⟨z,by simpa using h1,by simpa[List.getD] using h2⟩
def yM(hc:X.calm=true):dj X (.type "dict") (TH X.K):=by
 intro pins s σ H xs us Q I r h;obtain⟨l,ul,ps,rfl,hS,hP,q⟩:=h;obtain⟨u,rfl,r1⟩:=vals1 r;cases r1;obtain⟨its,rv,pl,hz⟩:=I.list hS;obtain⟨e1,hk⟩:=vh hP;have hA:X.A.in1.in1.handled=none:=I.ok.hd hc;have big:@LT.lt Nat _ sysModules s.heap.objs.size:=I.big;have n6:@Ne Nat s.heap.objs.size sysModules:=by omega
 have hl:=rv.length;refine Bx (n:=ps.length) (ks:=λi=>(ps.getD i (.inl 0,.cY)).1) (vs:=λi=>(ps.getD i (.inl 0,.cY)).2) pl hA (by omega) (by rw[aV];omega) (λi hi=>?_) λh' tk rs k' d' rel=>?_
 .obtain⟨t,ht,X9⟩:=hk i hi;obtain⟨w,hw,rw'⟩:=rv.get ht;cases rw';obtain⟨its2,Yb,pt,_⟩:=I.tuple (cM.of X9);obtain⟨o,ho,hc',n,hd⟩:=pt;cases Yb with
  | cons a1 b1 =>
   cases b1 with
   | cons a2 b2 =>
    cases b2;exact⟨t,_,_,o,n,by simpa using hw,ho,hc',hd,a1,a2⟩
 .have I3:Inv X pins σ H { s with heap:=h',toks:=tk }:=I.kept k';have fd:iH X pins H s.heap.objs.size:=I.nJ (az _) (I.hok.fresh (az _));have I4:=I3.u0 fd (o:=.dK (wV ps)) ⟨bJ (kF _ _ _) (by omega),beq_eq_false_iff_ne.mpr n6,rs,rel,d'⟩;exact⟨.ref _,_,I4,rfl,q _ fd.1⟩
def TJ{us:List V}{ps:List (Key×V)}(hS:bE K H a us)(hP:sI H us ps)(h:∀p H',fh H p (.dK (wV ps)) H'->Q (.ref p) H'):TH K [.ref a] H Q:=⟨a,us,ps,rfl,hS,hP,λp hp=>h p _ ⟨hp,rfl⟩⟩
end
section
variable {H:Hp}{Q:VK}{a:Addr}{kvs:List (Key×V)}
def aaW{x:Int}(hd:H a=some (.dK kvs))(h:Q (.bl (e9 kvs (.inl x)).isSome) H):rDI (.int x) (.ref a) H Q:=⟨a,_,rfl,.inl ⟨kvs,.inl x,.inl hd,rfl,rfl⟩,h⟩
end
theorem lF(f:Nat->Int):∀n,argBest (λi j=>decide (f i>f j)) n<=n/\∀i,i<=n->f i<=f (argBest (λi j=>decide (f i>f j)) n)
 | 0=>⟨az _,λi h=>by rw[Nat.le_zero.mp h];exact Int.le_refl _⟩
 | n+1=>by
  obtain⟨h1,h2⟩:=lF f n;by_cases h:f (n+1)>f (argBest (λi j=>decide (f i>f j)) n)
  .have e:argBest (λi j=>decide (f i>f j)) (n+1)=n+1:=by simp only[argBest];rw[if_pos (decide_eq_true h)]
   rw[e];refine⟨az _,λi hi=>?_⟩;rcases aY i (n+1) with hl|hl
   .have:=h2 i (by omega);omega
   .rw[show i=n+1 by omega];exact Int.le_refl _
  .have e:argBest (λi j=>decide (f i>f j)) (n+1)=argBest (λi j=>decide (f i>f j)) n:=by simp only[argBest];rw[if_neg (by simpa using h)]
   rw[e];refine⟨by omega,λi hi=>?_⟩;rcases aY i (n+1) with hl|hl
   .exact h2 i (by omega)
   .rw[show i=n+1 by omega];omega
theorem vm:∀{xs:List Int}{its:List Value},Vals (xs.map V.int) its->∃ps:List (Int×Tok),its=ps.map (λp=>.int p.1 p.2)/\ps.map (·.1)=xs
 | [],_,.nil=>⟨[],rfl,rfl⟩
 | x::xs,_,.cons r t=>by obtain⟨u,rfl⟩:=r;obtain⟨ps,rfl,e⟩:=vm t;exact⟨(x,u)::ps,rfl,by simp[e]⟩
section
variable {X:Cx}{K:aD}{H:Hp}{Q:VK}{a:Addr}
end
section
variable {K:aD}{σ:St}{H:Hp}{Q:VK}{te:TE}
def PR{x y:V}(d e:PyData)(k:Nat)(hk:k<=64)(hx:RD K H x d)(hy:RD K H y e)(hs:Sh k d)(hs':Sh k e)(h:Q (.bl (PyData.eqv d e)) H):HF K x y H Q:=⟨d,e,hx,hy,hs.shaped hk,hs'.shaped hk,h⟩
end
section
variable {σ:St}{H:Hp}{Q:VK}
end
section
variable {X:Cx}{K:aD}{H:Hp}{Q:VK}{a:Addr}
end
section
variable {X:Cx}{K:aD}{H:Hp}{Q:VK}{σ:St}{a:Addr}
end
section
variable {X:Cx}{tg:Expr}
end
section
variable {K:aD}{nx bk ct:St->Hp->Prop}{rt:VK}{σ:St}{H:Hp}{Q:VK}{te:TE}
end
section
variable {K:aD}{nx:St->Hp->Prop}{rt:VK}{σ:St}{H:Hp}{g:TG}{tb:TS}{a:Addr}{xs:List V}
end
section
variable {K:aD}{H:Hp}{Q:VK}{te:TE}{tt:TT}{τ:St}{a:Addr}{xs:List V}
end
section
variable {nx bk ct:St->Hp->Prop}{rt:VK}{σ:St}{H:Hp}{t u:TS}
def C6(t u:TS):TS:=OT t u
def Yc{D:Ends}(h:C6 t u D σ H):OT t u D σ H:=h
def PU(h:∀nx':St->Hp->Prop,(∀σ H,u ⟨nx,rt,λ_ _=>False,λ_ _=>False⟩ σ H->nx' σ H)->t ⟨nx',rt,λ_ _=>False,λ_ _=>False⟩ σ H):C6 t u ⟨nx,rt,λ_ _=>False,λ_ _=>False⟩ σ H:=h _ λ_ _ x=>x
def By(h:∀nx':St->Hp->Prop,(∀σ H,u ⟨nx,rt,bk,ct⟩ σ H->nx' σ H)->t ⟨nx',rt,bk,ct⟩ σ H):C6 t u ⟨nx,rt,bk,ct⟩ σ H:=h _ λ_ _ x=>x
def PV(h:∀no Yd Ye:St->Hp->Prop,(∀σ H,nx σ H->no σ H)->(∀σ H,bk σ H->Yd σ H)->(∀σ H,ct σ H->Ye σ H)->∀nx':St->Hp->Prop,(∀σ H,u ⟨no,rt,Yd,Ye⟩ σ H->nx' σ H)->t ⟨nx',rt,Yd,Ye⟩ σ H):C6 t u ⟨nx,rt,bk,ct⟩ σ H:=h _ _ _ (λ_ _ x=>x) (λ_ _ x=>x) (λ_ _ x=>x) _ λ_ _ x=>x
def TL{c:TT}(h:∀kt kf:Hp->Prop,(∀H,t ⟨nx,rt,bk,ct⟩ σ H->kt H)->(∀H,u ⟨nx,rt,bk,ct⟩ σ H->kf H)->c σ H λb H1=>if b=true then kt H1 else kf H1):R5 c t u ⟨nx,rt,bk,ct⟩ σ H:=h _ _ (λ_ x=>x) λ_ x=>x
end
end L2
namespace SN
open PySem
variable {xs:Array Nat}
def HR{j:Nat}(hs:xs.toList.Pairwise (· < ·)):∀(fuel lo hi:Nat),hi-lo<=fuel->lo<=hi->hi<=xs.size->(∀i v,i<lo->xs[i]?=some v->v<j)->(∀i v,hi<=i->xs[i]?=some v->j<=v) ->
  ∀p,SetTable.below.go xs j fuel lo hi=p->p<=xs.size/\(∀i v,i<p->xs[i]?=some v->v<j)/\∀i v,p<=i->xs[i]?=some v->j<=v:=by
 have mono:∀{i k:Nat}{v u:Nat},i<k->xs[i]?=some v->xs[k]?=some u->v<u:=λ{i k v u} hik hi hk=>by rw[<- fS] at hi hk;obtain⟨h1,e1⟩:=fu hi;obtain⟨h2,e2⟩:=fu hk;rw[<- e1,<- e2];exact lg.mp hs i k h1 h2 hik
 intro fuel;induction fuel with
 | zero =>
  intro lo hi hf hlh hsz h1 h2 p e;unfold SetTable.below.go at e;subst e;have:lo=hi:=by omega
  exact⟨by omega,h1,λi v hi'=>h2 i v (by omega)⟩
 | succ fuel ih =>
  intro lo hi hf hlh hsz h1 h2 p e;unfold SetTable.below.go at e;by_cases hlt:lo<hi
  .rw[if_pos hlt] at e;dsimp only at e;have hm:(lo+hi) / 2<xs.size:=by omega
   have hg:xs[(lo+hi) / 2]?=some xs[(lo+hi) / 2]:=gw hm;have hgd:xs.getD ((lo+hi) / 2) j=xs[(lo+hi) / 2]:=by simp[Array.getD,hm]
   rw[hgd] at e;by_cases hc:xs[(lo+hi) / 2]<j
   .rw[if_pos hc] at e;refine ih ((lo+hi) / 2+1) hi (by omega) (by omega) hsz (λi v hi' hv=>?_) h2 p e;rcases aY i ((lo+hi) / 2) with hl|hg'
    .have:=mono hl hv hg;omega
    .have:i=(lo+hi) / 2:=by omega
     subst this;rw[hg] at hv;cases hv;exact hc
   .rw[if_neg hc] at e;refine ih lo ((lo+hi) / 2) (by omega) (by omega) (by omega) h1 (λi v hi' hv=>?_) p e;rcases aY ((lo+hi) / 2) i with hl|hg'
    .have:=mono hl hg hv;omega
    .have:i=(lo+hi) / 2:=by omega
     subst this;rw[hg] at hv;cases hv;omega
  .rw[if_neg hlt] at e;subst e;exact⟨by omega,h1,λi v hi'=>h2 i v (by omega)⟩
def kG(hs:xs.toList.Pairwise (· < ·))(j:Nat):SetTable.below xs j<=xs.size/\(∀i v,i<SetTable.below xs j->xs[i]?=some v->v<j)/\∀i v,SetTable.below xs j<=i->xs[i]?=some v->j<=v :=
 HR hs xs.size 0 xs.size (by omega) (by omega) (az _) (λi v h=>absurd h (gG _)) (λi v h hv=>by
  have:=(mK.mp hv).1;omega) _ rfl
def BA(hs:xs.toList.Pairwise (· < ·)):SetTable.below xs 0=0:=by
 obtain⟨h1,h2,_⟩:=kG hs 0;rcases Nat.eq_zero_or_pos (SetTable.below xs 0) with e|hp
 .exact e
 .have:=h2 0 xs[0] hp (gw (by omega));omega
def BB(hs:xs.toList.Pairwise (· < ·)){i v:Nat}(hv:xs[i]?=some v):SetTable.below xs (v+1)=i+1:=by
 obtain⟨h1,h2,h3⟩:=kG hs (v+1);have hi:=(mK.mp hv).1;have mono:∀{i k:Nat}{v u:Nat},i<k->xs[i]?=some v->xs[k]?=some u->v<u:=λ{i k v u} hik hi hk=>by rw[<- fS] at hi hk;obtain⟨h1,e1⟩:=fu hi;obtain⟨h2,e2⟩:=fu hk;rw[<- e1,<- e2];exact lg.mp hs i k h1 h2 hik
 rcases lX (SetTable.below xs (v+1)) (i+1) with hl|he|hg
 .have:=h3 i v (by omega) hv;omega
 .exact he
 .have hk:i+1<xs.size:=by omega
  have hu:=gw hk;have h4:=h2 (i+1) _ hg hu;have h5:=mono (g8 i) hv hu;omega
def mP(hs:xs.toList.Pairwise (· < ·)){j:Nat}(hj:∀(i:Nat)(v:Nat),xs[i]?=some v->v≠j):(SetTable.insertAt xs (SetTable.below xs j) j).toList.Pairwise (· < ·):=by
 obtain⟨h1,h2,h3⟩:=kG hs j;rw[SetTable.toList_insertAt];have hmt:∀v∈xs.toList.take (SetTable.below xs j),v<j:=λv hv=>by
  obtain⟨i,hi⟩:=fW.mp hv;have hlt:i<SetTable.below xs j:=by have:=(fu hi).1;rw[cF] at this;omega
  rw[rQ hlt,fS] at hi;exact h2 i v hlt hi
 have hmd:∀v∈xs.toList.drop (SetTable.below xs j),j<v:=λv hv=>by obtain⟨i,hi⟩:=fW.mp hv;rw[List.getElem?_drop,fS] at hi;have h4:=h3 _ v (nc _ _) hi;have h5:=hj _ v hi;omega
 rw[List.pairwise_append];refine⟨hs.sublist (List.take_sublist ..),?_,λa ha b hb=>?_⟩
 .rw[pK];exact⟨hmd,hs.sublist (List.drop_sublist ..)⟩
 .have:=hmt a ha;rcases aI.mp hb with e|hb
  .omega
  .have:=hmd b hb;omega
end SN
namespace SG
open PySem
variable {led:Bool}{es:Array (Int×Value)}{t:SetTable}{j ep i:Nat}{a it tp:Addr}{o:Obj}{Q:Value->Shared->Prop}{ys:List Nat}{ns:List Int}
structure Tab (led:Bool) (es:Array (Int×Value)) (t:SetTable):Prop where
 led:t.led=led
 E5:t.dummies=#[]
 up:t.place.toList.Pairwise (· < ·)
 fits:t.fits es.size=true
def Tab.sz(T:Tab led es t):t.place.size=es.size:=by have:=T.fits;unfold SetTable.fits at this;simp only[rH,beq_iff_eq] at this;exact this.1
def nS(h:t.dummies=#[])(j:Nat):SetTable.has t.dummies j=false:=by unfold SetTable.has;rw[h];simp
def nv(hs:t.place.toList.Pairwise (· < ·))(h:t.slot j=.empty):∀(i:Nat)(v:Nat),t.place[i]?=some v->v≠j:=by
 intro i v hv e;subst e;obtain⟨h1,h2,h3⟩:=SN.kG hs v;have hi:SetTable.below t.place v<=i:=by
  rcases aY i (SetTable.below t.place v) with hl|hg
  .exact absurd (h2 i v hl hv) (fZ _)
  .exact hg
 have hlt:=(mK.mp hv).1;have hb:SetTable.below t.place v<t.place.size:=Nat.lt_of_le_of_lt hi hlt;have hg:=gw hb;have h4:=h3 _ _ (az _) hg;have hi2:SetTable.below t.place v=i:=by
  rcases aY (SetTable.below t.place v) i with hl|hge
  .rw[<- fS] at hv hg;obtain⟨a1,e1⟩:=fu hg;obtain⟨a2,e2⟩:=fu hv;have:=lg.mp hs _ _ a1 a2 hl;rw[e1,e2] at this;omega
  .omega
 unfold SetTable.slot at h;dsimp only at h;rw[hi2,hv] at h;simp at h
def yN(hd:t.dummies=#[])(f:Nat->Int)(x:Int):∀(fuel:Nat)(p:SetTable.Probe)(j:Nat)(dm:Option Nat),p.dummy=none->SetTable.probe.go t f x fuel p=some (.empty j dm)->dm=none/\t.slot j=.empty:=by
 intro fuel;induction fuel with
 | zero=>intro p j dm _ h;cases h
 | succ fuel ih =>
  intro p j dm hp h;have adv:(t.advance p).dummy=none:=by unfold SetTable.advance;split<;>exact hp
  unfold SetTable.probe.go at h;cases hs:t.slot p.j with
  | empty =>
   rw[hs] at h;cases h;exact⟨hp,hs⟩
  | dummy =>
   exfalso;unfold SetTable.slot at hs;dsimp only at hs;rw[nS hd] at hs;split at hs<;>cases hs
  | live i =>
   rw[hs] at h;dsimp only at h;split at h
   .cases h
   .exact ih _ j dm adv h
def E6(hd:t.dummies=#[]){x:Int}{b:Bool}(h:t.freeSlot x=some (j,b)):b=false/\t.slot j=.empty:=by
 unfold SetTable.freeSlot at h;cases e:t.probe (λ_=>x+1) x (t.probeStart x) with
 | none=>rw[e] at h;cases h
 | some m =>
  cases m with
  | candidate _ _ _=>rw[e] at h;cases h
  | empty k dm =>
   rw[e] at h;obtain⟨rfl,h2⟩:=yN hd _ _ _ _ k dm rfl e;cases h;exact⟨rfl,h2⟩
def nT(n:Nat):(Array.range n).toList.Pairwise (· < ·):=by rw[Array.toList_range];exact wu
def Tab.lay(T:Tab led es t)(h:Int)(x:Value):
  ∃es1 t1 gv,layNew t es h x=(es1,t1,false,gv)/\Tab led es1 t1/\es1.toList.Perm (es.toList++[(h,x)]):=by
 have hp:=layNew_perm t es h x;have hf:=layNew_fits t es h x;rw[Array.toList_push] at hp;cases e:t.freeSlot h with
 | none =>
  have el:layNew t es h x=(es.push (h,x),t.standIn (es.size+1),false,true):=by unfold layNew;rw[e]
  rw[el] at hp hf;exact⟨_,_,_,el,⟨T.led,rfl,nT _,hf⟩,hp⟩
 | some q =>
  obtain⟨j,b⟩:=q;obtain⟨rfl,hs⟩:=E6 T.E5 e;have PX:t.put j=({ t with place:=SetTable.insertAt t.place (SetTable.below t.place j) j },SetTable.below t.place j):=by unfold SetTable.put;rw[nS T.E5];rfl
  have el:layNew t es h x=(SetTable.insertAt es (SetTable.below t.place j) (h,x),({ t with place:=SetTable.insertAt t.place (SetTable.below t.place j) j }:SetTable).orStandIn (SetTable.insertAt es (SetTable.below t.place j) (h,x)).size,false,!({ t with place:=SetTable.insertAt t.place (SetTable.below t.place j) j }:SetTable).fits (SetTable.insertAt es (SetTable.below t.place j) (h,x)).size):=by unfold layNew;rw[e];dsimp only;rw[PX]
  rw[el] at hp hf;dsimp only at hp hf;refine⟨_,_,_,el,⟨?_,?_,?_,hf⟩,hp⟩
  .unfold SetTable.orStandIn;split<;>exact T.led
  .unfold SetTable.orStandIn;split
   .exact T.E5
   .rfl
  .unfold SetTable.orStandIn;split
   .exact SN.mP T.up (nv T.up hs)
   .exact nT _
def Tab.TM(T:Tab led es t)(n:Nat):
    ∃es1 t1 gv,relayAll t es n=(es1,t1,gv)/\Tab led es1 t1/\es1.toList.Perm es.toList:=by
  have hp:=relayAll_perm t es n;have hf:=relayAll_fits t es n;generalize hR:relayAll t es n=R at hp hf;obtain⟨es1,t1,gv⟩:=R;dsimp only at hp hf;refine⟨es1,t1,gv,rfl,⟨?_,?_,?_,hf⟩,hp⟩<;>clear hp hf<;>unfold relayAll at hR<;>cases e:t.relaid (es.map (·.1)) n with
  | none =>
    rw[e] at hR;cases hR
    first|exact T.led|rfl|exact nT _
  | some q =>
    obtain⟨t',od⟩:=q;rw[e] at hR;dsimp only at hR;split at hR
    · obtain⟨rfl,rfl,_⟩:_/\_/\_:=by simpa only[Prod.mk.injEq] using hR
      unfold SetTable.relaid SetTable.laid at e;cases e2:SetTable.layClean (SetTable.sizeAbove n-1) (es.map (·.1)) with
      | none=>rw[e2] at e;cases e
      | some ow =>
        rw[e2] at e;cases e
        first
          | exact T.led
          | rfl
          | (rw[List.toList_toArray,lq]
             refine List.Pairwise.filterMap _ (λa b hab x hx y hy=>?_) (wu (n:=SetTable.sizeAbove n-1+1));obtain⟨_,_,rfl⟩:=di.mp hx;obtain⟨_,_,rfl⟩:=di.mp hy;exact hab)
    · cases hR
      first|exact T.led|rfl|exact nT _
open PySem.Spec PyProof.Rows
def cC(w:World):Bool:=w.params.followText "set-order"
def Lw:entryFor table "set.__iter__" = some Builtin.«frozenset.__iter__»:=entryFor_alias (id' := "frozenset.__iter__") (by kernel_rfl) rfl (by decide +kernel) (by kernel_rfl)
def gm:Slot "set_iterator" "__next__" "set_iterator.__next__" := .of (owner := "set_iterator") (n := "__next__") (by rw[typeLookup_type,builtinLookup_eq_fast];kernel_rfl) (by decide +kernel) (by decide +kernel) (by decide +kernel) (by first|exact .inl (by decide +kernel)|exact .inr (by decide +kernel)) (by rw[isSubtype_type];kernel_rfl)
def qN:entryFor table "set_iterator.__next__" = some Builtin.«set_iterator.__next__»:=entryFor_of_tree (by kernel_rfl)
def qO(a:Value):argsOk "set_iterator.__next__" ⟨[a],[]⟩:=by unfold argsOk;kernel_rfl
def qP:Slot "set_iterator" "__iter__" "set_iterator.__iter__" := .of (owner := "set_iterator") (n := "__iter__") (by rw[typeLookup_type,builtinLookup_eq_fast];kernel_rfl) (by decide +kernel) (by decide +kernel) (by decide +kernel) (by first|exact .inl (by decide +kernel)|exact .inr (by decide +kernel)) (by rw[isSubtype_type];kernel_rfl)
def C7:entryFor table "set_iterator.__iter__" = some Builtin.«dict_keyiterator.__iter__»:=entryFor_alias (id' := "dict_keyiterator.__iter__") (by kernel_rfl) rfl (by decide +kernel) (by kernel_rfl)
def C8(a:Value):argsOk "set_iterator.__iter__" ⟨[a],[]⟩:=by unfold argsOk;kernel_rfl
def ord(w:World)(a:Addr)(es:Array (Int×Value))(ep:Nat):Array (Int×Value):=if cC w=true then pickOrder (w.params.setOrder a ep) es else es
theorem ny{α:Type}:∀(l:List α)(i:Nat)(h:i<l.length),(l[i]::l.eraseIdx i).Perm l
 | x::l,0,_=>mW _
 | x::l,i+1,h=>by
  have hi:i<l.length:=by simpa using h
  simp only[List.getElem_cons_succ,wo];exact(List.Perm.swap x l[i] _).trans ((ny l i hi).cons x)
theorem vn{α:Type}(nx:Nat->Nat):∀(fuel k:Nat)(left:List α)(out:Array α),left.length<=fuel->(pickOrder.go nx fuel k left out).toList.Perm (out.toList++left)
 | 0,k,left,out,h=>by
  unfold pickOrder.go;rw[List.eq_nil_of_length_eq_zero (Nat.le_zero.mp h),i0]
 | fuel+1,k,left,out,h=>by
  unfold pickOrder.go;cases e:left[nx k % left.length]? with
  | none =>
   dsimp only;have:left=[]:=by
    cases left with
    | nil=>rfl
    | cons x l =>
     have hlt:nx k % (x::l).length<(x::l).length:=Nat.mod_lt _ (Nat.zero_lt_succ _);rw[fO hlt] at e;cases e
   rw[this,i0]
  | some x =>
   dsimp only;obtain⟨hlt,ex⟩:=fu e;have hl:(left.eraseIdx (nx k % left.length)).length<=fuel:=by rw[List.length_eraseIdx_of_lt hlt];omega
   refine(vn nx fuel (k+1) _ (out.push x) hl).trans ?_;rw[Array.toList_push,mX];refine List.Perm.append_left _ ?_;have:=ny left _ hlt;rw[ex] at this;exact this
def HS(w:World)(a:Addr)(es:Array (Int×Value))(ep:Nat):(ord w a es ep).toList.Perm es.toList:=by
 unfold ord;split
 .unfold pickOrder;have:=vn (w.params.setOrder a ep) es.size 0 es.toList #[] (by simp);simpa using this
 .exact mW _
def uF{M:Model}{A:Around}{E:Value->Shared->Prop}{s:Shared}{src:Source}{n:Nat}{Q:Nat->Shared->Prop}(hn:n≠0)(h:∀i,i<n->Q i { s with drawn:=s.drawn.bump src }):wpAny M A (choose src n) Q E s :=
 λ_ _ _=>⟨hn,h _ (Nat.mod_lt _ (Nat.pos_of_ne_zero hn))⟩
theorem sJ{M:Model}{A:Around}{E:Value->Shared->Prop}{α:Type}:∀(n:Nat)(xs:List α)(s:Shared)(Q:List α->Shared->Prop),xs.length<=n->(∀ys d',ys.Perm xs->Q ys { s with drawn:=d' })->wpAny M A (drawOrder n xs) Q E s
 | 0,xs,s,Q,hn,h=>by
  have:xs=[]:=List.eq_nil_of_length_eq_zero (Nat.le_zero.mp hn);subst this;exact aL (h [] s.drawn (mW _))
 | n+1,[],s,Q,hn,h=>aL (h [] s.drawn (mW _))
 | n+1,x::xs,s,Q,hn,h=>by
  unfold drawOrder;refine aq (uF (by simp) λi hi=>?_);have e:(x::xs)[i]?=some (x::xs)[i]:=fO hi;rw[e];dsimp only;have hl:((x::xs).eraseIdx i).length<=n:=by rw[List.length_eraseIdx_of_lt hi];simp only[eB] at hn ⊢;omega
  refine aq (sJ n _ _ _ hl λys d' hp=>aL ?_);exact h _ d' ((hp.cons _).trans (ny _ i hi))
section
variable {prog:Program}{w:World}{A:Around}{E:Value->Shared->Prop}{s:Shared}
def Still(w:World)(es:Array (Int×Value))(t:SetTable):Prop:=cC w=true\/t.plain=true\/es.size<=1
def E7(w:World)(a:Addr)(o:Obj)(es:Array (Int×Value))(ep:Nat)(t:SetTable)(it:Addr)(i:Nat)(h:Heap):Prop :=
 h.get? a=some o/\∃oi sl,h.get? it=some oi/\oi.cls=.type "set_iterator" /\ oi.data=.fields #[.int ((sl:Nat):Int) 0,.int ((i:Nat):Int) 0,.ref a,.int ((es.size:Nat):Int) 0,.int ((ep:Nat):Int) 0]/\(cC w=false->SetTable.below t.place sl=i)
def E7.ty(h:E7 w a o es ep t it i s.heap):s.TypeIs (.ref it) "set_iterator" := by obtain⟨_,oi,sl,h1,h2,_⟩:=h;exact⟨oi,h1,h2⟩
def C9{o:Obj}{sl:Nat}{Q:Option (Value×Nat)->Shared->Prop}(ho:s.heap.get? a=some o)(hd:o.data=.set es ep t)(T:Tab (!cC w) es t)(hst:Still w es t)(hb:cC w=false->SetTable.below t.place sl=i)
  (h:∀Gy,(∀e,(ord w a es ep)[i]?=some e->cC w=false->SetTable.below t.place Gy=i+1)->Q ((ord w a es ep)[i]?.map λe=>(e.2,Gy)) s):wpAny (model prog w) A (setNext a sl i ep) Q E s:=by
 unfold setNext;refine aq (wpAny_setState_of ho hd T.fits ?_);dsimp only;unfold setsByText;refine aq (aq (wpAny_askSetting (aL ?_)));show wpAny _ _ (if cC w=true then _ else _) _ _ _;cases hx:cC w with
 | true =>
  rw[if_pos rfl];simp only[bne_self_eq_false,bV,if_false];refine aq ?_;unfold setWalk;refine aq (wpAny_setState_of ho hd T.fits ?_);dsimp only;unfold setsByText;refine aq (aq (wpAny_askSetting (aL ?_)));show wpAny _ _ (if cC w=true then _ else _) _ _ _;rw[if_pos hx];refine aq (wpAny_askSetting (aL (aL ?_)));have:=h sl (λe _ z=>by rw[hx] at z;cases z);unfold ord at this;rw[if_pos hx] at this;exact this
 | false =>
  rw[if_neg (by decide)];have TN:t.led=true:=by rw[T.led,hx];rfl
  have hz:=T.sz;have hup:=T.up;have hb':=hb hx;have ho':ord w a es ep=es:=by unfold ord;rw[hx];rfl
  rw[ho'] at h;have hdr:(!t.plain&&decide (es.size>1))=false:=by
   rcases hst with e|e|e
   .rw[hx] at e;cases e
   .rw[e];rfl
   .have:decide (es.size>1)=false:=decide_eq_false (by omega);rw[this,Bool.and_false]
  clear T hb ho hd hst;obtain⟨mask,place,dummies,finger,led,moves,plain⟩:=t;dsimp only at TN hz hup hb' h hdr;subst TN;show wpAny _ _ (if(!plain&&decide (es.size>1))=true then _ else _) _ _ _;rw[if_neg (by rw[hdr];decide)];refine aq (wpAny_of_eq (a:=()) rfl ?_);dsimp only;rw[hb'];rcases aY i es.size with hlt|hge
  .have e1:es[i]?=some es[i]:=gw hlt;have e2:place[i]?=some place[i]:=gw (by omega);rw[e1,e2];refine aL ?_;have:=h (place[i]+1) (λ_ _ _=>SN.BB hup e2);rw[e1] at this;exact this
  .have e1:es[i]?=none:=qj hge;rw[e1];refine aL ?_;have:=h 0 (λe z=>by rw[e1] at z;cases z);rw[e1] at this;exact this
def Lx{e:Int×Value}{Q:Option Value->Shared->Prop}(hne:a≠it)(hd:o.data=.set es ep t)(T:Tab (!cC w) es t)(hst:Still w es t)
  (I:E7 w a o es ep t it i s.heap)(hi:(ord w a es ep)[i]?=some e)(hQ:∀h',E7 w a o es ep t it (i+1) h'->(∀b x,b≠it->s.heap.get? b=some x->h'.get? b=some x)->Q (some e.2) { s with heap:=h' }):wpAny (model prog w) A (pyNext (.ref it)) Q E s:=by
 have ty:=I.ty;obtain⟨ho,oi,sl,yd,hc,hf,hb⟩:=I;unfold pyNext;refine aq (wpAny_attempt (wpAny_callSpecial?_slot (name:=Str.ofString "__next__") ty gm (wpAny_call_entry gm ty qN ?_ (qO _))));unfold Builtin.«set_iterator.__next__»;refine aq (wpAny_of_eq (a:=(Value.ref it,[])) rfl ?_);refine aq (wpAny_fieldsOf yd hf ?_);dsimp only;refine aq (wpAny_setEntries_of ho hd T.fits ?_);rw[if_neg (by simp)];rw[show((sl:Nat):Int).toNat=sl from rfl,show((i:Nat):Int).toNat=i from rfl,show((ep:Nat):Int).toNat=ep from rfl];refine aq (C9 ho hd T hst hb λGy hb'=>?_);rw[hi];show wpAny _ _ (do setField (.ref it) 0 (rawInt Gy);setField (.ref it) 1 (rawInt ((i:Int)+1));ret e.2) _ _ s;have g1:=fE (Obj.mapFields (·.setIfInBounds 0 (rawInt Gy))) yd (iO (dG hf _));have d1:=dG hf (·.setIfInBounds 0 (rawInt Gy));refine aq (wpAny_setField yd hf (by simp) (aq (wpAny_setField g1 d1 (by simp) (aL ⟨_,rfl,aL (hQ _ ?_ λb x hb e=>?_)⟩))))
 .have hk:∀(f g:Obj->Obj)(b:Addr)(x:Obj),b≠it->s.heap.get? b=some x->((s.heap.update it f).update it g).get? b=some x:=λf g b x hb e=>by rw[fU _ _ _ _ hb,fU _ _ _ _ hb];exact e
  refine⟨hk _ _ _ _ hne ho,_,Gy,fE _ g1 (iO (dG d1 _)),(kh ..).trans ((kh ..).trans hc),?_,λhx=>hb' e hi hx⟩;rw[dG d1];simp[rawInt]
 .rw[fU _ _ _ _ hb,fU _ _ _ _ hb];exact e
def PY{Q:Option Value->Shared->Prop}(hh:A.handled=none)(hne:a≠it)(hd:o.data=.set es ep t)(T:Tab (!cC w) es t)(hst:Still w es t)
  (I:E7 w a o es ep t it i s.heap)(hi:(ord w a es ep)[i]?=none)(hQ:∀h',(∀b x,b≠it->s.heap.get? b=some x->h'.get? b=some x)->Q none { s with heap:=h' }):wpAny (model prog w) A (pyNext (.ref it)) Q E s:=by have ty:=I.ty;obtain⟨ho,oi,sl,yd,hc,hf,hb⟩:=I;unfold pyNext;refine aq (wpAny_attempt (wpAny_callSpecial?_slot (name:=Str.ofString "__next__") ty gm (wpAny_call_entry gm ty qN ?_ (qO _))));unfold Builtin.«set_iterator.__next__»;refine aq (wpAny_of_eq (a:=(Value.ref it,[])) rfl ?_);refine aq (wpAny_fieldsOf yd hf ?_);dsimp only;refine aq (wpAny_setEntries_of ho hd T.fits ?_);rw[if_neg (by simp)];rw[show((sl:Nat):Int).toNat=sl from rfl,show((i:Nat):Int).toNat=i from rfl,show((ep:Nat):Int).toNat=ep from rfl];refine aq (C9 ho hd T hst hb λGy hb'=>?_);rw[hi];show wpAny _ _ (do setField (.ref it) 2 .none;raiseNew (<- newExc (.type "StopIteration") [])) _ _ s;refine aq (wpAny_setField yd hf (by simp) (aq ?_));simp only[newExc,newTuple];refine aq (wpAny_newObj_type (aq (m:=firstArgMember _ _) (wpAny_of_eq (a:=Value.none) (by first|rfl|(simp only[firstArgMember];rfl)) (wpAny_newObj_type ?_ (by size_fits)))) (by size_fits));simp only[raiseNew];refine aq (wpAny_handled ?_);rw[show A.in1.handled=none from hh];refine aq (aL (wpAny_throw ?go));refine aq (wpAny_isInstance (T := "StopIteration") (b:=true) (⟨_,iE _ rfl,rfl⟩) isSubtype_stop ?_);refine aL (hQ _ λb x hb e=>?_);exact c9 _ (c9 _ (by rw[fU _ _ _ _ hb];exact e))
def E8(hh:A.handled=none)(hne:a≠it)(hd:o.data=.set es ep t)(T:Tab (!cC w) es t)(hst:Still w es t):
  Walks prog w A it [it,a] [it] (ord w a es ep).size (λi v=>∃e,(ord w a es ep)[i]?=some e/\v=e.2) (λi h=>E7 w a o es ep t it i h) where
 sub:=λb hb=>by simp at hb;simp[hb]
 frame:=λi h h' st hk=>by obtain⟨h1,oi,sl,h2,r⟩:=st;exact⟨hk a (by simp) o h1,oi,sl,hk it (by simp) oi h2,r⟩
 item:=λi s Q E hi st hQ=>Lx hne hd T hst st (gw hi) λh' st' hk=>hQ _ h' s.toks ⟨_,gw hi,rfl⟩ st' λb x hb e=>hk b x (λz=>hb (by simp[z])) e
 done:=λs Q E st hQ=>PY hh hne hd T hst st (qj (az _)) λh' hk=>hQ h' s.toks λb x hb e=>hk b x (λz=>hb (by simp[z])) e
 self:=λi s Q E st hQ=>by have ty:=st.ty;refine wpAny_pyIter_slot ty qP (wpAny_call_entry qP ty C7 ?_ (C8 _));show wpAny _ _ (ret (.ref it)) _ _ s;exact aL ⟨_,rfl, "set_iterator", _,ty,gm.lookup,hQ⟩
def E9(a:Addr)(o:Obj)(es:Array (Int×Value))(ep:Nat)(tp:Addr)(ys:List Nat)(it:Addr)(i:Nat)(h:Heap):Prop :=
 h.get? a=some o/\(∃ot n,h.get? tp=some ot/\ot.data=.seq (ys.map λ(j:Nat)=>rawInt j).toArray n)/\∃oi,h.get? it=some oi/\oi.cls=.type "set_iterator" /\ oi.data=.fields #[.ref tp,.int ((i:Nat):Int) 0,.ref a,.int ((es.size:Nat):Int) 0,.int ((ep:Nat):Int) 0]
def E9.ty(h:E9 a o es ep tp ys it i s.heap):s.TypeIs (.ref it) "set_iterator" := by obtain⟨_,_,oi,h1,h2,_⟩:=h;exact⟨oi,h1,h2⟩
def Ly{t:SetTable}{e:Int×Value}{Q:Option Value->Shared->Prop}(hne:a≠it)(hnt:tp≠it)(hd:o.data=.set es ep t)(hfit:t.fits es.size=true)
  (I:E9 a o es ep tp ys it i s.heap)(hi:ys[i]?=some j)(he:es[j]?=some e)(hQ:∀h',E9 a o es ep tp ys it (i+1) h'->(∀b x,b≠it->s.heap.get? b=some x->h'.get? b=some x)->Q (some e.2) { s with heap:=h' }):wpAny (model prog w) A (pyNext (.ref it)) Q E s:=by
 have ty:=I.ty;obtain⟨ho,⟨ot,nt,AZ,hdt⟩,oi,yd,hc,hf⟩:=I;unfold pyNext;refine aq (wpAny_attempt (wpAny_callSpecial?_slot (name:=Str.ofString "__next__") ty gm (wpAny_call_entry gm ty qN ?_ (qO _))));unfold Builtin.«set_iterator.__next__»;refine aq (wpAny_of_eq (a:=(Value.ref it,[])) rfl ?_);refine aq (wpAny_fieldsOf yd hf ?_);dsimp only;refine aq (wpAny_setEntries_of ho hd hfit ?_);rw[if_neg (by simp)];refine aq (wpAny_seqItems AZ hdt ?_);dsimp only;rw[show((i:Nat):Int).toNat=i from rfl];have e1:((ys.map λ(j:Nat)=>rawInt j).toArray)[i]?=some (rawInt j):=by rw[k7,bw,hi];rfl
 rw[e1];show wpAny _ _ (do let x <- setNextDrawn a ((j:Nat):Int).toNat ((ep:Nat):Int).toNat;setField (.ref it) 1 (rawInt ((i:Int)+1));ret x) _ _ s;rw[show((j:Nat):Int).toNat=j from rfl,show((ep:Nat):Int).toNat=ep from rfl];refine aq ?_;unfold setNextDrawn;refine aq (wpAny_setState_of ho hd hfit ?_);dsimp only;rw[if_neg (by simp),he];refine aL ?_;refine aq (wpAny_setField yd hf (by simp) (aL ⟨_,rfl,aL (hQ _ ?_ λb x hb e=>?_)⟩))
 .refine⟨by rw[fU _ _ _ _ hne];exact ho,⟨ot,nt,by rw[fU _ _ _ _ hnt];exact AZ,hdt⟩,_,fE _ yd (iO (dG hf _)),(kh ..).trans hc,?_⟩;rw[dG hf];simp[rawInt]
 .rw[fU _ _ _ _ hb];exact e
def PZ{t:SetTable}{Q:Option Value->Shared->Prop}(hh:A.handled=none)(hne:a≠it)(hd:o.data=.set es ep t)(hfit:t.fits es.size=true)
  (I:E9 a o es ep tp ys it i s.heap)(hi:ys[i]?=none)(hQ:∀h',(∀b x,b≠it->s.heap.get? b=some x->h'.get? b=some x)->Q none { s with heap:=h' }):wpAny (model prog w) A (pyNext (.ref it)) Q E s:=by
 have ty:=I.ty;obtain⟨ho,⟨ot,nt,AZ,hdt⟩,oi,yd,hc,hf⟩:=I;unfold pyNext;refine aq (wpAny_attempt (wpAny_callSpecial?_slot (name:=Str.ofString "__next__") ty gm (wpAny_call_entry gm ty qN ?_ (qO _))));unfold Builtin.«set_iterator.__next__»;refine aq (wpAny_of_eq (a:=(Value.ref it,[])) rfl ?_);refine aq (wpAny_fieldsOf yd hf ?_);dsimp only;refine aq (wpAny_setEntries_of ho hd hfit ?_);rw[if_neg (by simp)];refine aq (wpAny_seqItems AZ hdt ?_);dsimp only;rw[show((i:Nat):Int).toNat=i from rfl];have e1:((ys.map λ(j:Nat)=>rawInt j).toArray)[i]?=none:=by rw[k7,bw,hi];rfl
 rw[e1];show wpAny _ _ (do setField (.ref it) 0 (rawInt 0);setField (.ref it) 2 .none;raiseNew (<- newExc (.type "StopIteration") [])) _ _ s;have g1:=fE (Obj.mapFields (·.setIfInBounds 0 (rawInt 0))) yd (iO (dG hf _));have d1:=dG hf (·.setIfInBounds 0 (rawInt 0));refine aq (wpAny_setField yd hf (by simp) (aq (wpAny_setField g1 d1 (by simp) (aq ?_))));simp only[newExc,newTuple];refine aq (wpAny_newObj_type (aq (m:=firstArgMember _ _) (wpAny_of_eq (a:=Value.none) (by first|rfl|(simp only[firstArgMember];rfl)) (wpAny_newObj_type ?_ (by size_fits)))) (by size_fits));simp only[raiseNew];refine aq (wpAny_handled ?_);rw[show A.in1.handled=none from hh];refine aq (aL (wpAny_throw ?go));refine aq (wpAny_isInstance (T := "StopIteration") (b:=true) (⟨_,iE _ rfl,rfl⟩) isSubtype_stop ?_);refine aL (hQ _ λb x hb e=>?_);exact c9 _ (c9 _ (by rw[fU _ _ _ _ hb,fU _ _ _ _ hb];exact e))
def qo(es:Array (Int×Value))(ys:List Nat):Array (Int×Value):=(ys.map λj=>es.toList.getD j (0,.none)).toArray
def BC(h:ys.Perm (List.range es.size)):(qo es ys).toList.Perm es.toList:=by
 unfold qo;rw[List.toList_toArray];refine(h.map _).trans ?_;have:(List.range es.size).map (λj=>es.toList.getD j (0,.none))=es.toList:=by refine List.ext_getElem (by simp) λi h1 h2=>?_;simp only[rS,List.getElem_range];rw[mJ,fO h2];rfl
 rw[this]
def yO(hh:A.handled=none){t:SetTable}(hne:a≠it)(hnt:tp≠it)(hd:o.data=.set es ep t)(hfit:t.fits es.size=true)(hp:ys.Perm (List.range es.size)):
  Walks prog w A it [it,a,tp] [it] (qo es ys).size (λi v=>∃e,(qo es ys)[i]?=some e/\v=e.2) (λi h=>E9 a o es ep tp ys it i h) where
 sub:=λb hb=>by simp at hb;simp[hb]
 frame:=λi h h' st hk=>by obtain⟨h1,⟨ot,nt,h2,h3⟩,oi,h4,r⟩:=st;exact⟨hk a (by simp) o h1,⟨ot,nt,hk tp (by simp) _ h2,h3⟩,oi,hk it (by simp) oi h4,r⟩
 item:=λi s Q E hi st hQ=>by
  have hi':i<ys.length:=by simpa[qo] using hi
  have e1:ys[i]?=some ys[i]:=fO hi';have hj:ys[i]<es.size:=fX.mp (hp.mem_iff.mp (jI hi'));have e2:es[ys[i]]?=some es[ys[i]]:=gw hj;refine Ly hne hnt hd hfit st e1 e2 λh' st' hk=>hQ _ h' s.toks ⟨es[ys[i]],?_,rfl⟩ st' λb x hb e=>hk b x (λz=>hb (by simp[z])) e;unfold qo;rw[k7,bw,e1];show some (es.toList.getD ys[i] (0,.none))=_;rw[mJ,fS,e2];rfl
 done:=λs Q E st hQ=>PZ hh hne hd hfit st (by simp[qo]) λh' hk=>hQ h' s.toks λb x hb e=>hk b x (λz=>hb (by simp[z])) e
 self:=λi s Q E st hQ=>by have ty:=st.ty;refine wpAny_pyIter_slot ty qP (wpAny_call_entry qP ty C7 ?_ (C8 _));show wpAny _ _ (ret (.ref it)) _ _ s;exact aL ⟨_,rfl, "set_iterator", _,ty,gm.lookup,hQ⟩
def HU{o:Obj}{t:SetTable}(ho:s.heap.get? a=some o)(hx:o.ExactSet)(hd:o.data=.set es ep t)(T:Tab (!cC w) es t)(hsz:es.size<=100000)
  (h:∀(it:Addr)(h':Heap)(d':Drawn)(fp:List Addr)(od:Array (Int×Value))(St:Nat->Heap->Prop),(∀b x,s.heap.get? b=some x->h'.get? b=some x)->s.heap.objs.size<=it->(∀b∈fp,b=a\/s.heap.objs.size<=b)->od.toList.Perm es.toList ->
   (∀A':Around,A'.handled=none->Walks prog w A' it fp [it] od.size (λi v=>∃e,od[i]?=some e/\v=e.2) St)->St 0 h'->Q (.ref it) { s with heap:=h',drawn:=d' }):wpAny (model prog w) A (pyIter (.ref a)) Q E s:=by
 have ty:s.TypeIs (.ref a) "set" := ⟨o,ho,hx.1⟩;have hlt:=aK ho;refine wpAny_pyIter_slot ty F.slot_set_iter (wpAny_call_entry F.slot_set_iter ty Lw ?_ (F.args_set_iter_1 _));unfold Builtin.«frozenset.__iter__»;refine aq (wpAny_of_eq (a:=a) rfl ?_);refine aq (m:=Builtin.Frozenset.sizeOf a) (aq (wpAny_setEntries_of ho hd T.fits (aL ?_)));unfold setDrawn;refine aq (aq (wpAny_setState_of ho hd T.fits ?_));dsimp only;unfold setsByText;refine aq (aq (wpAny_askSetting (aL (aL ?_))));show wpAny _ _ (if(!cC w&&(!t.plain&&decide (es.size>1)))=true then _ else _) _ _ _;by_cases hdr:(!cC w&&(!t.plain&&decide (es.size>1)))=true
 .rw[if_pos hdr];refine aq (sJ es.size (List.range es.size) s _ (by simp) λys d' hp=>?_);have hyl:ys.length=es.size:=by rw[hp.length_eq,gU]
  refine aq (wpAny_newTuple ?_ (by rw[av,hyl,sizeLine_eq];omega));refine aq (wpAny_setEpoch_of (c9 _ ho) hd T.fits (aq (wpAny_newObj_type (aL ⟨_,rfl, "set_iterator", _,⟨_,iE _ rfl,rfl⟩,gm.lookup,?_⟩))));dsimp only;have hz:(s.heap.push { cls:=.type "tuple", data:=.seq (ys.map λ(i:Nat)=>rawInt i).toArray }).objs.size=s.heap.objs.size+1:=by rw[fF]
  refine h _ _ d' [_,a,s.heap.objs.size] (qo es ys) _ (λb x e=>c9 _ (c9 _ e)) (by rw[hz];exact lu _) (λb hb=>?_) (BC hp) (λA' hA=>yO hA (tp:=s.heap.objs.size) (by rw[hz];exact aQ (jo hlt)) (by rw[hz];exact aQ (g8 _)) hd T.fits hp) ?_
  .simp only[aI,fY,or_false] at hb;rcases hb with e|e|e
   .rw[e,hz];exact .inr (lu _)
   .exact .inl e
   .rw[e];exact .inr (az _)
  .exact⟨c9 _ (c9 _ ho),⟨_,_,c9 _ (iE _ rfl),rfl⟩,_,iE _ rfl,rfl,rfl⟩
 .rw[if_neg hdr];have hst:Still w es t:=by
   unfold Still;cases hb:cC w
   .cases hpl:t.plain
    .rw[hb,hpl] at hdr;simp at hdr;exact .inr (.inr hdr)
    .exact .inr (.inl rfl)
   .exact .inl rfl
  refine aq (aL (aq (wpAny_setEpoch_of ho hd T.fits (aq (wpAny_newObj_type (aL ⟨_,rfl, "set_iterator", _,⟨_,iE _ rfl,rfl⟩,gm.lookup,?_⟩))))));refine h s.heap.objs.size _ s.drawn [s.heap.objs.size,a] (ord w a es ep) _ (λb x e=>c9 _ e) (az _) (λb hb=>?_) (HS w a es ep) (λA' hA=>E8 hA (aQ hlt) hd T hst) ?_
  .simp only[aI,fY,or_false] at hb;rcases hb with e|e
   .rw[e];exact .inr (az _)
   .exact .inl e
  .exact⟨c9 _ ho,_,0,iE _ rfl,rfl,rfl,λ_=>SN.BA T.up⟩
def P0(es:List (Int×Value)):Prop:=∀e∈es,∃n k,e=(hashInt n,Value.int n k)
def Small(led:Bool)(h:Heap)(a:Addr)(ns:List Int):Prop :=
 ∃o es ep t,h.get? a=some o/\o.ExactSet/\o.data=.set es ep t/\Tab led es t/\P0 es.toList/\es.size=ns.length/\ns.Nodup/\∀n,n∈ns↔∃k,((hashInt n,Value.int n k):Int×Value)∈es.toList
def Small.at'{h h':Heap}(S:Small led h a ns)(e:∀o,h.get? a=some o->h'.get? a=some o):Small led h' a ns:=by obtain⟨o,es,ep,t,ho,r⟩:=S;exact⟨o,es,ep,t,e o ho,r⟩
def P0.elems{es:List (Int×Value)}(h:P0 es):ElemsOf (intKind prog w) es:=λe he=>by obtain⟨n,k,rfl⟩:=h e he;exact⟨⟨n,intKind_is _ _ _ _,rfl⟩,rfl⟩
def yP(b:Bool){s1:Shared}{R:Unit->Shared->Prop}(h:R () s1):wpAny (model prog w) A (match b with|true=>rule "set.scan.the-table-gave-way" | false=>pure ()) R E s1:=by
 cases b
 .exact aL h
 .exact wpAny_rule h
def yQ{o:Obj}{t:SetTable}(ho:s.heap.get? a=some o)(hx:o.ExactSet)(hd:o.data=.set es ep t){es1:Array (Int×Value)}{t1:SetTable}(T1:Tab led es1 t1)(hz:es1.size<=100000)
  {g:Bool->Sem Unit}(hg:∀(b:Bool)(s₁:Shared)(Q':Unit->Shared->Prop),Q' () s₁->wpAny (model prog w) A (g b) Q' E s₁){R:Option Bool->Shared->Prop}
  (h:∀h' o2 nU Fb t2,Heap.SameBut a s.heap h'->h'.get? a=some o2->o2.ExactSet->o2.data=.set nU Fb t2->Tab led nU t2->nU.toList.Perm es1.toList->R (some true) { s with heap:=h' }):
  wpAny (model prog w) A (do
    storeSet a es1 t1
    if(!false&&t1.tooFull)=true then do
      g (relayAll t1 es1 (SetTable.grown es1.size)).2.2
      storeSet a (relayAll t1 es1 (SetTable.grown es1.size)).1 (relayAll t1 es1 (SetTable.grown es1.size)).2.1
      pure (some true)
     else pure (some true)) R E s:=by
 refine aq (wpAny_storeSet_of ho hd ?_ (by rw[sizeLine_eq];omega));have Lz:=fE (Obj.putSet es1 t1) ho (by rw[putSet_of es1 t1 hd];rfl);rw[putSet_of es1 t1 hd] at Lz;have NJ:=jD s.heap a (Obj.putSet es1 t1);split
 .obtain⟨nU,t2,gv,er,T2,perm⟩:=T1.TM (SetTable.grown es1.size);rw[er];dsimp only;have hz2:nU.size=es1.size:=by rw[<- cX,perm.length_eq,cX]
  refine aq (hg _ _ _ ?_);refine aq (wpAny_storeSet_of Lz rfl ?_ (by rw[sizeLine_eq];omega));have Rz:=fE (Obj.putSet nU t2) Lz (by rw[putSet_of nU t2 rfl];rfl);rw[putSet_of nU t2 rfl] at Rz;exact aL (h _ _ nU _ t2 (NJ.trans (jD _ a _)) Rz hx rfl T2 perm)
 .exact aL (h _ _ es1 _ t1 NJ Lz hx rfl T1 (mW _))
def add_int{k:Int}{q:Tok}{Q:Bool->Shared->Prop}(hS:Small led s.heap a ns)(hl:ns.length<=4000)
  (h:∀b h',Heap.SameBut a s.heap h'->Small led h' a (if k∈ns then ns else ns++[k])->Q b { s with heap:=h' }):wpAny (model prog w) A (setAddHashed a (.int k q) (hashInt k)) Q E s:=by
 obtain⟨o,es,ep,t,ho,hx,hd,T,hI,hz,nd,mem⟩:=hS;have hel:=hI.elems (prog:=prog) (w:=w);have hb:es.size<scanBound:=by unfold scanBound;omega
 have isk:(intKind prog w).is k (.int k q)=true:=intKind_is _ _ _ _;unfold setAddHashed setAddHashedIn;refine wpAny_holding (aq (wpAny_setState_of ho hd T.fits ?_));dsimp only;rw[byScan_of (knd:=intKind prog w) rfl hb hel,if_pos rfl];unfold setAddByScan;refine aq (aq (wpAny_rule (aq (wpAny_setScan_of (knd:=intKind prog w) isk ho hd T.fits hel ?_))));cases hr:es.toList.findIdx? (λe=>(intKind prog w).is k e.2) with
 | some j =>
  dsimp only;obtain⟨hj,hpj,_⟩:=List.findIdx?_eq_some_iff_getElem.mp hr;have hin:k∈ns:=by rw[mem];have hm:=jI hj;obtain⟨n,c,e3⟩:=hI _ hm;rw[e3] at hpj hm;have:k=n:=(intKind prog w).inj _ _ _ hpj (intKind_is _ _ _ _);rw[this];exact⟨c,hm⟩
  refine aL (aL ?_);exact h false s.heap (rL a s.heap) (by rw[if_pos hin];exact⟨o,es,ep,t,ho,hx,hd,T,hI,hz,nd,mem⟩)
 | none =>
  dsimp only;have hno:=List.findIdx?_eq_none_iff.mp hr;have HV:k∉ns:=λhin=>by obtain⟨c,hc⟩:=(mem _).mp hin;have:=hno _ hc;rw[intKind_is] at this;cases this
  obtain⟨es1,t1,gv,hlay,T1,perm⟩:=T.lay (hashInt k) (.int k q);have hz1:es1.size=es.size+1:=by rw[<- cX,perm.length_eq,aR,cX];rfl
  rw[hlay];dsimp only;refine aq (yP gv ?_);have fin:∀h' o2 nU Fb t2,Heap.SameBut a s.heap h'->h'.get? a=some o2->o2.ExactSet->o2.data=.set nU Fb t2->Tab led nU t2->nU.toList.Perm es1.toList->Q true { s with heap:=h' }:=λh' o2 nU Fb t2 sb g2 x2 d2 T2 p2=>by
   have p3:=p2.trans perm;refine h true h' sb ?_;rw[if_neg HV];refine⟨o2,nU,Fb,t2,g2,x2,d2,T2,λe he=>?_,by rw[aR,<- cX,p3.length_eq,aR,cX,hz];rfl,?_,λn=>?_⟩
   .rcases aO.mp (p3.mem_iff.mp he) with he|he
    .exact hI e he
    .exact⟨k,q,aA.mp he⟩
   .rw[gq];exact⟨nd,by simp,λx hx' y hy e=>HV (by rw[<- aA.mp hy,<- e];exact hx')⟩
   .rw[aO,aA,mem n];constructor
    .rintro(⟨c,hc⟩|e)
     .exact⟨c,p3.mem_iff.mpr (mZ _ hc)⟩
     .rw[e];exact⟨q,p3.mem_iff.mpr (by simp)⟩
    .rintro⟨c,hc⟩;rcases aO.mp (p3.mem_iff.mp hc) with hc|hc
     .exact .inl ⟨c,hc⟩
     .rw[aA] at hc;have:=congrArg Prod.snd hc;injection this with e1 e2;exact .inr e1
  split
  .refine aq ?_;rw[hashByValue_scannable 8 (x:=.int k q) rfl];refine aL ?_;simp only[plainKind,if_true];refine yQ ho hx hd T1 (by omega) (λb s₁ Q' hq=>?_) λh' o2 nU Fb t2 sb g2 x2 d2 T2 p2=>?_
   .cases b<;>first|exact aL hq|exact wpAny_rule hq
   .exact aL (fin h' o2 nU Fb t2 sb g2 x2 d2 T2 p2)
  .refine aq (aL ?_);simp only[if_true];refine yQ ho hx hd T1 (by omega) (λb s₁ Q' hq=>?_) λh' o2 nU Fb t2 sb g2 x2 d2 T2 p2=>?_
   .cases b<;>first|exact aL hq|exact wpAny_rule hq
   .exact aL (fin h' o2 nU Fb t2 sb g2 x2 d2 T2 p2)
def uG(val:Nat->Int):Nat->List Int
 | 0=>[]
 | i+1=>if val i∈uG val i then uG val i else uG val i++[val i]
theorem yR(val:Nat->Int):∀i,(uG val i).length<=i
 | 0=>az _
 | i+1=>by
  have:=yR val i;unfold uG;split
  .omega
  .rw[aR,jJ];omega
theorem yS(val:Nat->Int):∀(i:Nat)(n:Int),n∈uG val i↔∃j,j<i/\n=val j
 | 0,n=>by simp[uG]
 | i+1,n=>by
  have ih:=yS val i;unfold uG;split
  .rename_i hin;rw[ih n];constructor
   .rintro⟨j,hj,e⟩;exact⟨j,by omega,e⟩
   .rintro⟨j,hj,e⟩;rcases aY j i with hlt|hge
    .exact⟨j,hlt,e⟩
    .have:j=i:=by omega
     subst this;rw[e];exact(ih _).mp hin
  .rw[aO,aA,ih n];constructor
   .rintro(⟨j,hj,e⟩|e)
    .exact⟨j,by omega,e⟩
    .exact⟨i,by omega,e⟩
   .rintro⟨j,hj,e⟩;rcases aY j i with hlt|hge
    .exact .inl ⟨j,hlt,e⟩
    .have:j=i:=by omega
     subst this;exact .inr e
def HW{R:Result->Shared->Prop}{I:Addr}{fp wr:List Addr}{G:Array GenState->Array GenState->Prop}{n:Nat}{P:Nat->Value->Prop}{St:Nat->Shared->Prop}(W:WalksS prog w A.in1 I fp wr G n P St)(d:Addr)(hd:d∉fp)(Sp:Nat->Heap->Prop)
  (at':∀i h h',Sp i h->(∀b o,b∉wr->h.get? b=some o->h'.get? b=some o)->Sp i h')
  (add:∀(E':Value->Shared->Prop) i v (s':Shared) (Q:Bool->Shared->Prop),i<n->P i v->Sp i s'.heap->(∀b h' tk,s'.toks<=tk->Heap.SameBut d s'.heap h'->Sp (i+1) h'->Q b { s' with heap:=h',toks:=tk })->wpAny (model prog w) A.in1 (setAdd d v) Q E' s'):
  ∀(m i:Nat)(s:Shared),n-i=m->i<=n->St i s->Sp i s.heap->(∀s',Moved (d::wr) G s s'->Sp n s'.heap->R (.ok (.ret .none)) s') ->
   codeAny (model prog w) A (.builtin "set.update.loop" ⟨[.ref d,.ref I],[]⟩) R s:=by
 have hdw:d∉wr:=λh=>hd (W.sub _ h);have up:∀b∈wr,b∈d::wr:=λb hb=>dg _ hb;intro m;induction m with
 | zero =>
  intro i s em hi st hS hR;obtain rfl:i=n:=by omega
  refine codeAny_builtin PyProof.Rows.F.entry_set_update_loop ?_;rw[iw PyProof.Rows.F.plain_set_update_loop];refine aq (m:=pyNext (.ref I)) (W.done s _ _ st λs' hm=>?_);exact aL (hR s' (hm.mono up) (at' _ _ _ hS λb o hb e=>hm.heap b o hb e))
 | succ m ih =>
  intro i s em hi st hS hR;have hlt:i<n:=by omega
  refine codeAny_builtin PyProof.Rows.F.entry_set_update_loop ?_;rw[iw PyProof.Rows.F.plain_set_update_loop];refine aq (m:=pyNext (.ref I)) (W.item i s _ _ hlt st λv s' hP st' hm=>?_);have hS':=at' _ _ _ hS λb o hb e=>hm.heap b o hb e;refine aq (m:=holding [v] (setAdd d v)) (wpAny_holding ?_);refine add _ i v s' _ hlt hP hS' λb h' tk htk sb hSi=>?_;refine aL ⟨plainId_quiet PyProof.Rows.F.plain_set_update_loop _,ih (i+1) _ (by omega) hlt (W.frame _ s' _ _ st' htk λb hb o e=>?_) hSi λs2 hm2 TQ=>?_⟩
  .rw[sb.2 b (λz:b=d=>hd (by rw[<- z];exact hb))];exact e
  .refine hR s2 (Moved.trans W.gtrans ((hm.mono up).then_heap htk λb o hb e=>?_) hm2) TQ;rw[sb.2 b (λz:b=d=>hb (by rw[z];exact i9))];exact e
def LA(a:Value)
  (h:Q (.ref s.heap.objs.size) { s with heap:=s.heap.push { cls:=.type "set", dict:=none,data:=.set #[] 0 (.fresh 0 0 (!cC w)) } }):
  codeAny (model prog w) A (.call (.builtin "set.__new__") ⟨[.type "set", a],[]⟩) (wants Q E) s:=by
 refine codeAny_of_tree ?_;refine aq (m:=checkBuiltinCall "set.__new__" ⟨[.type "set", a],[]⟩) (wpAny_of_eq (PySem.F.newCall_set_1 a) (aL ⟨plainId_quiet F.plain_set_new _,codeAny_builtin F.entry_set_new ?_⟩));rw[iw F.plain_set_new];unfold Builtin.«set.__new__» Builtin.Frozenset.newClass;have hsub:=sub_set_self;obtain⟨hp,g,d,tk,os⟩:=s;dsimp only
 wp_walk
 refine wpAny_askSetting (aL ?_);dsimp only;simp only[newObj];refine aq (wpAny_alloc (aL (aL ?_)));exact h
def vo:Tab led #[] (.fresh 0 0 led):=⟨rfl,rfl,by show List.Pairwise _ [];exact List.Pairwise.nil,rfl⟩
def yT{h:Heap}(e:h.get? a=some { cls:=.type "set", dict:=none,data:=.set #[] 0 (.fresh 0 0 led) }):Small led h a [] :=
 ⟨_,#[],0,_,e,⟨rfl,rfl,rfl⟩,rfl,vo,(λe he=>by simp at he),rfl,kg,λn=>by simp⟩
set_option maxHeartbeats 3200000 in
def set_list{l:Addr}{items:Array Value}(hh:A.handled=none)(hl:s.heap.IsList l items)(Sp:Nat->Heap->Prop)
  (sp0:∀h',(∀b o,s.heap.get? b=some o->h'.get? b=some o)->h'.get? s.heap.objs.size=some { cls:=.type "set", dict:=none,data:=.set #[] 0 (.fresh 0 0 (!cC w)) }->Sp 0 h')
  (at':∀i h h',Sp i h->(∀b o,b<=s.heap.objs.size->h.get? b=some o->h'.get? b=some o)->Sp i h')
  (add:∀(A':Around)(E':Value->Shared->Prop) i v (s':Shared) (Q:Bool->Shared->Prop),A'.handled=none->A'.units<=A.units+8->items[i]?=some v->Sp i s'.heap->(∀b h' tk,s'.toks<=tk->Heap.SameBut s.heap.objs.size s'.heap h'->Sp (i+1) h'->Q b { s' with heap:=h',toks:=tk })->wpAny (model prog w) A' (setAdd s.heap.objs.size v) Q E' s')
  (h:∀(h':Heap)(tk:Nat),Sp items.size h'->(∀b o,b<s.heap.objs.size->s.heap.get? b=some o->h'.get? b=some o)->Q (.ref s.heap.objs.size) { s with heap:=h',toks:=tk }):
  wpAny (model prog w) A (call (.type "set") [.ref l]) Q E s:=by
 obtain⟨c0,t0,m0⟩:=F.called_set.mro;have m1:=F.called_set.made;have m2:=F.called_set.sub;refine wpAny_call (codeAny_of_tree ?_);show wpAny _ _ (callAny (.type "set") ⟨[.ref l],[]⟩) _ _ _;refine aL ⟨Code.quiet_builtin _ (by decide +kernel),(codeAny_builtin F.entry_type_call ?_)⟩;rw[Around.under_plain (weight_type_call_type "set" [.ref l] []) rfl];have m3:=F.called_set.notType;have m4:=F.called_set.canCreate;have m5:=PySem.F.typeCall_set_1 (.ref l)
 repeat (any_goals (first|assumption|wp_step))
 refine codeAny_mono (LA (.ref l) (E:=E) (Q:=λobj z=>obj=.ref s.heap.objs.size/\z={ s with heap:=s.heap.push { cls:=.type "set", dict:=none,data:=.set #[] 0 (.fresh 0 0 (!cC w)) } }) ⟨rfl,rfl⟩) λr z hr=>?_;cases r with
 | error e=>exact hr
 | ok fl =>
  cases fl with
  | ret obj =>
   obtain⟨rfl,rfl⟩:=hr;generalize hH:s.heap.push { cls:=.type "set", dict:=none,data:=.set #[] 0 (.fresh 0 0 (!cC w)) }=H1;have g1:H1.get? s.heap.objs.size=some { cls:=.type "set", dict:=none,data:=.set #[] 0 (.fresh 0 0 (!cC w)) }:=by rw[<- hH];exact iE _ rfl
   have k1:∀b o,s.heap.get? b=some o->H1.get? b=some o:=λb o e=>by rw[<- hH];exact c9 _ e
   have z1:H1.objs.size=s.heap.objs.size+1:=by rw[<- hH,fF]
   have ty:Shared.TypeIs { s with heap:=H1 } (.ref s.heap.objs.size) "set" := ⟨_,g1,rfl⟩;have m6:=F.called_set.init.lookup;have m7:=F.called_set.init.bind (.ref s.heap.objs.size)
   repeat (any_goals (first|assumption|wp_step))
   refine codeAny_mono (codeAny_call_builtin (R:=wants (λr z=>r=.none/\∃h' tk,z={ s with heap:=h',toks:=tk }/\Sp items.size h'/\∀b o,b<s.heap.objs.size->s.heap.get? b=some o->h'.get? b=some o) E)
    F.called_set.init.plain F.entry_set_init (check_set_init_1 ty ?_)) λr2 s2 hr2=>?_
   .have hl1:H1.IsList l items:=by obtain⟨ol,e1,e2,n1,e3⟩:=hl;exact⟨ol,k1 _ _ e1,e2,n1,e3⟩
    obtain⟨ol,e1,e2,n1,e3⟩:=hl;obtain⟨cc,dd,xx,ss⟩:=ol;simp only at e2 e3;subst e2 e3;have e4:=k1 _ _ e1;have f1:=PySem.F.sub_list_set;have f2:=PySem.F.sub_list_frozenset;have f3:(Value.type "list" == Value.type "dict")=false:=by decide
    unfold Builtin.«set.__init__» noKeywords Builtin.Frozenset.updateFrom;generalize hp:pyIter=PI
    wp_walk
    subst hp;refine wpAny_pyIter_list hl1 (aq (wpAny_runValue ?_));have hlS:l<s.heap.objs.size:=aK e1;have n2:l≠H1.objs.size:=by rw[z1];exact aQ (jo hlS)
    have n3:s.heap.objs.size∉[H1.objs.size,l]:=by
     rw[z1];intro z;rcases aI.mp z with z|z
     .omega
     .exact absurd (aA.mp z) (jq hlS)
    refine HW ((Walks.list (by simp[hh]) _ l n2 items).toS) s.heap.objs.size n3 Sp (λi h h' q hk=>at' i h h' q λb o hb e=>hk b o (λz=>?_) e) (λE' i v s' Q hi hP hSp hQ=>add _ E' i v s' Q (by simp[hh]) (by simp only[Around.in1];omega) hP hSp hQ) (items.size-0) 0 _ (by omega) (aH _) ⟨⟨_,iE _ rfl,rfl,rfl⟩,(hl1.push _)⟩ (sp0 _ (λb o e=>c9 _ (k1 _ _ e)) (c9 _ g1)) ?_
    .rw[aA.mp z,z1] at hb;omega
    intro s3 hm TQ;obtain⟨h3,g3,d3,t3,o3⟩:=s3;obtain rfl:g3=s.gens:=hm.gens;obtain rfl:d3=s.drawn:=hm.drawn;obtain rfl:o3=s.os:=hm.os;refine aL (aL ⟨rfl,h3,t3,rfl,TQ,λb o hb e=>?_⟩);refine hm.heap b o (λz=>?_) (c9 _ (k1 _ _ e));rcases aI.mp z with z|z
    .exact absurd z (aQ hb)
    .rw[aA.mp z,z1] at hb;omega
   .cases r2 with
    | error e=>exact hr2
    | ok f2 =>
     cases f2 with
     | ret r =>
      obtain⟨rfl,h3,t3,rfl,TQ,RA⟩:=hr2
      repeat (any_goals (first|assumption|wp_step))
      exact h _ _ TQ RA
     | _=>exact hr2.elim
  | _=>exact hr.elim
end
def ints_of{l:List Value}(h:∀v∈l,∃n k,v=Value.int n k):∃ns:List Int,IntsAre l ns:=by
 induction l with
 | nil=>exact⟨[],.nil⟩
 | cons v l ih =>
  obtain⟨n,k,rfl⟩:=h v (by simp);obtain⟨ns,r⟩:=ih λu hu=>h u (by simp[hu]);exact⟨n::ns,.cons n k r⟩
def LB{l:List Value}(r:IntsAre l ns):∀n,n∈ns↔∃k,Value.int n k∈l:=by
 induction r with
 | nil=>intro n;simp
 | @cons m k l ns _ ih =>
  intro n;rw[aI,ih n];constructor
  .rintro(e|⟨c,hc⟩)
   .rw[e];exact⟨k,by simp⟩
   .exact⟨c,by simp[hc]⟩
  .rintro⟨c,hc⟩;rcases aI.mp hc with e|hc
   .cases e;exact .inl rfl
   .exact .inr ⟨c,hc⟩
def LC:typeLookup (.type "set") "__len__" = pure (some (.builtin "set.__len__")):=by rw[typeLookup_type,builtinLookup_eq_fast];kernel_rfl
section
variable {prog:Program}{w:World}{A:Around}{E:Value->Shared->Prop}{s:Shared}
def HX{l:Addr}{items:Array Value}{val:Nat->Int}(hh:A.handled=none)(hl:s.heap.IsList l items)(hv:∀(i:Nat)(v:Value),items[i]?=some v->∃t,v=Value.int (val i) t)(hn:items.size<=4000)
  (h:∀(h':Heap)(tk:Nat),Small (!cC w) h' s.heap.objs.size (uG val items.size)->(∀b o,b<s.heap.objs.size->s.heap.get? b=some o->h'.get? b=some o)->Q (.ref s.heap.objs.size) { s with heap:=h',toks:=tk }):
  wpAny (model prog w) A (call (.type "set") [.ref l]) Q E s:=by refine set_list hh hl (λi h=>Small (!cC w) h s.heap.objs.size (uG val i)) (λh' _ e=>yT e) (λi h h' q hk=>q.at' λo e=>hk _ o (az _) e) (λA' E' i v s' Q hh' _ hi hS hQ=>?_) h;obtain⟨t,rfl⟩:=hv i v hi;unfold setAdd;refine wpAny_holding (aq ((intKind prog w).pyHash (k:=val i) (intKind_is _ _ _ _) ?_));have hl:=yR val i;have hlt:=(mK.mp hi).1;refine add_int (s:={ s' with toks:=s'.toks+1 }) hS (by omega) λb h' sb Yg=>?_;exact hQ b h' _ (lu _) sb Yg
set_option maxHeartbeats 2000000 in
def qp{o:Obj}{t:SetTable}{Q:List Value->Shared->Prop}(hh:A.handled=none)(ho:s.heap.get? a=some o)(hx:o.ExactSet)(hd:o.data=.set es ep t)(T:Tab (!cC w) es t)(hsz:es.size<=100000)
  (hQ:∀(s':Shared)(vs:List Value),(∀b x,s.heap.get? b=some x->s'.heap.get? b=some x)->s'.gens=s.gens->s'.os=s.os->s.heap.objs.size<s'.heap.objs.size->vs.Perm (es.toList.map (·.2))->Q vs s'):
  wpAny (model prog w) A (collect (.ref a)) Q E s:=by
 unfold collect;refine aq (wpAny_runValue (codeAny_builtin F.entry_proto_collect ?_));rw[iw F.plain_proto_collect];refine aq (m:=newList []) (wpAny_newObj_type (aL ⟨plainId_quiet F.plain_list_iadd _,codeAny_builtin F.entry_list_iadd ?_⟩));rw[iw F.plain_list_iadd];show wpAny _ A.in1 (Builtin.List.listExtendWith (.ref s.heap.objs.size) (.ref a) (.ref s.heap.objs.size)) _ _ _;generalize hH:s.heap.push { cls:=.type "list", data:=.seq ([]:List Value).toArray }=H;have hz:H.objs.size=s.heap.objs.size+1:=by rw[<- hH,fF]
 have hk:∀b x,s.heap.get? b=some x->H.get? b=some x:=λb x e=>by rw[<- hH];exact c9 _ e
 have hN:H.get? s.heap.objs.size=some { cls:=.type "list", data:=.seq ([]:List Value).toArray }:=by rw[<- hH];exact iE _ rfl
 have hlt:=aK ho;unfold Builtin.List.listExtendWith;refine aq (wpAny_typeOf (T := "set") ⟨o,hk _ _ ho,hx.1⟩ ?_);have h1:Builtin.List.listSameRef (.ref s.heap.objs.size) (.ref a)=false:=by show((s.heap.objs.size==a):Bool)=false;exact beq_eq_false_iff_ne.mpr (jq hlt)
 have h2:(Value.type "set" == Value.type "list")=false:=by decide
 have h3:(Value.type "set" == Value.type "tuple")=false:=by decide
 simp only[h1,h2,h3,Bool.or_false,bV,if_false];refine aq (HU (s:={ s with heap:=H }) (hk _ _ ho) hx hd T hsz λit H2 d2 fp od St hk2 hit hfp Dc W0 st=>aq (wpAny_holding ?_));have hao:H2.get? a=some o:=hk2 _ _ (hk _ _ ho);dsimp only at hk2 hit hfp;unfold Builtin.List.listLengthHint;refine aq (wpAny_specialOf (T := "set") (v:=.ref a) ⟨o,hao,hx.1⟩ LC ?_)
 wp_delta
 refine aq (wpAny_isInstance (T := "set") (v:=.ref a) (b:=true) ⟨o,hao,hx.1⟩ (by rw[isSubtype_type];kernel_rfl) ?_);refine aq (m:=typeOf (.ref a)) (wpAny_typeOf (T := "set") ⟨o,hao,hx.1⟩ (aL ?_));rw[if_pos (by decide)];have hnf:s.heap.objs.size∉fp:=λhm=>by
  rcases hfp _ hm with e|e
  .exact absurd e (jq hlt)
  .rw[hz] at e;exact absurd e (Nat.not_le.mpr (g8 _))
 have hn4:od.size<=sizeLine:=by have:=Dc.length_eq;rw[cX,cX] at this;rw[this,sizeLine_eq];omega
 have g1:H2.get? s.heap.objs.size=some { cls:=.type "list", data:=.seq ([]:List Value).toArray }:=hk2 _ _ hN;have g2:=fE (Obj.mapSeq (·.push Value.none)) g1 rfl;have g3:=fE (Obj.mapSeq (·.pop)) g2 rfl;have W:=(W0 A.in1 (by simp[hh])).toS;have st':St 0 ((H2.update s.heap.objs.size (Obj.mapSeq (·.push Value.none))).update s.heap.objs.size (Obj.mapSeq (·.pop))) :=
  (W0 A.in1 (by simp[hh])).frame 0 _ _ st λb hb o e=>by have hne:b≠s.heap.objs.size:=λz=>hnf (by rw[<- z];exact hb);rw[fU _ _ _ _ hne,fU _ _ _ _ hne];exact e
 refine aq (m:=rule "list.extend.makes-room") (wpAny_rule (aq (m:=Builtin.List.listTouch (.ref s.heap.objs.size)) ?_));refine aq (m:=updateSeq s.heap.objs.size (·.push .none)) (wpAny_updateSeq g1 rfl (wpAny_updateSeq g2 rfl ?_));refine aL ⟨plainId_quiet F.plain_extend_loop _,codeAny_extend_loopS W hn4 _ hnf _ _ 0 _ _ _ rfl (aH _) st' g3 (ItemsOf.nil _) λs' acc' c' hm hS' hacc=>?_⟩;refine aq (m:=load s.heap.objs.size) (wpAny_load hS' (aL (hQ s' acc'.toList (λb x e=>hm.heap b x (λhb=>?_) ?_) hm.gens hm.os (aK hS') ?_)))
 .have hl:=aK e;rcases aI.mp hb with z|z
  .rw[z] at hl;exact absurd hl (fZ _)
  .rw[aA.mp z] at hl;rw[hz] at hit;exact absurd (bS hl (Nat.le_of_succ_le hit)) (fZ _)
 .have hb:=aQ (aK e);show((H2.update s.heap.objs.size _).update s.heap.objs.size _).get? b=some x;rw[fU _ _ _ _ hb,fU _ _ _ _ hb];exact hk2 _ _ (hk _ _ e)
 .have e:acc'.toList=od.toList.map (·.2):=by
   refine List.ext_getElem? λi=>?_;rw[bw];simp only[fS];rcases aY i acc'.size with hi|hi
   .obtain⟨e,he,hv⟩:=hacc.2 i acc'[i] (gw hi);rw[gw hi,he,hv];rfl
   .rw[qj hi,qj (by rw[<- hacc.1];exact hi)];rfl
  rw[e];exact Dc.map _
def sorted_ints(hh:A.handled=none)(S:Small (!cC w) s.heap a ns)(hns:ns.length<64)
  (h:∀(p:Addr)(h':Heap)(d':Drawn)(tk:Nat)(out:Array Value)(c:Nat)(ns':List Int),s.heap.objs.size<=p->(∀b x,s.heap.get? b=some x->h'.get? b=some x)->h'.get? p=some { cls:=.type "list", data:=.seq out c }->IntsAre out.toList ns'->(∀n,n∈ns'↔n∈ns)->ns'.Pairwise (· <= ·)->ns'.length=ns.length->Q (.ref p) { s with heap:=h',drawn:=d',toks:=tk }):
  wpAny (model prog w) A (call (.builtin "sorted") [.ref a]) Q E s:=by
 obtain⟨o,es,ep,t,ho,hx,hd,T,hI0,hz,nd,mem⟩:=S;refine wg kind_sorted plain_sorted entry_sorted (args_sorted1 _) ?_;unfold Builtin.«sorted»;refine aq (m:=checkCount "sorted" 1 1 _) (aL (aq (qp (by simp[hh]) ho hx hd T (by omega) ?_)));intro s1 acc k1 g1 o1 BD hp;obtain⟨h1,gg,dd,TR,oo⟩:=s1;dsimp only at k1 g1 o1 BD;subst g1 o1;have hal:acc.length=ns.length:=by rw[hp.length_eq,av,cX,hz]
 have shape:∀v∈acc,∃n k,v=Value.int n k:=λv hv=>by obtain⟨e,he,rfl⟩:=aF.mp (hp.mem_iff.mp hv);obtain⟨n,k,rfl⟩:=hI0 e he;exact⟨n,k,rfl⟩
 obtain⟨ms,hI⟩:=ints_of shape;have Yh:∀n,n∈ms↔n∈ns:=λn=>by
  rw[LB hI n,mem n];constructor
  .rintro⟨k,hk⟩;obtain⟨e,he,ee⟩:=aF.mp (hp.mem_iff.mp hk);obtain⟨n',k',rfl⟩:=hI0 e he;cases ee;exact⟨_,he⟩
  .rintro⟨k,hk⟩;exact⟨k,hp.mem_iff.mpr (aF.mpr ⟨_,hk,rfl⟩)⟩
 refine aq (wpAny_newList ?_ (by rw[hal,sizeLine_eq];omega));have h64:acc.length<64:=by omega
 have gN:(h1.push (seqObj "list" acc.toArray 0)).get? h1.objs.size=some (seqObj "list" acc.toArray 0):=iE _ rfl;refine aq (wpAny_holding (wpAny_call_entry slot_list_sort ⟨_,gN,rfl⟩ entry_list_sort (list_sort_tree gN hI h64 λout ns' a1 a2 a3=>⟨_,rfl,?_⟩) (args_list_sort _)));obtain⟨c,hc⟩:=sortedHeap_at (h:=h1.push (seqObj "list" acc.toArray 0)) (a:=h1.objs.size) (vs:=acc) (n:=0) (out:=out) gN;have hle:s.heap.objs.size<=h1.objs.size:=jK BD;refine aL ⟨_,rfl,h h1.objs.size _ dd TR out c ns' hle (λb x e=>?_) hc a1 (λn=>(a2.mem_iff).trans (Yh n)) a3 ?_⟩
 .have hb:=aK (k1 b x e);rw[sortedHeap_old (aQ hb) (by rw[size_push'];exact jo hb)];exact c9 _ (k1 b x e)
 .rw[a2.length_eq,<- hal];exact(IntsAre.length hI).symm
end
end SG
namespace SN
open PySem
theorem wW:∀{xs ys:List Int},xs.Nodup->(∀x∈xs,x∈ys)->xs.length<=ys.length
 | [],_,_,_=>aH _
 | x::xs,ys,h,q=>by rw[iG] at h;have hx:=q x (by simp);have:=wW (ys:=ys.erase x) h.2 λy hy=>(List.mem_erase_of_ne (λ(e:y=x)=>h.1 (by rw[<- e];exact hy))).mpr (q y (by simp[hy]));rw[List.length_erase_of_mem hx] at this;have hp:=List.length_pos_of_mem hx;rw[eB];omega
theorem NK:∀{ms ns:List Int},ns.Nodup->(∀n∈ns,n∈ms)->ms.length<=ns.length->ms.Nodup
 | [],_,_,_,_=>kg
 | x::ms,ns,nd,sub,hl=>by
  rw[eB] at hl;by_cases hx:x∈ns
  .have ih:=NK (ms:=ms) (ns:=ns.erase x) (nd.erase x) (λn hn=>by
    obtain⟨h1,h2⟩:=(List.Nodup.mem_erase_iff nd).mp hn;rcases aI.mp (sub n h2) with e|h
    .exact absurd e h1
    .exact h) (by rw[List.length_erase_of_mem hx];omega)
   refine iG.mpr ⟨λhm=>?_,ih⟩;have:=wW nd (ys:=ms) λn hn=>by
    rcases aI.mp (sub n hn) with e|h
    .rw[e];exact hm
    .exact h
   omega
  .have:=wW nd (ys:=ms) λn hn=>by
    rcases aI.mp (sub n hn) with e|h
    .rw[e] at hn;exact absurd hn hx
    .exact h
   omega
theorem lt_eq:∀{xs ys:List Int},xs.Pairwise (· < ·)->ys.Pairwise (· < ·)->(∀n,n∈xs↔n∈ys)->xs=ys
 | [],[],_,_,_=>rfl
 | [],y::ys,_,_,h=>absurd ((h y).mpr (by simp)) (by simp)
 | x::xs,[],_,_,h=>absurd ((h x).mp (by simp)) (by simp)
 | x::xs,y::ys,hx,hy,h=>by
  rw[pK] at hx hy;have e:x=y:=by
   rcases aI.mp ((h x).mp (by simp)) with e|h1
   .exact e
   rcases aI.mp ((h y).mpr (by simp)) with e|h2
   .exact e.symm
   have a1:=hy.1 x h1;have a2:=hx.1 y h2;omega
  subst e
  congr 1
  refine lt_eq hx.2 hy.2 λn=>⟨λhn=>?_,λhn=>?_⟩
  .rcases aI.mp ((h n).mp (by simp[hn])) with e|h1
   .have:=hx.1 n hn;omega
   .exact h1
  .rcases aI.mp ((h n).mpr (by simp[hn])) with e|h1
   .have:=hy.1 n hn;omega
   .exact h1
def fm(ns:List Int):List Int:=((List.range 8).filter λk:Nat=>decide ((k:Int)∈ns)).map λk:Nat=>(k:Int)
def yU(ns:List Int):(fm ns).Pairwise (· < ·):=by unfold fm;rw[lq];refine List.Pairwise.imp (λh=>Int.ofNat_lt.mpr h) (List.Pairwise.sublist (List.filter_sublist) (wu))
def iY{ns:List Int}(h:∀n∈ns,0<=n/\n<8)(n:Int):n∈fm ns↔n∈ns:=by
 unfold fm;simp only[aF,dM,fX,decide_eq_true_eq];constructor
 .rintro⟨k,⟨_,h2⟩,rfl⟩;exact h2
 .intro hn;obtain⟨h0,h8⟩:=h n hn;refine⟨n.toNat,⟨by omega,?_⟩,by omega⟩;rw[Int.toNat_of_nonneg h0];exact hn
end SN
namespace L2
open PySem PySem.Spec PyProof.Rows
variable {w:World}{ns:List Int}
def vp(w:World)(p:Addr)(ns:List Int):Heap->Prop:=λh=>∃ms:List Int,SG.Small (!SG.cC w) h p ms/\∀n,n∈ms↔n∈ns
theorem sL:∀{l:List Value}{ns:List Int},IntsAre l ns->Vals (ns.map V.int) l
 | _,_,.nil=>.nil
 | _,_,.cons n t r=>.cons ⟨t,rfl⟩ (sL r)
def BT.CW:PySem.bootBuiltins "set" = some (.type "set"):=by decide +kernel
def BT.nV:PySem.bootBuiltins "sorted" = some (.builtin "sorted"):=by decide +kernel
section
variable {X:Cx}{σ:St}{H:Hp}{Q:VK}
def Inv.drw{pins:List (Addr×Obj)}{s:Shared}(I:Inv X pins σ H s)(d':Drawn):Inv X pins σ H { s with drawn:=d' } :=
 ⟨I.ok,I.os,I.bare,I.base,I.loc,I.cell,I.free,I.kP,I.pin,I.hok,I.len⟩
def Dd(K:aD)(w:World):List V->Hp->VK->Prop:=λxs H Q=>∃(l:Addr)(ns:List Int),xs=[.ref l]/\bE K H l (ns.map V.int)/\ns.length<=4000/\∀p H',fh H p (.ext (vp w p ns)) H'->Q (.ref p) H'
def vq(hc:X.calm=true):dj X (.type "set") (Dd X.K X.w):=by
 intro pins s σ H xs us Q I r h;obtain⟨l,ns,rfl,hl,h4,q⟩:=h;obtain⟨u,rfl,ru⟩:=vals1 r;cases ru;obtain⟨vs,rv,⟨ol,n0,e1,e2,e3,e4⟩,_⟩:=I.list hl;have Yi:s.heap.IsList l vs.toArray:=⟨ol,e1,e2,n0,e4⟩;have hsz:vs.toArray.size=ns.length:=by have:=rv.length;rw[av] at this;rw[aV];exact this.symm
 have hat:∀(i:Nat)(n:Int),ns[i]?=some n->ns.getD i 0=n:=λi n e=>by rw[mJ,e];rfl
 refine SG.HX (val:=λi=>ns.getD i 0) (I.ok.hd hc) Yi (λi v hv=>?_) (by omega) λh' tk hS hk=>?_
 .have hi:i<ns.length:=by have:=(mK.mp hv).1;omega
  have e5:ns[i]?=some ns[i]:=fO hi;obtain⟨u,hu,t,rfl⟩:=rv.get (i:=i) (x:=.int ns[i]) (by rw[bw,e5];rfl);rw[k7,hu] at hv;cases hv;rw[hat i _ e5];exact⟨t,rfl⟩
 .refine⟨.ref s.heap.objs.size,_,I.laid (t':=tk) (λb o e=>hk b o (aK e) e) (az _) (o:=.ext (vp X.w s.heap.objs.size ns)) ⟨⟨_,hS,λn=>?_⟩,?_,λh1 h2 hp he=>?_⟩,rfl,q _ _ ⟨I.hok.fresh (az _),rfl⟩⟩
  .rw[SG.yS,hsz];constructor
   .rintro⟨j,hj,rfl⟩;have e5:ns[j]?=some ns[j]:=fO hj;rw[hat j _ e5];exact jI hj
   .intro hn;obtain⟨j,hj,e5⟩:=pJ.mp hn;refine⟨j,hj,?_⟩;rw[hat j n (by rw[fO hj,e5])]
  .obtain⟨o,_,_,_,ho,_⟩:=hS;exact⟨o,ho⟩
  .obtain⟨ms,hS',hm⟩:=hp;exact⟨ms,hS'.at' he,hm⟩
def BE(w:World):List V->Hp->VK->Prop:=λxs H Q=>∃(p:Addr)(ns:List Int),xs=[.ref p]/\H p=some (.ext (vp w p ns))/\(∀ms:List Int,ms.Nodup->(∀n,n∈ms↔n∈ns)->ms.length<64)/\∀(l:List Int)(q:Addr)(H':Hp),l.Pairwise (· < ·)->(∀n:Int,n∈l↔n∈ns)->fh H q (.lst (l.map V.int)) H'->Q (.ref q) H'
def sM(hc:X.calm=true):dj X (.builtin "sorted") (BE X.w):=by
 intro pins s σ H xs us Q I r h;obtain⟨p,ns,rfl,hp,hb,q⟩:=h;obtain⟨u,rfl,ru⟩:=vals1 r;cases ru;obtain⟨⟨ms,hS,hm⟩,_,_⟩:=I.hok p _ hp;have nd:ms.Nodup:=by obtain⟨_,_,_,_,_,_,_,_,_,_,nd,_⟩:=hS;exact nd
 have hml:=hb ms nd hm;refine SG.sorted_ints (I.ok.hd hc) hS hml λa h' d' tk out c ns' hle hk ho hI hmem HY hlen=>?_;have nd':ns'.Nodup:=SN.NK nd (λn hn=>(hmem n).mpr hn) (by omega);have hlt:ns'.Pairwise (· < ·):=(HY.and nd').imp λ⟨h1,h2⟩=>by omega
 refine⟨.ref a,_,(I.drw d').laid (t':=tk) hk hle (o:=.lst (ns'.map V.int)) ⟨?_,out.toList,c,sL hI,?_⟩,rfl,q ns' _ _ hlt (λn=>(hmem n).trans (hm n)) ⟨I.hok.fresh hle,rfl⟩⟩
 .rw[av,sizeLine_eq];omega
 .rw[ho,Array.toArray_toList]
def P1{K:aD}{l:Addr}(hl:bE K H l (ns.map V.int))(h4:ns.length<=4000)(h:∀p H',fh H p (.ext (vp w p ns)) H'->Q (.ref p) H'):Dd K w [.ref l] H Q:=⟨l,ns,rfl,hl,h4,h⟩
def P5{K:aD}{l:Addr}(hl:bE K H l (ns.map V.int))(hb:∀n∈ns,0<=n/\n<8)(h4:ns.length<=4)(h:∀p H',fh H p (.ext (vp w p ns)) H'->Q (.ref p) H'):Dd K w [.ref l] H Q:=⟨l,ns,rfl,hl,by omega,h⟩
def De{p:Addr}(hp:H p=some (.ext (vp w p ns)))(hb:∀n∈ns,0<=n/\n<8)(h:∀q H',fh H q (.lst ((SN.fm ns).map V.int)) H'->Q (.ref q) H'):BE w [.ref p] H Q:=by
 refine⟨p,ns,rfl,hp,λms nd hm=>?_,λl q H' hlt hmem n=>?_⟩
 .have:=SN.wW nd (ys:=[0,1,2,3,4,5,6,7]) λx hx=>by
   obtain⟨h0,h8⟩:=hb x ((hm x).mp hx);have:x=0\/x=1\/x=2\/x=3\/x=4\/x=5\/x=6\/x=7:=by omega
   simpa using this
  simp at this;omega
 .have e:l=SN.fm ns:=SN.lt_eq hlt (SN.yU ns) λn=>(hmem n).trans (SN.iY hb n).symm;rw[e] at n;exact h q H' n
end
end L2
namespace SN
open PySem PySem.W PyProof.Rows
variable {n i j ep:Nat}{p:Array Nat}{d:Addr}{es:Array DictEntry}{ps:List (Int×Int)}
structure Pl (n:Nat) (p:Array Nat):Prop where
 sz:p.size=n
 pm:p.toList.Perm (List.range n)
def Pl.get(P:Pl n p)(hi:i<n):p.toList[i]?=some (p.getD i 0):=by
 have h:i<p.size:=by rw[P.sz];exact hi
 rw[fS,gw h];simp[Array.getD,h]
def Pl.lt{n:Nat}{p:Array Nat}(P:Pl n p){i:Nat}(hi:i<n):p.getD i 0<n:=fX.mp (P.pm.mem_iff.mp (fB (P.get hi)))
def Pl.inj(P:Pl n p)(hi:i<n)(hj:j<n)(e:p.getD i 0=p.getD j 0):i=j:=by have nd:p.toList.Nodup:=P.pm.nodup_iff.mpr List.nodup_range;have h1:=P.get hi;have h2:=P.get hj;rw[<- e] at h2;exact(List.getElem?_inj (fu h1).1 nd).mp (h1.trans h2.symm)
def Pl.of{q:Array Nat}(P:Pl n p)(h:q.Perm p):Pl n q:=⟨by rw[h.size_eq];exact P.sz,(Array.perm_iff_toList_perm.mp h).trans P.pm⟩
def Pl.start(n:Nat):Pl n (List.toArray (List.range n)):=⟨by simp,mW _⟩
def kv(r:Nat->Int)(p:Array Nat)(i:Nat):Int:=r (p.getD i 0)
def Up(r:Nat->Int)(p:Array Nat)(k:Nat):Prop:=∀i j,i<j->j<k->kv r p i<kv r p j
def Dn(r:Nat->Int)(p:Array Nat)(k:Nat):Prop:=∀i j,i<j->j<k->kv r p j<kv r p i
def Df{r:Nat->Int}{q:Array Nat}(h:p[i]?=q[j]?):kv r p i=kv r q j:=by unfold kv;rw[Array.getD_eq_getD_getElem?,Array.getD_eq_getD_getElem?,h]
section
variable {cmp:Nat->Nat->(Bool->Shared->Prop)->Shared->Prop}{n:Nat}{r:Nat->Int}{s:Shared}{p:Array Nat}
def Pl.ne(P:Pl n p)(inj:∀i j,i<n->j<n->r i=r j->i=j)(hi:i<n)(hj:j<n)(h:i≠j):kv r p i≠kv r p j:=λe=>h (P.inj hi hj (inj _ _ (P.lt hi) (P.lt hj) e))
theorem BF(hc:∀i j,i<n->j<n->∀C,C (decide (r i<r j)) s->cmp i j C s)(inj:∀i j,i<n->j<n->r i=r j->i=j)(P:Pl n p){Q:Nat->Shared->Prop}:∀f k,1<=k->k+f<=n->Up r p k ->
  (∀m,k<=m->m<=k+f->Up r p m->(m<k+f->kv r p m<kv r p (m-1))->Q m s)->(kas_asc p f k).kasWp cmp Q s
 | 0,k,_,_,u,h=>h k (az _) (az _) u λz=>absurd z (fZ _)
 | f+1,k,h1,hn,u,h=>by
  show cmp (p.getD k 0) (p.getD (k-1) 0) _ s;refine hc _ _ (P.lt (by omega)) (P.lt (by omega)) _ ?_;by_cases hl:r (p.getD k 0)<r (p.getD (k-1) 0)
  .rw[decide_eq_true hl];exact h k (az _) (by omega) u λ_=>hl
  .rw[decide_eq_false hl];refine BF hc inj P f (k+1) (by omega) (by omega) (λi j hij hj=>?_) λm a b c d=>h m (by omega) (by omega) c λz=>d (by omega);by_cases hk:j<k
   .exact u i j hij hk
   .have e:j=k:=by omega
    subst e;have ne:=P.ne inj (i:=j) (j:=j-1) (by omega) (by omega) (by omega);have lt:kv r p (j-1)<kv r p j:=by have:¬kv r p j<kv r p (j-1):=hl;omega
    by_cases hi:i=j-1
    .rw[hi];exact lt
    .exact Int.lt_trans (u i (j-1) (by omega) (by omega)) lt
theorem Dg(hc:∀i j,i<n->j<n->∀C,C (decide (r i<r j)) s->cmp i j C s)(inj:∀i j,i<n->j<n->r i=r j->i=j)(P:Pl n p){Q:Array Nat×Nat×Nat->Shared->Prop}:∀f k,2<=k->k+f<=n->Dn r p k ->
  (∀m,k<=m->m<=k+f->Dn r p m->Q (p,m,0) s)->(kas_desc f p k 0).kasWp cmp Q s
 | 0,k,_,_,u,h=>h k (az _) (az _) u
 | f+1,k,h1,hn,u,h=>by
  show cmp (p.getD k 0) (p.getD (k-1) 0) _ s;refine hc _ _ (P.lt (by omega)) (P.lt (by omega)) _ ?_;by_cases hl:r (p.getD k 0)<r (p.getD (k-1) 0)
  .rw[decide_eq_true hl];refine Dg hc inj P f (k+1) (by omega) (by omega) (λi j hij hj=>?_) λm a b c=>h m (by omega) (by omega) c;by_cases hk:j<k
   .exact u i j hij hk
   .have e:j=k:=by omega
    subst e;have lt:kv r p j<kv r p (j-1):=hl;by_cases hi:i=j-1
    .rw[hi];exact lt
    .exact Int.lt_trans lt (u i (j-1) (by omega) (by omega))
  .rw[decide_eq_false hl];show cmp (p.getD (k-1) 0) (p.getD k 0) _ s;refine hc _ _ (P.lt (by omega)) (P.lt (by omega)) _ ?_;have ne:=P.ne inj (i:=k) (j:=k-1) (by omega) (by omega) (by omega);have lt:r (p.getD (k-1) 0)<r (p.getD k 0):=by have:¬kv r p k<kv r p (k-1):=hl;unfold kv at ne this;omega
   rw[decide_eq_true lt];exact h k (az _) (by omega) u
def P6{m:Nat}(P:Pl n p)(hm:m<=n)(d:Dn r p m):Pl n (kas_rev p 0 m)/\Up r (kas_rev p 0 m) m:=by
 refine⟨P.of (mirror_perm _ _ _ _),λi j hij hj=>?_⟩;have at_:∀i,i<m->kv r (kas_rev p 0 m) i=kv r p (m-1-i):=λi hi=>Df (by
  unfold kas_rev;rw[getElem?_mirror_all (by rw[P.sz];exact hm),if_pos ⟨aH _,hi⟩]
  congr 1
  omega)
 rw[at_ i (by omega),at_ j hj];exact d _ _ (by omega) (by omega)
def HZ(hc:∀i j,i<n->j<n->∀C,C (decide (r i<r j)) s->cmp i j C s)(inj:∀i j,i<n->j<n->r i=r j->i=j)(P:Pl n p){m:Nat}(h1:1<=m)(hm:m<=n)(d:Dn r p m){Q:Nat×Array Nat->Shared->Prop}
  (h:∀k q,Pl n q->1<=k->k<=n->Up r q k->Q (k,q) s):(kas_tail3 m n p).kasWp cmp Q s:=by obtain⟨P',u⟩:=P6 P hm d;unfold kas_tail3;rw[KasT.kasWp_bind];exact BF hc inj P' _ _ h1 (by omega) u λk a b c _=>h k _ P' (by omega) (by omega) c
def Ie(hc:∀i j,i<n->j<n->∀C,C (decide (r i<r j)) s->cmp i j C s)(inj:∀i j,i<n->j<n->r i=r j->i=j)(P:Pl n p)(h2:2<=n){Q:Nat×Array Nat->Shared->Prop}
  (h:∀k q,Pl n q->1<=k->k<=n->Up r q k->Q (k,q) s):(kas_count n p).kasWp cmp Q s:=by
 unfold kas_count;rw[KasT.kasWp_bind];refine BF hc inj P _ _ (az _) (by omega) (λi j _ _=>by omega) λm a b c d=>?_;by_cases e:m=n
 .rw[if_pos (by simp[e])];exact h m p P a (by omega) c
 rw[if_neg (by simp[e])];by_cases g:m>1
 .rw[if_pos g];show cmp (p.getD 0 0) (p.getD (m-1) 0) _ s;refine hc _ _ (P.lt (by omega)) (P.lt (by omega)) _ ?_;rw[decide_eq_true (show r (p.getD 0 0)<r (p.getD (m-1) 0) from c 0 (m-1) (by omega) (by omega))];exact h m p P a (by omega) c
 .rw[if_neg g];have e1:m=1:=by omega
  subst e1;unfold kas_descPart;rw[KasT.kasWp_bind];refine Dg hc inj P _ _ (az _) (by omega) (λi j hij hj=>?_) λk a' b' d'=>?_
  .have e0:i=0:=by omega
   have e1:j=1:=by omega
   subst e0 e1;exact d (by omega)
  .exact HZ hc inj P (by omega) (by omega) d' h
theorem up_place(hc:∀i j,i<n->j<n->∀C,C (decide (r i<r j)) s->cmp i j C s)(inj:∀i j,i<n->j<n->r i=r j->i=j)(P:Pl n p){k:Nat}(hk:k<n)(u:Up r p k){Q:Nat->Shared->Prop}:∀f a b,b-a<=f->a<=b->b<=k->(∀i,i<a->kv r p i<kv r p k)->(∀i,b<=i->i<k->kv r p k<kv r p i) ->
  (∀l,l<=k->(∀i,i<l->kv r p i<kv r p k)->(∀i,l<=i->i<k->kv r p k<kv r p i)->Q l s)->(kas_place p k f a b).kasWp cmp Q s
 | 0,a,b,hf,hab,hb,lo,hi,h=>by
  have e:a=b:=by omega
  subst e;exact h a hb lo hi
 | f+1,a,b,hf,hab,hb,lo,hi,h=>by
  unfold kas_place;by_cases g:a>=b
  .rw[if_pos g];have e:a=b:=by omega
   subst e;exact h a hb lo hi
  .rw[if_neg g];show cmp (p.getD k 0) (p.getD ((a+b) / 2) 0) _ s;refine hc _ _ (P.lt hk) (P.lt (by omega)) _ ?_;have ne:=P.ne inj (i:=k) (j:=(a+b) / 2) hk (by omega) (by omega);by_cases hl:r (p.getD k 0)<r (p.getD ((a+b) / 2) 0)
   .rw[decide_eq_true hl];have hl':kv r p k<kv r p ((a+b) / 2):=hl;refine up_place hc inj P hk u f a ((a+b) / 2) (by omega) (by omega) (by omega) lo (λi h1 h2=>?_) h;by_cases e:i=(a+b) / 2
    .rw[e];exact hl'
    .exact Int.lt_trans hl' (u _ i (by omega) h2)
   .rw[decide_eq_false hl];have hl':kv r p ((a+b) / 2)<kv r p k:=by have:¬kv r p k<kv r p ((a+b) / 2):=hl;omega
    refine up_place hc inj P hk u f ((a+b) / 2+1) b (by omega) (by omega) hb (λi h1=>?_) hi h;by_cases e:i=(a+b) / 2
    .rw[e];exact hl'
    .exact Int.lt_trans (u i _ (by omega) (by omega)) hl'
theorem Ig(hc:∀i j,i<n->j<n->∀C,C (decide (r i<r j)) s->cmp i j C s)(inj:∀i j,i<n->j<n->r i=r j->i=j){Q:Array Nat->Shared->Prop}(h:∀q,Pl n q->Up r q n->Q q s):∀f k (p:Array Nat),Pl n p->k+f=n->Up r p k->(kas_bin f p k).kasWp cmp Q s
 | 0,k,p,P,e,u=>h p P (by rw[<- e];exact u)
 | f+1,k,p,P,e,u=>by
  unfold kas_bin;rw[KasT.kasWp_bind];refine up_place hc inj P (k:=k) (by omega) u k 0 k (by omega) (aH _) (az _) (λi hi=>absurd hi (gG _)) (λi h1 h2=>absurd h2 (by omega)) λl hl lo hi=>?_;refine Ig hc inj h f (k+1) _ (P.of (bubble_perm _ _ _)) (by omega) λi j hij hj=>?_;have at_:∀i,kv r (bubble p k (k-l)) i=if i=l then kv r p k else if l<i/\i<=k then kv r p (i-1) else kv r p i:=λi=>by
   have g:=getElem?_bubble (xs:=p) (src:=k) (by rw[P.sz];omega) (k-l) (by omega) i;rw[show k-(k-l)=l by omega] at g;split at g
   .rw[if_pos (by assumption)];exact Df g
   .rw[if_neg (by assumption)];split at g
    .rw[if_pos (by assumption)];exact Df g
    .rw[if_neg (by assumption)];exact Df g
  rw[at_ i,at_ j]
  repeat' split
  all_goals first
   | (exfalso;omega)
   | exact lo _ (by omega)
   | exact hi _ (by omega) (by omega)
   | exact u _ _ (by omega) (by omega)
def Dh(hc:∀i j,i<n->j<n->∀C,C (decide (r i<r j)) s->cmp i j C s)(inj:∀i j,i<n->j<n->r i=r j->i=j)(h2:2<=n){Q:Array Nat->Shared->Prop}(h:∀q,Pl n q->Up r q n->Q q s):(kas_sort n).kasWp cmp Q s:=by
 unfold kas_sort;rw[KasT.kasWp_bind];refine Ie hc inj (Pl.start n) h2 λk q P h1 hk u=>?_;by_cases g:k<n
 .rw[if_pos g];exact Ig hc inj h _ _ q P (by omega) (by rw[Nat.max_eq_left h1];exact u)
 .rw[if_neg g];have e:k=n:=by omega
  exact h q P (by rw[<- e];exact u)
end
open PySem.Spec
section
variable {prog:Program}{w:World}{A:Around}{E:Value->Shared->Prop}{s:Shared}
def jn(h:Heap)(d:Addr)(es:Array DictEntry)(ep:Nat):Prop:=∃o,h.get? d=some o/\o.ExactDict/\o.data=.dict es ep
def jn.at'{h h':Heap}(x:jn h d es ep)(e:∀o,h.get? d=some o->h'.get? d=some o):jn h' d es ep:=let⟨o,ho,r⟩:=x;⟨o,e _ ho,r⟩
def jn.ty(x:jn s.heap d es ep):s.TypeIs (.ref d) "dict" := let⟨o,ho,hx,_⟩:=x;⟨o,ho,hx.1⟩
def yV{Q:Value->Shared->Prop}(hs:(d==sysModules)=false)(x:jn s.heap d es ep)
  (hQ:Q (.ref s.heap.objs.size) { s with heap:=s.heap.push { cls:=.type "dict_keyiterator", data:=.fields #[.ref d,.int 0 0,.int es.size 0,.int ep 0] } }):wpAny (model prog w) A (pyIter (.ref d)) Q E s:=by have ty:=x.ty;obtain⟨o,ho,_,hd⟩:=x;refine wpAny_pyIter_slot ty F.slot_dict_iter (wpAny_call_entry F.slot_dict_iter ty F.entry_dict_iter ?_ (F.args_dict_iter_1 _));unfold Builtin.«dict.__iter__» Builtin.Dict.dictSlotNone;refine aq (aq (wpAny_notOrdered_dict ty (show wpAny _ _ (pure (Value.ref d)) _ _ s from aL ?_)));show wpAny _ _ (Builtin.Dict.showsAll d >>= _) _ _ s;unfold Builtin.Dict.showsAll;rw[hs,if_neg jT];refine aq (aL (aq (wpAny_dictEntries ho hd (aq (wpAny_dictEpoch ho hd (aq (wpAny_newObj_type (aL ⟨_,rfl, "dict_keyiterator", _,⟨_,iE _ rfl,rfl⟩,F.slot_dict_keyiterator_next.lookup,?_⟩))))))));simpa[rawInt] using hQ
def yW{it:Addr}{e:DictEntry}{Q:Option Value->Shared->Prop}(hit:s.heap.IsKeyIter it d i es.size ep)(x:jn s.heap d es ep)(he:es[i]?=some e)
  (hQ:∀h',h'.IsKeyIter it d (i+1) es.size ep->Heap.SameBut it s.heap h'->Q (some e.key) { s with heap:=h' }):wpAny (model prog w) A (pyNext (.ref it)) Q E s:=by
 have ty:=hit.typeIs;obtain⟨o,ho,hc,hf⟩:=hit;obtain⟨od,hod,_,qq⟩:=x;unfold pyNext;refine aq (wpAny_attempt (wpAny_callSpecial?_slot (name:=Str.ofString "__next__") ty wj (wpAny_call_entry wj ty F.entry_dict_keyiterator_next ?_ (F.args_dict_keyiterator_next_1 _))));refine aq (aL (aq (aq ?_)))
 first|refine aq (wpAny_typeNameOfWhole_keyiter ty (aL (aq (wpAny_fieldsOf ho hf ?_))))|refine aq (wpAny_typeNameOf_keyiter ty (aL (aq (wpAny_fieldsOf ho hf ?_))))
 rw[show Builtin.Dict_items.ownsTuple "dict_keyiterator" = false by decide];simp only[bV,if_false];show wpAny _ _ (if(Value.ref d==Value.none)=true then _ else _) _ _ s;rw[if_neg (show ¬(Value.ref d==Value.none)=true from jT)];refine aq (aL (aq (wpAny_dictEntries hod qq ?_)));rw[if_neg (by simp)];refine aq (aL (aq (wpAny_dictEpoch hod qq ?_)));rw[if_neg (by simp)];refine aL ?_;simp only[show ¬((i:Int)<0) by omega,if_false,gF,he];refine aq ?_
 first|refine aq (wpAny_typeNameOfWhole_keyiter ty (aL (aq (wpAny_isOneOf_keyiter ty ?_))))|refine aq (wpAny_typeNameOf_keyiter ty (aL (aq (wpAny_isOneOf_keyiter ty ?_))))
 show wpAny _ _ (setField (.ref it) 1 (rawInt ((i:Int)+1)) >>= _) _ _ s;have yI:(s.heap.update it (Obj.mapFields (·.setIfInBounds 1 (rawInt ((i:Int)+1))))).IsKeyIter it d (i+1) es.size ep :=
  ⟨_,fE _ ho (iO (dG hf _)),(kh ..).trans hc,by rw[dG hf];simp[rawInt]⟩
 refine aq (wpAny_setField ho hf (by simp) (aq (wpAny_holding ?_)));refine aq (wpAny_isOneOf_keyiter (s:={ s with heap:=s.heap.update it (Obj.mapFields (·.setIfInBounds 1 (rawInt ((i:Int)+1)))) }) yI.typeIs (show wpAny _ _ (pure e.key) _ _ _ from ?_));exact aL (aL ⟨_,rfl,aL (hQ _ yI (jD ..))⟩)
def Di{it:Addr}{Q:Option Value->Shared->Prop}(hh:A.handled=none)(hit:s.heap.IsKeyIter it d es.size es.size ep)(x:jn s.heap d es ep)
  (hQ:∀h',Heap.ExtBut it s.heap h'->Q none { s with heap:=h' }):wpAny (model prog w) A (pyNext (.ref it)) Q E s:=by
 have ty:=hit.typeIs;obtain⟨o,ho,hc,hf⟩:=hit;obtain⟨od,hod,_,qq⟩:=x;unfold pyNext;refine aq (wpAny_attempt (wpAny_callSpecial?_slot (name:=Str.ofString "__next__") ty wj (wpAny_call_entry wj ty F.entry_dict_keyiterator_next ?_ (F.args_dict_keyiterator_next_1 _))));refine aq (aL (aq (aq ?_)))
 first|refine aq (wpAny_typeNameOfWhole_keyiter ty (aL (aq (wpAny_fieldsOf ho hf ?_))))|refine aq (wpAny_typeNameOf_keyiter ty (aL (aq (wpAny_fieldsOf ho hf ?_))))
 rw[show Builtin.Dict_items.ownsTuple "dict_keyiterator" = false by decide];simp only[bV,if_false];show wpAny _ _ (if(Value.ref d==Value.none)=true then _ else _) _ _ s;rw[if_neg (show ¬(Value.ref d==Value.none)=true from jT)];refine aq (aL (aq (wpAny_dictEntries hod qq ?_)));rw[if_neg (by simp)];refine aq (aL (aq (wpAny_dictEpoch hod qq ?_)));rw[if_neg (by simp)];refine aL ?_;simp only[show ¬((es.size:Int)<0) by omega,if_false,gF,qj (az es.size)];refine aq ?_
 first|refine aq (wpAny_typeNameOfWhole_keyiter ty (aL ?_))|refine aq (wpAny_typeNameOf_keyiter ty (aL ?_))
 show wpAny _ _ (setField (.ref it) 0 .none >>= _) _ _ s;refine aq (wpAny_setField ho hf (by simp) (show wpAny _ _ (newExc (.type "StopIteration") [] >>= _) _ _ _ from aq ?_));simp only[newExc,newTuple];refine aq (wpAny_newObj_type ?_ (by size_fits));refine aq (m:=firstArgMember _ _) (wpAny_of_eq (a:=Value.none) (by first|rfl|(simp only[firstArgMember];rfl)) (wpAny_newObj_type ?_ (by size_fits)));simp only[raiseNew];refine aq (wpAny_handled ?_);rw[show A.in1.handled=none from hh];refine aq (aL (wpAny_throw (aq ?_)));refine wpAny_isInstance (T := "StopIteration") (b:=true) ⟨_,iE _ rfl,rfl⟩ isSubtype_stop ?_;exact aL (hQ _ (((jD ..).extBut.push _).push _))
def Fc(hh:A.handled=none)(I d:Addr)(hne:d≠I)(es:Array DictEntry)(ep:Nat):Walks prog w A I [I,d] [I] es.size (λi v=>∃e,es[i]?=some e/\v=e.key) (λi h=>h.IsKeyIter I d i es.size ep/\jn h d es ep) where
 sub:=λb hb=>by simp at hb;simp[hb]
 frame:=λ_ _ _ st hk=>⟨st.1.at λo e=>hk I (by simp) o e,st.2.at' λo e=>hk d (by simp) o e⟩
 item:=λi s Q E hi st hQ=>by have e1:es[i]?=some es[i]:=gw hi;refine yW st.1 st.2 e1 λh' h1 h2=>hQ _ h' s.toks ⟨_,e1,rfl⟩ ⟨h1,st.2.at' λo e=>h2.extBut d o hne e⟩ λb o hb e=>h2.extBut b o (λh=>hb (by simp[h])) e
 done:=λs Q E st hQ=>Di hh st.1 st.2 λh' h1=>hQ h' s.toks λb o hb e=>h1 b o (λh=>hb (by simp[h])) e
 self:=λ_ _ _ _ st hQ=>wpAny_pyIter_keyiter st.1 hQ
def LD(lo:(d==sysModules)=false):KdlSrc prog w "dict" d d es.size (λi v=>∃e,es[i]?=some e/\v=e.key) (λh=>jn h d es ep) where
 type:=λ_ x=>x.ty
 there:=λ_ x=>⟨let⟨_,ho,_⟩:=x;aK ho,let⟨_,ho,_⟩:=x;aK ho⟩
 keep:=λ_ _ x hk=>x.at' λo e=>hk d (.inl rfl) o e
 notList:=by decide
 notTuple:=by decide
 hint:=λ_ _ _ _ x hq=>kdl_hint_dict x.ty hq
 iter:=λ_ s hh x=>⟨_,_,(λ_ _ hq=>yV lo x hq),Fc hh _ d (let⟨_,ho,_⟩:=x;aQ (aK ho)) es ep,⟨⟨_,iE _ rfl,rfl,rfl⟩,x.at' λo e=>c9 _ e⟩⟩
def Ih{ep:Nat}{R:Result->Shared->Prop}(hh:A.handled=none)(lo:(d==sysModules)=false)(x:jn s.heap d es ep)(hz:es.size<=sizeLine)
  (hR:∀h' tk acc c,(∀b o,s.heap.get? b=some o->h'.get? b=some o)->h'.get? s.heap.objs.size=some { cls:=.type "list", dict:=none,data:=.seq acc c,slots:=#[] }->ItemsOf (λi v=>∃e,es[i]?=some e/\v=e.key) acc es.size->R (.ok (.ret (.ref s.heap.objs.size))) { s with heap:=h',toks:=tk }):
  codeAny (model prog w) A (.builtin "proto.collect" ⟨[.ref d],[]⟩) R s:=by refine codeAny_builtin F.entry_proto_collect ?_;rw[iw F.plain_proto_collect];have hlt:d<s.heap.objs.size:=let⟨_,ho,_⟩:=x;aK ho;refine aq (m:=newList []) (wpAny_newObj_type (aL ⟨plainId_quiet F.plain_list_iadd _,codeAny_builtin F.entry_list_iadd ?_⟩));rw[iw F.plain_list_iadd];show wpAny _ A.in1 (Builtin.List.listExtendWith (.ref s.heap.objs.size) (.ref d) (.ref s.heap.objs.size)) _ _ _;exact kdl_extend (s:={ s with heap:=s.heap.push { cls:=.type "list", data:=.seq ([]:List Value).toArray } }) (R:=R) (LD lo) hh (x.at' λo e=>c9 _ e) s.heap.objs.size (jq hlt) (jq hlt) _ 0 (iE _ rfl) (λh' tk acc c hk hS hacc=>hR h' tk acc c (λb o e=>hk b o (aQ (aK e)) (c9 _ e)) hS hacc) hz
def yX{ep:Nat}{Q:List Value->Shared->Prop}(hh:A.handled=none)(lo:(d==sysModules)=false)(x:jn s.heap d es ep)(hz:es.size<=sizeLine)
  (hQ:∀h' tk acc,(∀b o,s.heap.get? b=some o->h'.get? b=some o)->s.heap.objs.size<h'.objs.size->ItemsOf (λi v=>∃e,es[i]?=some e/\v=e.key) acc es.size->Q acc.toList { s with heap:=h',toks:=tk }):wpAny (model prog w) A (collect (.ref d)) Q E s:=by unfold collect;refine aq (wpAny_runValue (Ih hh lo x hz λh' tk acc c hk hS hacc=>?_));refine aq (m:=load s.heap.objs.size) (wpAny_load hS (aL (hQ h' tk acc hk (aK hS) hacc)))
end
abbrev jf(h:Heap):List Value->List (Int×Int)->Prop:=Paired λv p=>∃x o n t u,v=.ref x/\h.get? x=some o/\o.cls=.type "tuple" /\ o.data=.seq #[.int p.1 t,.int p.2 u] n
def rk(p:Int×Int):Int:=p.1*1000+p.2
def TU{a b c d:Int}(h1:0<=b/\b<1000)(h2:0<=d/\d<1000):decide (rk (a,b)<rk (c,d))=if a=c then decide (b<d) else decide (a<c):=by
 unfold rk;dsimp only;split
 .rw[decide_eq_decide];omega
 .rw[decide_eq_decide];omega
def P7{p q:Int×Int}(h1:0<=p.2/\p.2<1000)(h2:0<=q.2/\q.2<1000)(e:rk p=rk q):p=q:=by
 obtain⟨a,b⟩:=p;obtain⟨c,d⟩:=q;unfold rk at e;dsimp only at *;have e1:a=c:=by omega
 have e2:b=d:=by omega
 rw[e1,e2]
section
variable {prog:Program}{w:World}{A:Around}{E:Value->Shared->Prop}{s:Shared}
def LF{x y:Addr}{ox oy:Obj}{n k:Nat}{a b c d:Int}{t1 t2 t3 t4:Tok}{Q:Bool->Shared->Prop}(hx:s.heap.get? x=some ox)(dx:ox.data=.seq #[.int a t1,.int b t2] n)(hy:s.heap.get? y=some oy)(dy:oy.data=.seq #[.int c t3,.int d t4] k)
  (h:Q (if a=c then decide (b<d) else decide (a<c)) s):wpAny (model prog w) A (keyLt' (tuples' true) (.ref x) (.ref y)) Q E s:=by
 refine kat_lt hx dx hy dy (kat_cons (wpAny_eqBool_int ?_));by_cases e:a=c
 .rw[if_pos e] at h;rw[show(a==c)=true by simpa using e];refine kat_yes (kat_cons (wpAny_eqBool_int ?_));by_cases e2:b=d
  .rw[show(b==d)=true by simpa using e2];rw[decide_eq_false (by omega)] at h;exact kat_yes (kat_nil h)
  .rw[show(b==d)=false by simpa using e2];exact kat_no (kat_one _ _ (PyProof.Rows.lt_int h))
 .rw[if_neg e] at h;rw[show(a==c)=false by simpa using e];exact kat_no (oneLt_int h)
theorem Dj{h:Heap}:∀{vs:List Value}{ps:List (Int×Int)},jf h vs ps->∃fs:List Value,KatTups h vs fs/\fs.length=ps.length/\∀v∈fs,∃i t,v=Value.int i t
 | _,_,.nil=>⟨[],.nil,rfl,λv hv=>nomatch hv⟩
 | _,_,.cons ⟨x,o,n,t,u,e,h1,h2,h3⟩ r=>by
  obtain⟨fs,a1,a2,a3⟩:=Dj r;subst e;refine⟨_::fs,KatTups.cons h1 h2 h3 rfl a1,by simp[a2],λv hv=>?_⟩;rcases aI.mp hv with e|hv
  .exact⟨_,_,e⟩
  .exact a3 v hv
theorem BG{h:Heap}:∀{vs:List Value}{ps:List (Int×Int)}(_:jf h vs ps){i:Nat}(_:i<ps.length),∃x o n t u,vs.getD i Value.none=.ref x/\h.get? x=some o/\o.data=.seq #[.int (ps.getD i (0,0)).1 t,.int (ps.getD i (0,0)).2 u] n
 | _,_,.cons ⟨x,o,n,t,u,e,h1,h2,h3⟩ r,0,_=>⟨x,o,n,t,u,e,h1,h3⟩
 | _,_,.cons _ r,i+1,hi=>by obtain⟨x,o,n,t,u,h⟩:=BG r (i:=i) (by simpa using hi);exact⟨x,o,n,t,u,by simpa using h⟩
def jf.keep{h h':Heap}{vs:List Value}(x:jf h vs ps)(k:∀b o,o.cls=.type "tuple" -> h.get? b=some o->h'.get? b=some o):jf h' vs ps:=L2.Paired.Ez x λv p ⟨x,o,n,t,u,e,h1,h2,h3⟩=>⟨x,o,n,t,u,e,k _ _ h2 h1,h2,h3⟩
theorem Dk:∀{vs:List Value},vs.length<2->(vs.toArray.zip vs.toArray).map (·.2)=List.toArray ((List.toArray (List.range vs.length)).toList.map λi=>vs.getD i Value.none)
 | [],_=>by simp
 | [v],_=>by simp[m9]
 | _::_::_,h=>by simp only[eB] at h;omega
set_option maxHeartbeats 1000000 in
def yY{a:Addr}{vs:List Value}{P:PySem.Fin->Shared->Prop}(ho:s.heap.get? a=some (seqObj "list" vs.toArray n))(hP:jf s.heap vs ps)(hb:∀p∈ps,0<=p.2/\p.2<1000)(nd:ps.Nodup)(h64:ps.length<64)
  (h:∀q:Array Nat,Pl ps.length q->(∀i j,i<j->j<ps.length->rk (ps.getD (q.getD i 0) (0,0))<rk (ps.getD (q.getD j 0) (0,0)))->P (.done (.ret .none)) { s with heap:=sortedHeap s.heap a vs (List.toArray (q.toList.map λi=>vs.getD i Value.none)) }):
  wpAny (model prog w) A (Builtin.«list.sort» ⟨[.ref a],[]⟩) P E s:=by
 have hlen:vs.length=ps.length:=hP.length;have ha:a<s.heap.objs.size:=aK ho;obtain⟨e1,P8⟩:∃e1,(s.heap.update a (Obj.mapSeq λ_=>#[])).get? a=some (seqObj "list" #[] e1):=⟨_,get?_update_seq ho (λ_=>#[])⟩;have kp:∀b o,b≠a->s.heap.get? b=some o->(((s.heap.update a (Obj.mapSeq λ_=>#[])).push (seqObj "tuple" vs.toArray 0)).push (seqObj "list" #[] 0)).get? b=some o:=λb o hba e=>c9 _ (c9 _ ((fU _ _ _ _ hba).trans e));have ho6:(((s.heap.update a (Obj.mapSeq λ_=>#[])).push (seqObj "tuple" vs.toArray 0)).push (seqObj "list" #[] 0)).get? a=some (seqObj "list" #[] e1):=c9 _ (c9 _ P8);rw[list_sort_plain];refine aq (listItems_at ho rfl (aq (listUpdate_at ho rfl ?_ (by rw[aV,sizeLine_eq];omega) (aH _))));refine aq (seqEpoch_at P8 rfl (aq (wpAny_newTuple ?_ (by show vs.length<=_;rw[sizeLine_eq];omega))));refine aq (wpAny_newList (wpAny_holding ?_) (aH _));show wpAny (model prog w) A _ P E { s with heap:=((s.heap.update a (Obj.mapSeq λ_=>#[])).push (seqObj "tuple" vs.toArray 0)).push (seqObj "list" #[] 0) };have PG:jf (((s.heap.update a (Obj.mapSeq λ_=>#[])).push (seqObj "tuple" vs.toArray 0)).push (seqObj "list" #[] 0)) vs ps:=hP.keep λb o hc e=>kp b o (λz=>by subst z;rw[ho] at e;cases e;exact absurd (show Value.type "list" = .type "tuple" from hc) (by decide)) e;have uh:∀out,((((s.heap.update a (Obj.mapSeq λ_=>#[])).push (seqObj "tuple" vs.toArray 0)).push (seqObj "list" #[] 0))).update a (Obj.mapSeq λ_=>out)=sortedHeap s.heap a vs out:=λ_=>rfl;generalize (((s.heap.update a (Obj.mapSeq λ_=>#[])).push (seqObj "tuple" vs.toArray 0)).push (seqObj "list" #[] 0))=G at *;dsimp only;have fin:∀q:Array Nat,Pl ps.length q->Up (λi=>rk (ps.getD i (0,0))) q ps.length->P (.done (.ret .none)) { s with heap:=G.update a (Obj.mapSeq λ_=>List.toArray (q.toList.map λi=>vs.getD i Value.none)) }:=λq hq u=>by rw[uh];exact h q hq u
 by_cases h2:vs.toArray.size<2
 .rw[if_pos h2,if_pos h2];refine aq (aL ?_);rw[StateT.run_pure];refine aq (aL (aq (seqEpoch_at ho6 rfl (aq (listUpdate_at ho6 rfl ?_ (aH _) ?_)))))
  .simp only[bne_self_eq_false,bV,if_false];have:=fin (List.toArray (List.range ps.length)) (Pl.start _) (λi j hij hj=>by rw[aV] at h2;omega);have e:(arrOf (SortSt.mk' general' (vs.toArray.zip vs.toArray) #[] 7 none)).map (·.2)=List.toArray ((List.toArray (List.range ps.length)).toList.map λi=>vs.getD i Value.none):=by rw[<- hlen];exact Dk (by rw[aV] at h2;exact h2)
   rw[e];exact aL this
  .show((vs.toArray.zip vs.toArray).map _).size<=_;rw[Array.size_map,Array.size_zip,aV,sizeLine_eq];omega
 .have h2':2<=vs.length:=by rw[aV] at h2;omega
  rw[if_neg h2,if_neg h2];obtain⟨fs,k1,k2,k3⟩:=Dj PG;refine aq (kat_kind (T:=.type "int") k1 (by omega) (λv hv=>by obtain⟨i,t,rfl⟩:=k3 v hv;exact Looks.of_pure rfl) rfl ?_);have kd:((Value.type "int") != (Value.type "tuple"))=true:=by decide
  rw[kd];refine aq (wpAny_mono (kat_run (prog:=prog) (w:=w) (A:=A) (κ:=tuples' true) (vs:=vs) (ks:=vs) (Q:=λst' s'=>s'={ s with heap:=G }/\failedOf st'=none/\∃q,Pl ps.length q/\Up (λi=>rk (ps.getD i (0,0))) q ps.length/\(arrOf st').map (·.2)=List.toArray (q.toList.map λi=>vs.getD i Value.none))
   (G:=λq s'=>s'={ s with heap:=G }/\Pl ps.length q/\Up (λi=>rk (ps.getD i (0,0))) q ps.length) rfl h2' (by omega) (λq st' s' _ har hf hg=>⟨hg.1,hf,q,hg.2.1,hg.2.2,kat_snds rfl har⟩) ?_) ?_ λ_ _ e=>e)
  .rw[hlen];refine Dh (r:=λi=>rk (ps.getD i (0,0))) (λi j hi hj C hC=>?_) (λi j hi hj e=>?_) (by omega) λq hq u=>⟨rfl,hq,u⟩
   .obtain⟨x,ox,n1,t1,u1,ex,gx,dx⟩:=BG PG hi;obtain⟨y,oy,n2,t2,u2,ey,gy,dy⟩:=BG PG hj;show wpAny (model prog w) A (keyLt' (tuples' true) (vs.getD i Value.none) (vs.getD j Value.none)) C _ _;rw[ex,ey];refine LF (s:={ s with heap:=G }) gx dx gy dy ?_;have mi:ps.getD i (0,0)∈ps:=by rw[mJ,fO hi];exact jI hi
    have mj:ps.getD j (0,0)∈ps:=by rw[mJ,fO hj];exact jI hj
    rw[<- TU (hb _ mi) (hb _ mj)];exact hC
   .have mi:ps.getD i (0,0)∈ps:=by rw[mJ,fO hi];exact jI hi
    have mj:ps.getD j (0,0)∈ps:=by rw[mJ,fO hj];exact jI hj
    have e2:=P7 (hb _ mi) (hb _ mj) e;rw[mJ,fO hi,mJ,fO hj] at e2;exact(rR nd).mp e2
  .rintro⟨⟨⟩,st'⟩ s' ⟨rfl,hf,q,hq,u,eo⟩;dsimp only;refine aq (seqEpoch_at ho6 rfl (aq (listUpdate_at ho6 rfl ?_ (aH _) ?_)))
   .rw[hf];simp only[bne_self_eq_false,bV,if_false];rw[eo];exact aL (fin q hq u)
   .rw[eo,aV,av,cX,hq.sz,sizeLine_eq];omega
def BH{ep:Nat}{Q:Value->Shared->Prop}(hh:A.handled=none)(lo:(d==sysModules)=false)(x:jn s.heap d es ep)(hP:jf s.heap (es.toList.map (·.key)) ps)(hb:∀p∈ps,0<=p.2/\p.2<1000)(nd:ps.Nodup)(h64:ps.length<64)
  (h:∀(p:Addr)(h':Heap)(tk c:Nat)(q:Array Nat),s.heap.objs.size<=p->(∀b x,s.heap.get? b=some x->h'.get? b=some x)->h'.get? p=some { cls:=.type "list", data:=.seq (List.toArray (q.toList.map λi=>(es.toList.map (·.key)).getD i Value.none)) c }->Pl ps.length q->(∀i j,i<j->j<ps.length->rk (ps.getD (q.getD i 0) (0,0))<rk (ps.getD (q.getD j 0) (0,0)))->Q (.ref p) { s with heap:=h',toks:=tk }):
  wpAny (model prog w) A (call (.builtin "sorted") [.ref d]) Q E s:=by
 have hes:es.size=ps.length:=by have:=hP.length;rw[av,cX] at this;exact this
 refine wg kind_sorted plain_sorted entry_sorted (args_sorted1 _) ?_;unfold Builtin.«sorted»;refine aq (m:=checkCount "sorted" 1 1 _) (aL (aq (yX (by simp[hh]) lo x (by rw[hes,sizeLine_eq];omega) ?_)));intro h1 TR acc k1 BD items;have P9:acc.toList=es.toList.map (·.key):=by
  apply List.ext_getElem?;intro i;rcases aY i es.size with hi|hi
  .have hi':i<acc.size:=by rw[items.1];exact hi
   obtain⟨e,he,ee⟩:=items.2 i acc[i] (gw hi');rw[fS,gw hi',bw,fS,he,ee];rfl
  .rw[jH (by rw[cX,items.1];exact hi),jH (by rw[av,cX];exact hi)]
 rw[P9];have hvl:(es.toList.map (·.key)).length=ps.length:=hP.length;have hP1:jf h1 (es.toList.map (·.key)) ps:=hP.keep λb o _ e=>k1 b o e;generalize es.toList.map (·.key)=vs at *;refine aq (wpAny_newList ?_ (by rw[hvl,sizeLine_eq];omega));have gN:(h1.push (seqObj "list" vs.toArray 0)).get? h1.objs.size=some (seqObj "list" vs.toArray 0):=iE _ rfl;refine aq (wpAny_holding (wpAny_call_entry slot_list_sort ⟨_,gN,rfl⟩ entry_list_sort (yY gN (hP1.keep λb o _ e=>c9 _ e) hb nd h64 λq hq u=>⟨_,rfl,?_⟩) (args_list_sort _)));obtain⟨c,hc⟩:=sortedHeap_at (h:=h1.push (seqObj "list" vs.toArray 0)) (a:=h1.objs.size) (vs:=vs) (n:=0) (out:=List.toArray (q.toList.map λi=>vs.getD i Value.none)) gN;refine aL ⟨_,rfl,h h1.objs.size _ TR c q (jK BD) (λb x e=>?_) hc hq u⟩;have hb:=aK (k1 b x e);rw[sortedHeap_old (aQ hb) (by rw[size_push'];exact jo hb)];exact c9 _ (k1 b x e)
end
end SN
namespace L2
open PySem PySem.Spec PyProof.Rows
variable {p q:Int×Int}{a b:Addr}{ps:List (Int×Int)}
abbrev lG(H:Hp):List V->List (Int×Int)->Prop:=Paired λv p=>∃a,v=.ref a/\H a=some (.tup [.int p.1,.int p.2])
theorem lH{α β:Type}{F:α->β->Prop}:∀{l₁:List α}{l₂:List β},Paired F l₁ l₂->∀{i:Nat}{x:α},l₁[i]?=some x->∃y,l₂[i]?=some y/\F x y
 | _,_,.cons (b:=b) h _,0,x,e=>⟨b,rfl,by simp only[List.getElem?_cons_zero,Option.some.injEq] at e;rw[<- e];exact h⟩
 | _,_,.cons _ t,i+1,x,e=>by simpa using lH t (i:=i) (x:=x) (by simpa using e)
def ux(p:Int×Int):List Key:=[.inl p.1,.inl p.2]
def LG(e:ux p=ux q):p=q:=by obtain⟨a,b⟩:=p;obtain⟨c,d⟩:=q;unfold ux at e;dsimp only at e;injection e with e1 e2;injection e1 with e1;injection e2 with e2 _;injection e2 with e2;rw[e1,e2]
section
variable {X:Cx}{pins:List (Addr×Obj)}{σ:St}{H:Hp}{s:Shared}{Q:VK}
def Inv.pair(I:Inv X pins σ H s)(h:H a=some (.tup [.int p.1,.int p.2])):∃o n t u,s.heap.get? a=some o/\o.cls=.type "tuple" /\ o.data=.seq #[.int p.1 t,.int p.2 u] n:=by
 obtain⟨_,its,r,o,h1,h2,n,h3⟩:=(show cZ X.prog X.w H s.heap a (.tup [.int p.1,.int p.2]) from I.hok a _ h);cases r with
 | cons r1 r =>
  cases r with
  | cons r2 r =>
   cases r;obtain⟨t,rfl⟩:=r1;obtain⟨u,rfl⟩:=r2;exact⟨o,n,t,u,h1,h2,h3⟩
def KO(h:Heap)(p:Int×Int):Value->Bool
 | .ref a=>match h.get? a with
  | some o=>match o.data with
   | .seq its _=>match its.toList with
    | [.int i _,.int j _]=>decide ((i,j)=p)
    | _=>false
   | _=>false
  | none=>false
 | _=>false
def Ii{h:Heap}{o:Obj}{n:Nat}{t u:Tok}(e:h.get? a=some o)(d:o.data=.seq #[.int p.1 t,.int p.2 u] n):KO h q (.ref a)=decide (p=q):=by unfold KO;dsimp only;rw[e];dsimp only;rw[d]
def Fd{A:Around}{oa ob:Obj}{n m:Nat}{t1 t2 u1 u2:Tok}(ea:s.heap.get? a=some oa)(ca:oa.cls=.type "tuple")(da:oa.data=.seq #[.int p.1 t1,.int p.2 t2] n)(eb:s.heap.get? b=some ob)(cb:ob.cls=.type "tuple")(db:ob.data=.seq #[.int q.1 u1,.int q.2 u2] m)(hu:A.units+1<cLine):
  SeqAt.EqAt A s (.ref a) (.ref b) (decide (p=q)):=by
 have ra:Reads s.heap (.ref a) (.tuple [.int p.1,.int p.2]) _:=.tuple ea ca da (by simpa using ReadsAll.cons (.int p.1 t1) (.cons (.int p.2 t2) .nil));have rb:Reads s.heap (.ref b) (.tuple [.int q.1,.int q.2]) _:=.tuple eb cb db (by simpa using ReadsAll.cons (.int q.1 u1) (.cons (.int q.2 u2) .nil));have e:PyData.eqv (.tuple [.int p.1,.int p.2]) (.tuple [.int q.1,.int q.2])=decide (p=q):=by
  obtain⟨a,b⟩:=p;obtain⟨c,d⟩:=q;show((a==c)&&((b==d)&&true))=_;by_cases h1:a=c
  .by_cases h2:b=d
   .subst h1 h2;simp
   .simp[h2]
  .simp[h1]
 rw[<- e];exact SeqAt.eqAt_reads _ _ A s _ _ _ _ ra rb rfl rfl hu
theorem wX(I:Inv X pins σ H s)(q:Int×Int):∀{xs:List V}{ps:List (Int×Int)}{us:List Value},lG H xs ps->Vals xs us->us.any (KO s.heap q)=decide (q∈ps)
 | _,_,_,.nil,.nil=>by simp
 | _,_,_,.cons (b:=p) (l₂:=ps) ⟨a,e,h⟩ r,.cons rv rs=>by
  subst e;cases rv;obtain⟨o,n,t,u,h1,h2,h3⟩:=I.pair h;rw[jE,Ii h1 h3,wX I q r rs];by_cases e:p=q
  .simp[e]
  .have e':¬q=p:=λz=>e z.symm;simp[e,e']
theorem BI(I:Inv X pins σ H s){A:Around}(hu:A.units+1<cLine){b:Addr}{q:Int×Int}(hb:H b=some (.tup [.int q.1,.int q.2])):∀{xs:List V}{ps:List (Int×Int)}{us:List Value},lG H xs ps->Vals xs us->∀u∈us,SeqAt.EqAt A s u (.ref b) (KO s.heap q u)
 | _,_,_,.nil,.nil=>λu hu=>nomatch hu
 | _,_,_,.cons ⟨a,e,h⟩ r,.cons rv rs=>λu hm=>by
  rcases aI.mp hm with z|z
  .subst z e;cases rv;obtain⟨o,n,t,u,h1,h2,h3⟩:=I.pair h;obtain⟨o',n',t',u',h1',h2',h3'⟩:=I.pair hb;rw[Ii h1 h3];exact Fd h1 h2 h3 h1' h2' h3' hu
  .exact BI I hu hb r rs u z
def Fe(K:aD)(neg:Bool):R2:=λx y H Q=>∃(b l:Addr)(q:Int×Int)(xs:List V)(ps:List (Int×Int)),x=.ref b/\y=.ref l/\H b=some (.tup [.int q.1,.int q.2])/\bE K H l xs/\lG H xs ps/\Q (.bl (if neg then !decide (q∈ps) else decide (q∈ps))) H
def BJ(hu:X.A.units+64<cLine):jS X (compareOp .In) (Fe X.K false):=by intro pins s σ H x y v u Q I rx ry h;obtain⟨b,l,q,xs,ps,rfl,rfl,hb,hl,hp,k⟩:=h;cases rx;cases ry;obtain⟨its,r,pl,hz⟩:=I.list hl;refine SeqAt.in_listAt (KO s.heap q) pl.isList (λw hw=>BI I (by show X.A.units+1+1<cLine;omega) hb hp r w (by simpa using hw)) ⟨.bl _,H,I,rfl,?_⟩;rw[show its.toArray.any (KO s.heap q)=its.any (KO s.heap q) by simp,wX I q hp r];exact k
def Ff(hu:X.A.units+64<cLine):jS X (compareOp .NotIn) (Fe X.K true):=by intro pins s σ H x y v u Q I rx ry h;obtain⟨b,l,q,xs,ps,rfl,rfl,hb,hl,hp,k⟩:=h;cases rx;cases ry;obtain⟨its,r,pl,hz⟩:=I.list hl;refine SeqAt.notIn_listAt (KO s.heap q) pl.isList (λw hw=>BI I (by show X.A.units+1+1<cLine;omega) hb hp r w (by simpa using hw)) ⟨.bl _,H,I,rfl,?_⟩;rw[show its.toArray.any (KO s.heap q)=its.any (KO s.heap q) by simp,wX I q hp r];exact k
def Dl{K:aD}(e:X.K=K)(hu:X.A.units+64<cLine):jS X (compareOp .In) (Fe K false):=e▸BJ hu
def BK{K:aD}(e:X.K=K)(hu:X.A.units+64<cLine):jS X (compareOp .NotIn) (Fe K true):=e▸Ff hu
def Ij:List V->Hp->VK->Prop:=λxs H Q=>∃(d:Addr)(ps:List (Int×Int))(f:Int×Int->V),xs=[.ref d]/\H d=some (.dT (ps.map λp=>(ux p,f p)))/\(∀p∈ps,0<=p.2/\p.2<1000)/\ps.length<64 /\
 ∀l us qs H',fh H l (.lst us) H'->lG H us qs->qs.Perm ps->qs.Pairwise (λp q=>SN.rk p<SN.rk q)->Q (.ref l) H'
def range_getD{α:Type}(d:α):∀xs:List α,(List.range xs.length).map (λi=>xs.getD i d)=xs:=λxs=>by
 apply List.ext_getElem?;intro i;rw[bw];rcases aY i xs.length with h|h
 .rw[pG h];simp[h]
 .rw[jH (by simpa using h),jH h];rfl
def BL(hc:X.calm=true):dj X (.builtin "sorted") Ij:=by
 intro pins s σ H xs us Q I r h;obtain⟨d,ps,f,rfl,hd,hb,h64,k⟩:=h;obtain⟨u,rfl,ru⟩:=vals1 r;cases ru;obtain⟨z,lo,ys,rel,o,es,ep,h1,h2,h3,h4,h5⟩:=(show cZ X.prog X.w H s.heap d (.dT (ps.map λp=>(ux p,f p))) from I.hok d _ hd);have hkeys:es.toList.map (·.key)=(ys.map (·.2.1)).map Value.ref:=by rw[h4,fV,fV];rfl
 have hat:∀{ps:List (Int×Int)}{ys:List (List Key×Addr×Value)},Paired (λ(p:List Key×V)(q:List Key×Addr×Value)=>p.1=q.1/\H q.2.1=some (.tup (p.1.map kV))/\RelV p.2 q.2.2) (ps.map λp=>(ux p,f p)) ys->Paired (λ(a:Addr)(p:Int×Int)=>H a=some (.tup [.int p.1,.int p.2])) (ys.map (·.2.1)) ps/\ys.map (·.1)=ps.map ux:=by
  intro ps;induction ps with
  | nil=>intro ys r;cases r;exact⟨.nil,rfl⟩
  | cons p ps ih =>
   intro ys r;cases r with
   | cons hq t =>
    obtain⟨a1,a2⟩:=ih t;exact⟨.cons hq.2.1 a1,by rw[cj,cj,a2,<- hq.1]⟩
 obtain⟨Qa,Yj⟩:=hat rel;have nd:ps.Nodup:=by rw[Yj] at h5;exact(lq.mp h5).imp λh e=>h (by rw[e])
 have hP:SN.jf s.heap (es.toList.map (·.key)) ps:=by
  rw[hkeys];have go:∀{as:List Addr}{ps:List (Int×Int)},Paired (λ(a:Addr)(p:Int×Int)=>H a=some (.tup [.int p.1,.int p.2])) as ps->SN.jf s.heap (as.map Value.ref) ps:=by
   intro as ps r;induction r with
   | nil=>exact .nil
   | cons h _ ih =>
    obtain⟨o,n,t,u,a1,a2,a3⟩:=I.pair h;exact .cons ⟨_,o,n,t,u,rfl,a1,a2,a3⟩ ih
  exact go Qa
 have yZ:=Qa.length;refine SN.BH (I.ok.hd hc) lo ⟨o,h1,h2,h3⟩ hP hb nd h64 λp h' tk c q hle hk ho hq hup=>?_;rw[hkeys] at ho;generalize hA:ys.map (·.2.1)=as at *;have hget:∀i,i<ps.length->(as.map Value.ref).getD i Value.none=Value.ref (as.getD i 0)/\H (as.getD i 0)=some (.tup [.int (ps.getD i (0,0)).1,.int (ps.getD i (0,0)).2]):=λi hi=>by
  have hi':i<as.length:=by omega
  obtain⟨b,hb1,hb2⟩:=lH Qa (i:=i) (x:=as[i]) (fO hi');simp only[mJ,bw,fO hi',hb1,Option.map_some,Option.getD_some];exact⟨trivial,hb2⟩
 have hmem:∀i∈q.toList,i<ps.length:=λi hi=>fX.mp (hq.pm.mem_iff.mp hi);have TV:∀{l:List Nat},(∀i∈l,i<ps.length)->Vals (l.map λi=>V.ref (as.getD i 0)) (l.map λi=>(as.map Value.ref).getD i Value.none)/\lG H (l.map λi=>V.ref (as.getD i 0)) (l.map λi=>ps.getD i (0,0)):=by
  intro l;induction l with
  | nil=>intro _;exact⟨.nil,.nil⟩
  | cons i l ih =>
   intro hl;obtain⟨a1,a2⟩:=ih λj hj=>hl j (dg _ hj);obtain⟨b1,b2⟩:=hget i (hl i (by simp));rw[cj,cj,cj];refine⟨.cons ?_ a1,.cons ⟨_,rfl,b2⟩ a2⟩;rw[b1];rfl
 obtain⟨v1,v2⟩:=TV hmem;refine⟨.ref p,_,I.laid (t':=tk) hk hle (o:=.lst (q.toList.map λi=>V.ref (as.getD i 0))) ⟨?_,_,c,v1,ho⟩,rfl,k p _ (q.toList.map λi=>ps.getD i (0,0)) _ ⟨I.hok.fresh hle,rfl⟩ v2 ?_ ?_⟩
 .rw[av,cX,hq.sz,sizeLine_eq];omega
 .have:=hq.pm.map λi=>ps.getD i (0,0);rw[range_getD] at this;exact this
 .rw[lq,lg];intro i j hi hj hij;have hql:q.toList.length=ps.length:=by rw[cX,hq.sz]
  have g1:=hq.get (i:=i) (by omega);have g2:=hq.get (i:=j) (by omega);rw[fO hi] at g1;rw[fO hj] at g2;rw[Option.some.inj g1,Option.some.inj g2];exact hup i j hij (by omega)
end
section
variable {K:aD}{nx bk ct:St->Hp->Prop}{rt:VK}{σ:St}{H:Hp}{Q:VK}
def Dm{l:Addr}{xs:List V}(hb:H b=some (.tup [.int q.1,.int q.2]))(hl:bE K H l xs)(hp:lG H xs ps)(h:Q (.bl (decide (q∈ps))) H):Fe K false (.ref b) (.ref l) H Q:=⟨b,l,q,xs,ps,rfl,rfl,hb,hl,hp,h⟩
def Ik{l:Addr}{xs:List V}(hb:H b=some (.tup [.int q.1,.int q.2]))(hl:bE K H l xs)(hp:lG H xs ps)(h:Q (.bl (!decide (q∈ps))) H):Fe K true (.ref b) (.ref l) H Q:=⟨b,l,q,xs,ps,rfl,rfl,hb,hl,hp,h⟩
def LH{d:Addr}{f:Int×Int->V}(hd:H d=some (.dT (ps.map λp=>(ux p,f p))))(hb:∀p∈ps,0<=p.2/\p.2<1000)(h64:ps.length<64)
  (h:∀l us qs H',fh H l (.lst us) H'->lG H us qs->qs.Perm ps->qs.Pairwise (λp q=>SN.rk p<SN.rk q)->Q (.ref l) H'):Ij [.ref d] H Q:=⟨d,ps,f,rfl,hd,hb,h64,h⟩
def VY(h:∀p H',fh H p (.dT []) H'->Q (.ref p) H'):Hi σ H Q:=λp hp=>h p _ ⟨hp,rfl⟩
def TX{kvs:List (List Key×V)}{k:List Key}{v:V}{R:Hp->Prop}(hd:H a=some (.dT kvs))(hb:H b=some (.tup (k.map kV)))(hz:kvs.length<=1000000)(h:∀H',pC H a (.dT (putK kvs k v)) H'->R H'):XZ v (.ref a) (.ref b) H R :=
 ⟨a,_,rfl,yv.t hd hb (by rw[sizeLine_eq];omega),h _ rfl⟩
def Yk{kvs:List (Key×V)}{i:Int}(hd:H a=some (.dK kvs))(h:Q (.bl (!(e9 kvs (.inl i)).isSome)) H):Tt (.int i) (.ref a) H Q:=⟨a,_,rfl,.inl ⟨kvs,.inl i,.inl hd,rfl,rfl⟩,h⟩
end
section
variable {X:Cx}{K:aD}{w:World}
def BN(e:X.K=K)(e2:X.w=w)(hc:X.calm=true):dj X (.type "set") (Dd K w):=e▸e2▸vq hc
def y9(e2:X.w=w)(hc:X.calm=true):dj X (.builtin "sorted") (BE w):=e2▸sM hc
end
section
variable {prog:Program}{w:World}{A:Around}{E:Value->Shared->Prop}{s:Shared}
end
section
variable {X:Cx}{tg:Expr}
end
section
variable {K:aD}{nx bk ct:St->Hp->Prop}{rt:VK}{σ:St}{H:Hp}{Q:VK}{te:TE}
end
end L2
namespace HM
open PySem PySem.Spec PyProof.Rows
variable {h h':Heap}{k y:bP}{v:Value}{a x d:Addr}{Q:Bool->Shared->Prop}{n:Nat}{t:SetTable}{led:Bool}
abbrev fz:=Option (Int×Int)
abbrev bP:=Int×Option (Int×Int)
def gA(h:Heap):fz->Value->Prop
 | none,v=>∃t,v=.str "mark" t
 | some p,v=>∃a o n t u,v=.ref a/\h.get? a=some o/\o.cls=.type "tuple" /\ o.data=.seq #[.int p.1 t,.int p.2 u] n
def b8(h:Heap)(k:bP)(a:Addr):Prop:=∃o n t v,h.get? a=some o/\o.cls=.type "tuple" /\ o.data=.seq #[.int k.1 t,v] n/\gA h k.2 v
def kX:fz->PyData
 | none=>.str "mark"
 | some p=>.tuple [.int p.1,.int p.2]
def uH(k:bP):PyData:=.tuple [.int k.1,kX k.2]
def LI:PyData.strOk "mark" = true:=by decide +kernel
def qQ(k:fz):(kX k).canLay0=true:=by cases k<;>simp[kX,PyData.canLay0,PyData.canLayAll0,LI]
def Dp(k:bP):(uH k).canLay0=true:=by simp[uH,PyData.canLay0,PyData.canLayAll0,qQ]
def pU(k:fz):(kX k).depth<=1:=by cases k<;>simp[kX,PyData.depth,PyData.depthAll]
def Fg(k:bP):(uH k).depth<=2:=by have:=pU k.2;simp only[uH,PyData.depth,PyData.depthAll];omega
def Il(p q:Int×Int):PyData.eqv (.tuple [.int p.1,.int p.2]) (.tuple [.int q.1,.int q.2])=decide (p=q):=by
 obtain⟨a,b⟩:=p;obtain⟨c,d⟩:=q;show((a==c)&&((b==d)&&true))=_;by_cases h1:a=c
 .by_cases h2:b=d
  .subst h1 h2;simp
  .simp[h2]
 .simp[h1]
def wY(x y:fz):PyData.eqv (kX x) (kX y)=decide (x=y):=by
 cases x with
 | none =>
  cases y with
  | none=>show(("mark" : Str) == "mark")=_;simp
  | some q=>simp[kX,PyData.eqv]
 | some p =>
  cases y with
  | none=>simp[kX,PyData.eqv]
  | some q =>
   show PyData.eqv (.tuple [.int p.1,.int p.2]) (.tuple [.int q.1,.int q.2])=_;rw[Il];by_cases e:p=q
   .simp[e]
   .simp[e]
def LJ(x y:bP):PyData.eqv (uH x) (uH y)=decide (x=y):=by
 obtain⟨p,a⟩:=x;obtain⟨q,b⟩:=y;show((p==q)&&(PyData.eqv (kX a) (kX b)&&true))=_;rw[wY];by_cases h1:p=q
 .by_cases h2:a=b
  .subst h1 h2;simp
  .simp[h2]
 .simp[h1]
def gA.reads{k:fz}(x:gA h k v):Reads h v (kX k) []:=by
 cases k with
 | none=>obtain⟨t,rfl⟩:=x;exact .str _ _
 | some p =>
  obtain⟨a,o,n,t,u,rfl,h1,h2,h3⟩:=x;exact .tuple h1 h2 h3 (by simpa using ReadsAll.cons (.int p.1 t) (.cons (.int p.2 u) .nil))
theorem b8.reads(x:b8 h k a):Reads h (.ref a) (uH k) []:=by obtain⟨o,n,t,v,h1,h2,h3,h4⟩:=x;exact .tuple h1 h2 h3 (by simpa using ReadsAll.cons (.int k.1 t) (.cons h4.reads .nil))
def gA.stay{k:fz}(x:gA h k v)(e:∀b o vs n,o.cls=.type "tuple" -> o.data=.seq vs n->h.get? b=some o->h'.get? b=some o):gA h' k v:=by
 cases k with
 | none=>exact x
 | some p =>
  obtain⟨a,o,n,t,u,e1,h1,h2,h3⟩:=x;exact⟨a,o,n,t,u,e1,e _ _ _ _ h2 h3 h1,h2,h3⟩
theorem b8.stay(x:b8 h k a)(e:∀b o vs n,o.cls=.type "tuple" -> o.data=.seq vs n->h.get? b=some o->h'.get? b=some o):b8 h' k a:=by obtain⟨o,n,t,v,h1,h2,h3,h4⟩:=x;exact⟨o,n,t,v,e _ _ _ _ h2 h3 h1,h2,h3,h4.stay e⟩
theorem gA.inj{x y:fz}(a:gA h x v)(b:gA h y v):x=y:=by
 cases x with
 | none =>
  obtain⟨t,rfl⟩:=a;cases y with
  | none=>rfl
  | some q=>obtain⟨_,_,_,_,_,e,_⟩:=b;cases e
 | some p =>
  obtain⟨a1,o,n,t,u,rfl,h1,h2,h3⟩:=a;cases y with
  | none=>obtain⟨_,e⟩:=b;cases e
  | some q =>
   obtain⟨a2,o2,n2,t2,u2,e,g1,g2,g3⟩:=b;cases e;rw[h1] at g1;cases g1;rw[h3] at g3;have e1:=congrArg Array.toList (Data.seq.inj g3).1;simp only[List.cons.injEq,Value.int.injEq] at e1;obtain⟨⟨e1,_⟩,⟨e2,_⟩,_⟩:=e1;exact congrArg some (Prod.ext e1 e2)
theorem b8.inj{x:bP}(hx:b8 h x a)(hy:b8 h y a):x=y:=by obtain⟨o,n,t,v,h1,h2,h3,h4⟩:=hx;obtain⟨o2,n2,t2,v2,g1,g2,g3,g4⟩:=hy;rw[h1] at g1;cases g1;rw[h3] at g3;have e:=Data.seq.inj g3;have e1:=congrArg Array.toList e.1;simp only[List.cons.injEq,Value.int.injEq] at e1;obtain⟨⟨e1,_⟩,e2,_⟩:=e1;subst e2;have:=h4.inj g4;obtain⟨p,a⟩:=x;obtain⟨q,b⟩:=y;exact Prod.ext e1 this
section
variable {prog:Program}{w:World}{A:Around}{E:Value->Shared->Prop}{s:Shared}
def Qc{x y:fz}{u:Value}(hu:A.units+1<cLine)(hx:gA s.heap x u)(hy:gA s.heap y v)(h:Q (decide (x=y)) s):wpAny (model prog w) A (eqBool u v) Q E s:=by refine SeqAt.eqBoolOverData prog w A E s u v (kX x) (kX y) [] [] Q hx.reads hy.reads (qQ x) (qQ y) ?_ (by rw[wY];exact h);have:=pU x;omega
def BO{x:bP}{b:Addr}(hu:A.units+2<cLine)(hx:b8 s.heap x a)(hy:b8 s.heap y b)(h:Q (decide (x=y)) s):wpAny (model prog w) A (eqBool (.ref a) (.ref b)) Q E s:=by refine SeqAt.eqBoolOverData prog w A E s _ _ (uH x) (uH y) [] [] Q hx.reads hy.reads (Dp x) (Dp y) ?_ (by rw[LJ];exact h);have:=Fg x;omega
def nW(prog:Program)(w:World):fz->Int
 | none=>(strKind prog w).hash "mark"
 | some p=>tupleKeyHash (intKind prog w) [p.1,p.2]
def nX:fz->Nat
 | none=>1
 | some _=>3
def aU(prog:Program)(w:World)(k:bP):Int:=reduceHash (Builtin.Tuple.tupleHashOf [(intKind prog w).hash k.1,nW prog w k.2])
def Im{o:Obj}{p:Int×Int}{t u:Tok}(h1:h.get? a=some o)(h2:o.cls=.type "tuple")(h3:o.data=.seq #[.int p.1 t,.int p.2 u] n):IsTupleKey (intKind prog w) h [p.1,p.2] a :=
 ⟨o,_,n,h1,h2,h3,.cons (intKind_is _ _ _ _) (.cons (intKind_is _ _ _ _) .nil)⟩
def Io{k:fz}{Q:Int->Shared->Prop}(hu:A.units<cLine)(hk:gA s.heap k v)(h:Q (nW prog w k) { s with toks:=s.toks+nX k }):wpAny (model prog w) A (pyHash v) Q E s:=by
 cases k with
 | none =>
  obtain⟨t,rfl⟩:=hk;exact(strKind prog w).pyHash (k := "mark") (strKind_is _ _ _ _) h
 | some p =>
  obtain⟨a,o,n,t,u,rfl,h1,h2,h3⟩:=hk;exact wpAny_pyHash_tuple hu (Im h1 h2 h3) h
def za{Q:Int->Shared->Prop}(hu:A.units+1<cLine)(hk:b8 s.heap k a)(h:Q (aU prog w k) { s with toks:=s.toks+(1+nX k.2+1) }):wpAny (model prog w) A (pyHash (.ref a)) Q E s:=by
 obtain⟨o,n,t,v,ho,hc,hd,hv⟩:=hk;have hT:s.TypeIs (.ref a) "tuple" := ⟨o,ho,hc⟩;unfold pyHash
 first|unfold pyHashByItsType|skip
 first|refine aq (wpAny_cRoomFor_or (.inr (by omega)) ?_)|skip
 refine aq (wpAny_specialOf hT F.slot_tuple_hash.lookup ?_);show wpAny _ _ (if(some (Value.builtin "tuple.__hash__")==some Value.none)=true then _ else _) Q E s;rw[if_neg (by rw[beq_builtin_none];exact jT)];refine aq (wpAny_specialOf hT F.slot_tuple_hash.lookup ?_);show wpAny _ _ (callSpecialIfBoundUnlessNone? (.ref a) "__hash__" _ >>= _) Q E s;refine aq (wpAny_callSpecialIfBoundUnlessNone?_slot hT F.slot_tuple_hash (wpAny_call_entry F.slot_tuple_hash hT F.entry_tuple_hash ?_ (F.args_tuple_hash_1 _)));show wpAny _ _ (Builtin.Tuple.tupleItemsOf (.ref a) >>= _) _ _ s;refine aq (wpAny_tupleItemsOf ho hd ?_);refine aq ?_;rw[<- kZ];show wpAny _ _ (forIn [Value.int k.1 t,v] _ _) _ _ _;rw[jG];refine aq (aq ((intKind prog w).pyHash (k:=k.1) (intKind_is _ _ _ _) ?_));refine aq (aL (aL ?_));dsimp only;rw[jG];refine aq (aq (Io (k:=k.2) (by simp only[Around.in1];omega) hv ?_));refine aq (aL (aL ?_));dsimp only;rw[k6];refine aL ?_;show wpAny _ _ (retInt (Builtin.Tuple.tupleHashOf [(intKind prog w).hash k.1,nW prog w k.2])) _ _ _;refine wpAny_ret_mkInt ?_;show wpAny _ _ (if(decide (-(2:Int) ^ 63<=Builtin.Tuple.tupleHashOf [(intKind prog w).hash k.1,nW prog w k.2])&&decide (Builtin.Tuple.tupleHashOf [(intKind prog w).hash k.1,nW prog w k.2]<2 ^ 63))=true then _ else _) Q E _;unfold aU reduceHash at h;split
 .rename_i hr;rw[if_pos hr] at h;exact aL (by simpa[Nat.add_assoc] using h)
 .rename_i hr;rw[if_neg hr] at h;exact aq (wpAny_rule (aL (by simpa[Nat.add_assoc] using h)))
def Fi{k:fz}(hk:gA s.heap k v)(h:Q true s):wpAny (model prog w) A (eqIsQuiet (n+1) v) Q E s:=by
 cases k with
 | none =>
  obtain⟨t,rfl⟩:=hk;rw[eqIsQuiet_byValue _ rfl];exact aL h
 | some p =>
  obtain⟨a,o,m,t,u,rfl,h1,h2,h3⟩:=hk;have hT:s.TypeIs (.ref a) "tuple" := ⟨o,h1,h2⟩;unfold eqIsQuiet;refine aq (wpAny_specialOf hT F.slot_tuple_eq.lookup ?_);show wpAny _ _ (isInstance (.ref a) (.type "tuple") >>= _) _ _ s;refine aq (wpAny_isInstance hT isSubtype_tuple_tuple ?_);simp only[gp,bV,if_false];refine aq (wpAny_seqItems h1 h3 ?_);refine aq ?_;show wpAny _ _ (forIn #[Value.int p.1 t,Value.int p.2 u] _ _) _ _ s;rw[<- kZ];refine wpAny_forIn_list _ (λrest r s'=>r.1=none/\s'=s/\∀v∈rest,carriedByValue v=true) _ ?_ ?_ _ _ ⟨rfl,rfl,λv hv=>by simp at hv;rcases hv with e|e<;>rw[e]<;>rfl⟩
  .rintro v rest r s' ⟨hr,rfl,hall⟩;rw[eqIsQuiet_byValue _ (hall v i9)];refine aq (aL ?_);simp only[gp,bV,if_false];exact aL ⟨rfl,rfl,λu Dq=>hall u (dg _ Dq)⟩
  .rintro⟨r1,r2⟩ s' ⟨hr,rfl,_⟩;simp only at hr;subst hr;exact aL h
def pV(hk:b8 s.heap k a)(h:Q true s):wpAny (model prog w) A (eqIsQuiet 8 (.ref a)) Q E s:=by
 obtain⟨o,n,t,v,ho,hc,hd,hv⟩:=hk;have hT:s.TypeIs (.ref a) "tuple" := ⟨o,ho,hc⟩;unfold eqIsQuiet;refine aq (wpAny_specialOf hT F.slot_tuple_eq.lookup ?_);show wpAny _ _ (isInstance (.ref a) (.type "tuple") >>= _) _ _ s;refine aq (wpAny_isInstance hT isSubtype_tuple_tuple ?_);simp only[gp,bV,if_false];refine aq (wpAny_seqItems ho hd ?_);refine aq ?_;show wpAny _ _ (forIn #[Value.int k.1 t,v] _ _) _ _ s;rw[<- kZ];refine wpAny_forIn_list _ (λrest r s'=>r.1=none/\s'=s/\∀u∈rest,(∃i t,u=Value.int i t)\/gA s.heap k.2 u) _ ?_ ?_ _ _ ⟨rfl,rfl,λu hu=>by simp at hu;rcases hu with e|e;exact .inl ⟨_,_,e⟩;exact .inr (e▸hv)⟩
 .rintro u rest r s' ⟨hr,rfl,hall⟩;refine aq ?_;have go:wpAny (model prog w) A (eqIsQuiet 7 u) (λb s2=>b=true/\s2=s') E s':=by
   rcases hall u i9 with⟨i,t,rfl⟩|hu
   .rw[eqIsQuiet_byValue _ rfl];exact aL ⟨rfl,rfl⟩
   .exact Fi (n:=6) hu ⟨rfl,rfl⟩
  refine wpAny_mono go (λb s2=>?_) λ_ _ x=>x;rintro⟨rfl,rfl⟩;simp only[gp,bV,if_false];exact aL ⟨rfl,rfl,λu Dq=>hall u (dg _ Dq)⟩
 .rintro⟨r1,r2⟩ s' ⟨hr,rfl,_⟩;simp only at hr;subst hr;exact aL h
end
def eX(prog:Program)(w:World):HeapKind prog w bP where
 is:=b8
 hash:=aU prog w
 draws:=λk=>1+nX k.2+1
 room:=λA=>A.units+2<cLine
 inj:=λhx hy=>hx.inj hy
 keeps:=λx ho hd hs=>x.stay λb u vs n hc hs2 e=>by rw[hs.2 b (λz=>by subst z;rw[ho] at e;cases e;rw[hd] at hs2;cases hs2)];exact e
 pyHash:=λhu hk h=>za (by omega) hk h
 eqBool:=λhu hx hy h=>BO hu hx hy h
 quiet:=λhk h=>pV hk h
def sq(x:Int):Nat->Nat×Nat
 | 0=>(SetTable.bits x % 8,SetTable.bits x)
 | n+1=>(((sq x n).1*5+1+(sq x n).2 / 32) % 8,(sq x n).2 / 32)
theorem NL(x:Int):∀n,(sq x n).1<8
 | 0=>Nat.mod_lt _ (by decide)
 | n+1=>Nat.mod_lt _ (by decide)
theorem zc(x:Int):∀n,(sq x n).2*32 ^ n<2 ^ 64
 | 0=>by
  show SetTable.bits x*1<_;unfold SetTable.bits;omega
 | n+1=>by
  have ih:=zc x n;show(sq x n).2 / 32*32 ^ (n+1)<_;have h:(sq x n).2 / 32*32<=(sq x n).2:=Nat.div_mul_le_self _ _;have h2:(sq x n).2 / 32*32 ^ (n+1)=((sq x n).2 / 32*32)*32 ^ n:=by rw[Nat.pow_succ,Nat.mul_assoc,Nat.mul_comm (32 ^ n) 32]
  rw[h2];exact Nat.lt_of_le_of_lt (Nat.mul_le_mul_right _ h) ih
def LK(x:Int)(n:Nat)(h:13<=n):(sq x n).2=0:=by
 have h1:=zc x n;rcases Nat.eq_zero_or_pos (sq x n).2 with e|hp
 .exact e
 .have h2:32 ^ 13<=32 ^ n:=Nat.pow_le_pow_right (by decide) h;have h3:1*32 ^ n<=(sq x n).2*32 ^ n:=Nat.mul_le_mul_right _ hp;have h4:(32:Nat) ^ 13=2 ^ 65:=by decide
  omega
def kH(x:Int)(n:Nat)(h:13<=n):(sq x (n+1)).1=((sq x n).1*5+1) % 8:=by show((sq x n).1*5+1+(sq x n).2 / 32) % 8=_;rw[LK x n h]
def Qd(x:Int)(j:Nat)(hj:j<8):∃n,n<=20/\(sq x n).1=j:=by
 have h0:=NL x 13;have e1:=kH x 13 (by decide);have e2:=kH x 14 (by decide);have e3:=kH x 15 (by decide);have e4:=kH x 16 (by decide);have e5:=kH x 17 (by decide);have e6:=kH x 18 (by decide);have e7:=kH x 19 (by decide);have cyc:∀(a j:Fin 8),j.val=a.val\/j.val=(a.val*5+1) % 8\/j.val=((a.val*5+1) % 8*5+1) % 8\/j.val=(((a.val*5+1) % 8*5+1) % 8*5+1) % 8\/j.val=((((a.val*5+1) % 8*5+1) % 8*5+1) % 8*5+1) % 8 \/
   j.val=(((((a.val*5+1) % 8*5+1) % 8*5+1) % 8*5+1) % 8*5+1) % 8\/j.val=((((((a.val*5+1) % 8*5+1) % 8*5+1) % 8*5+1) % 8*5+1) % 8*5+1) % 8\/j.val=(((((((a.val*5+1) % 8*5+1) % 8*5+1) % 8*5+1) % 8*5+1) % 8*5+1) % 8*5+1) % 8:=by decide
 have:=cyc ⟨(sq x 13).1,h0⟩ ⟨j,hj⟩;dsimp only at this;rw[<- e1,<- e2,<- e3,<- e4,<- e5,<- e6,<- e7] at this;rcases this with e|e|e|e|e|e|e|e
 .exact⟨13,by decide,e.symm⟩
 .exact⟨14,by decide,e.symm⟩
 .exact⟨15,by decide,e.symm⟩
 .exact⟨16,by decide,e.symm⟩
 .exact⟨17,by decide,e.symm⟩
 .exact⟨18,by decide,e.symm⟩
 .exact⟨19,by decide,e.symm⟩
 .exact⟨20,by decide,e.symm⟩
def Fj(x:Int)(n:Nat):SetTable.Probe:={ j:=(sq x n).1,more:=0,i:=(sq x n).1,perturb:=(sq x n).2,dummy:=none }
def Fl(h:t.mask=7)(x:Int):t.probeStart x=Fj x 0:=by
 unfold SetTable.probeStart Fj sq;rw[h];have hl:SetTable.bits x % 8<8:=Nat.mod_lt _ (by decide);have e:SetTable.runEnd 7 (SetTable.bits x % 8)-SetTable.bits x % 8=0:=by unfold SetTable.runEnd;rw[if_neg (by omega)];omega
 show SetTable.Probe.mk _ _ _ _ _=_;rw[show(7:Nat)+1=8 from rfl,e]
def zd(h:t.mask=7)(x:Int)(n:Nat):t.advance (Fj x n)=Fj x (n+1):=by
 unfold SetTable.advance;rw[if_neg (by show ¬0>0;omega)];unfold SetTable.leap;rw[h];dsimp only;have hl:=NL x (n+1);have e1:((Fj x n).i*5+1+(Fj x n).perturb / 32) % (7+1)=(sq x (n+1)).1:=rfl;have e2:(Fj x n).perturb / 32=(sq x (n+1)).2:=rfl;rw[e1,e2];have e:SetTable.runEnd 7 (sq x (n+1)).1-(sq x (n+1)).1=0:=by unfold SetTable.runEnd;rw[if_neg (by omega)];omega
 rw[e];rfl
def nY(hs:t.place.toList.Pairwise (· < ·))(hd:t.dummies=#[])(j:Nat):(t.slot j=.empty/\∀i:Nat,t.place[i]?≠some j)\/∃i,t.slot j=.live i/\t.place[i]?=some j:=by
 cases e:t.slot j with
 | empty=>exact .inl ⟨rfl,λi hi=>SG.nv hs e i j hi rfl⟩
 | dummy =>
  exfalso;unfold SetTable.slot at e;dsimp only at e;rw[SG.nS hd] at e;split at e<;>cases e
 | live i =>
  refine .inr ⟨i,rfl,?_⟩;unfold SetTable.slot at e;dsimp only at e;split at e
  .rename_i h;cases e;simpa using h
  .split at e<;>cases e
def vt(hs:t.place.toList.Pairwise (· < ·))(hd:t.dummies=#[]){i j:Nat}(h:t.place[i]?=some j):t.slot j=.live i:=by
 rcases nY hs hd j with⟨_,e⟩|⟨k,e1,e2⟩
 .exact absurd h (e i)
 .have:k=i:=by
   rw[<- fS] at h e2;obtain⟨a1,b1⟩:=fu h;obtain⟨a2,b2⟩:=fu e2;rcases lX k i with hl|he|hg
   .have:=lg.mp hs k i a2 a1 hl;omega
   .exact he
   .have:=lg.mp hs i k a1 a2 hg;omega
  rw[e1,this]
def Ip(hm:t.mask=7)(hd:t.dummies=#[])(hs:t.place.toList.Pairwise (· < ·))(f:Nat->Int)(x:Int):∀(fuel n m:Nat),n<=m->m<n+fuel->t.slot (sq x m).1=.empty->(∀k,n<=k->k<m->t.slot (sq x k).1≠.empty) ->
  (∃k i,n<=k/\k<m/\t.slot (sq x k).1=.live i/\f i=x/\(∀k' i',n<=k'->k'<k->t.slot (sq x k').1=.live i'->f i'≠x)/\SetTable.probe.go t f x fuel (Fj x n)=some (.candidate (sq x k).1 i (Fj x (k+1)))) \/
  ((∀k i,n<=k->k<m->t.slot (sq x k).1=.live i->f i≠x)/\SetTable.probe.go t f x fuel (Fj x n)=some (.empty (sq x m).1 none)):=by
 intro fuel;induction fuel with
 | zero=>intro n m h1 h2;omega
 | succ fuel ih =>
  intro n m h1 h2 he hne;unfold SetTable.probe.go;rcases nY hs hd (sq x n).1 with⟨e,_⟩|⟨i,e,_⟩
  .have:n=m:=by
    rcases aY n m with hl|hg
    .exact absurd e (hne n (az _) hl)
    .omega
   subst this;rw[show t.slot (Fj x n).j=.empty from e];exact .inr ⟨λk i a b=>by omega,rfl⟩
  .have hnm:n<m:=by
    rcases aY n m with hl|hg
    .exact hl
    .have:n=m:=by omega
     subst this;rw[e] at he;cases he
   rw[show t.slot (Fj x n).j=.live i from e];dsimp only;by_cases hx:f i=x
   .rw[if_pos (by simpa using hx),zd hm];exact .inl ⟨n,i,az _,hnm,e,hx,(λk' i' a b=>by omega),rfl⟩
   .rw[if_neg (by simpa using hx),zd hm];rcases ih (n+1) m (by omega) (by omega) he (λk a b=>hne k (by omega) b) with⟨k,i',a,b,c,d,d2,g⟩|⟨a,g⟩
    .refine .inl ⟨k,i',by omega,b,c,d,λk' i2 h3 h4 h5=>?_,g⟩;rcases Nat.eq_or_lt_of_le h3 with e2|h3
     .subst e2;rw[e] at h5;cases h5;exact hx
     .exact d2 k' i2 h3 h4 h5
    .refine .inr ⟨λk i' h3 h4 h5=>?_,g⟩;rcases Nat.eq_or_lt_of_le h3 with e2|h3
     .subst e2;rw[e] at h5;cases h5;exact hx
     .exact a k i' h3 h4 h5
def ze(hd:t.dummies=#[])(hs:t.place.toList.Pairwise (· < ·))(hf:t.place.size<8)(x:Int):∃m,m<=20/\t.slot (sq x m).1=.empty/\∀k,k<m->t.slot (sq x k).1≠.empty:=by
 have hex:∃m,m<=20/\t.slot (sq x m).1=.empty:=by
  obtain⟨j,hj,hfree⟩:∃j,j<8/\∀i:Nat,t.place[i]?≠some j:=by
   by_cases h:∃j,j<8/\j∉t.place.toList
   .obtain⟨j,hj,hn⟩:=h;exact⟨j,hj,λi hi=>hn (by rw[<- fS] at hi;exact fB hi)⟩
   .exfalso;have sub:∀j∈List.range 8,j∈t.place.toList:=λj hj=>rK λhn=>h ⟨j,fX.mp hj,hn⟩;have:=List.Nodup.length_le_of_subset List.nodup_range sub;rw[gU,cX] at this;omega
  obtain⟨n,hn,e⟩:=Qd x j hj;refine⟨n,hn,?_⟩;rcases nY hs hd (sq x n).1 with⟨h,_⟩|⟨i,_,h⟩
  .exact h
  .rw[e] at h;exact absurd h (hfree i)
 obtain⟨m,hm⟩:=hex;have:∀n,n<=20->t.slot (sq x n).1=.empty->∃m,m<=20/\t.slot (sq x m).1=.empty/\∀k,k<m->t.slot (sq x k).1≠.empty:=by
  intro n;induction n using Nat.strongRecOn with
  | ind n ih =>
   intro h1 h2;by_cases h:∃k,k<n/\t.slot (sq x k).1=.empty
   .obtain⟨k,hk,e⟩:=h;exact ih k hk (by omega) e
   .exact⟨n,h1,h2,λk hk e=>h ⟨k,hk,e⟩⟩
 exact this m hm.1 hm.2
section
variable {prog:Program}{w:World}{A:Around}{E:Value->Shared->Prop}{s:Shared}
def BP{k:fz}(hk:gA s.heap k v)(h:Q false s):wpAny (model prog w) A (ofAClassStatement (n+1) v) Q E s:=by
 cases k with
 | none =>
  obtain⟨t,rfl⟩:=hk;exact wpAny_of_eq (a:=false) rfl h
 | some p =>
  obtain⟨a,o,m,t,u,rfl,h1,h2,h3⟩:=hk;have hT:s.TypeIs (.ref a) "tuple" := ⟨o,h1,h2⟩;unfold ofAClassStatement;refine aq (wpAny_typeOf hT ?_);dsimp only;refine aq (wpAny_of_eq (a:=true) rfl ?_);simp only[gp,bV,if_false];refine aq (wpAny_seqItems h1 h3 ?_);dsimp only;refine aq ?_;rw[<- kZ];refine wpAny_forIn_list _ (λrest r s'=>r.1=none/\s'=s/\∀v∈rest,∃i t,v=Value.int i t) _ ?_ ?_ _ _ ⟨rfl,rfl,λv hv=>by simp at hv;rcases hv with e|e<;>exact⟨_,_,e⟩⟩
  .rintro v rest r s' ⟨hr,rfl,hall⟩;obtain⟨i,t,rfl⟩:=hall v i9;refine aq (wpAny_of_eq (a:=false) (by first|rfl|(unfold ofAClassStatement;rfl)) ?_);simp only[bV,if_false];exact aL ⟨rfl,rfl,λu Dq=>hall u (dg _ Dq)⟩
  .rintro⟨r1,r2⟩ s' ⟨hr,rfl,_⟩;simp only at hr;subst hr;exact aL h
def sN(hk:b8 s.heap k a)(h:Q false s):wpAny (model prog w) A (ofAClassStatement 8 (.ref a)) Q E s:=by
 obtain⟨o,n,t,v,ho,hc,hd,hv⟩:=hk;have hT:s.TypeIs (.ref a) "tuple" := ⟨o,ho,hc⟩;unfold ofAClassStatement;refine aq (wpAny_typeOf hT ?_);dsimp only;refine aq (wpAny_of_eq (a:=true) rfl ?_);simp only[gp,bV,if_false];refine aq (wpAny_seqItems ho hd ?_);dsimp only;refine aq ?_;rw[<- kZ];refine wpAny_forIn_list _ (λrest r s'=>r.1=none/\s'=s/\∀u∈rest,(∃i t,u=Value.int i t)\/gA s.heap k.2 u) _ ?_ ?_ _ _ ⟨rfl,rfl,λu hu=>by simp at hu;rcases hu with e|e;exact .inl ⟨_,_,e⟩;exact .inr (e▸hv)⟩
 .rintro u rest r s' ⟨hr,rfl,hall⟩;refine aq ?_;have go:wpAny (model prog w) A (ofAClassStatement 7 u) (λb s2=>b=false/\s2=s') E s':=by
   rcases hall u i9 with⟨i,t,rfl⟩|hu
   .exact wpAny_of_eq (a:=false) (by first|rfl|(unfold ofAClassStatement;rfl)) ⟨rfl,rfl⟩
   .exact BP (n:=6) hu ⟨rfl,rfl⟩
  refine wpAny_mono go (λb s2=>?_) λ_ _ x=>x;rintro⟨rfl,rfl⟩;simp only[bV,if_false];exact aL ⟨rfl,rfl,λu Dq=>hall u (dg _ Dq)⟩
 .rintro⟨r1,r2⟩ s' ⟨hr,rfl,_⟩;simp only at hr;subst hr;exact aL h
def Qe{ys:List Value}(hk:b8 s.heap k x)(hy:∀y∈ys,∃k' a,y=.ref a/\b8 s.heap k' a)(h:Q false s):wpAny (model prog w) A (searchCouldBeSeen (.ref x) ys) Q E s:=by
 unfold searchCouldBeSeen;refine aq ?_;refine wpAny_forIn_list _ (λrest r s'=>r.1=none/\s'=s/\∀y∈rest,∃k' a,y=Value.ref a/\b8 s.heap k' a) _ ?_ ?_ _ _ ⟨rfl,rfl,hy⟩
 .rintro y rest r s' ⟨hr,rfl,hall⟩;obtain⟨k',a,rfl,ha⟩:=hall y i9;have rest':∀y∈rest,∃k' a,y=Value.ref a/\b8 s'.heap k' a:=λu Dq=>hall u (dg _ Dq);dsimp only;split
  .exact aL ⟨rfl,rfl,rest'⟩
  .refine aq (pV hk ?_);simp only[gp,bV,if_false];refine aq (pV ha ?_);simp only[gp,bV,if_false];refine aq (sN hk ?_);simp only[bV,if_false];refine aq (sN ha ?_);simp only[bV,if_false];exact aL ⟨rfl,rfl,rest'⟩
 .rintro⟨r1,r2⟩ s' ⟨hr,rfl,_⟩;simp only at hr;subst hr;exact aL h
def Qf(prog:Program)(w:World)(h:Heap)(es:Array (Int×Value)):Prop:=∀(i:Nat) e,es[i]?=some e->∃k a,e=(aU prog w k,.ref a)/\b8 h k a
def pW{es:Array (Int×Value)}(hE:Qf prog w s.heap es){i a:Nat}{z:Int}(h:es[i]?=some (z,.ref a))(hk:b8 s.heap k a):(es[i]?.map (·.1)).getD 0=aU prog w k:=by obtain⟨k2,a2,e2,h2⟩:=hE i _ h;have e3:z=aU prog w k2:=congrArg Prod.fst e2;have e4:a=a2:=Value.ref.inj (congrArg Prod.snd e2);subst e4;have e5:k2=k:=h2.inj hk;rw[h,<- e5,<- e3];rfl
def search{o:Obj}{es:Array (Int×Value)}{ep:Nat}{m:Nat}(hu:A.units+2<cLine)(ho:s.heap.get? d=some o)(hd:o.data=.set es ep t)(T:SG.Tab led es t)(hm:t.mask=7)(hE:Qf prog w s.heap es)(hk:b8 s.heap k x)
  (m20:m<=20)(he:t.slot (sq (aU prog w k) m).1=.empty)(hne:∀j,j<m->t.slot (sq (aU prog w k) j).1≠.empty):∀(fuel n:Nat)(Dr:Option SetTable.Probe)(Q:SetFound->Shared->Prop),n<=m->m<n+fuel->Dr.getD (t.probeStart (aU prog w k))=Fj (aU prog w k) n ->
  (∀(j i a:Nat)(z:Int),n<=j->j<m->t.slot (sq (aU prog w k) j).1=.live i->es[i]?=some (z,.ref a)->b8 s.heap k a->Q (.there none) s) ->
  ((∀(j i a:Nat)(z:Int),n<=j->j<m->t.slot (sq (aU prog w k) j).1=.live i->es[i]?=some (z,.ref a)->¬b8 s.heap k a)->Q (.free (sq (aU prog w k) m).1 false) s) ->
  wpAny (model prog w) A (setSearchFrom d (.ref x) (aU prog w k) true fuel Dr) Q E s:=by
 intro fuel;induction fuel with
 | zero=>intro n Dr Q h1 h2;omega
 | succ fuel ih =>
  intro n Dr Q h1 h2 hst hit free;unfold setSearchFrom;refine aq (wpAny_setState_of ho hd T.fits ?_);dsimp only;have hgw:t.gaveWay=false:=by unfold SetTable.gaveWay;rw[hm];rfl
  rw[hgw,hst];simp only[bV,if_false];have Yl:10*SetTable.turns t.mask=220:=by rw[hm];rfl
  unfold SetTable.probe;rw[Yl];rcases Ip hm T.E5 T.up _ (aU prog w k) 220 n m h1 (by omega) he (λj _ hj=>hne j hj) with⟨j,i,a1,a2,a3,a4,a4b,a5⟩|⟨a1,a5⟩
  .rw[a5];dsimp only;have hi:∃e,es[i]?=some e:=by
    rcases nY T.up T.E5 (sq (aU prog w k) j).1 with⟨e,_⟩|⟨i',e,hp⟩
    .rw[a3] at e;cases e
    .rw[a3] at e;cases e;have:=(mK.mp hp).1;rw[T.sz] at this;exact⟨_,gw this⟩
   obtain⟨e,hei⟩:=hi;obtain⟨k',a',rfl,ha'⟩:=hE i e hei;have hyy:∀y∈(es.filter (·.1==aU prog w k)).toList.map (·.2),∃k' a,y=Value.ref a/\b8 s.heap k' a:=λy hy=>by obtain⟨e,he',rfl⟩:=aF.mp hy;rw[Array.mem_toList_iff,Array.mem_filter] at he';obtain⟨i2,hi2⟩:=Array.mem_iff_getElem?.mp he'.1;obtain⟨k2,a2,rfl,h2⟩:=hE i2 e hi2;exact⟨k2,a2,rfl,h2⟩
   cases hl:t.led
   .simp only[Bool.not_false,if_true];refine aq (Qe hk hyy ?_);simp only[bV,if_false];rw[hei];dsimp only;refine aq (wpAny_holding (BO hu ha' hk ?_));refine aq (wpAny_setState_of ho hd T.fits ?_);dsimp only;by_cases e:k'=k
    .subst e;rw[decide_eq_true rfl];simp only[Bool.and_true,if_true];exact aL (hit j i a' _ a1 a2 a3 hei ha')
    .rw[decide_eq_false e];simp only[Bool.and_false,bV,if_false];have hsm:t.sameMemory t.moves t.mask=some true:=by unfold SetTable.sameMemory;rw[if_pos (by simp)]
     rw[hsm];dsimp only;simp only[if_true];rw[a3];dsimp only;rw[hei];dsimp only;refine aq (wpAny_isSame_ref_self (aq (aL ?_)));simp only[if_true];refine ih (j+1) _ Q (by omega) (by omega) rfl (λj' i' a z h3 h4=>hit j' i' a z (by omega) h4) λhn=>free λj' i' a z h3 h4 h5 h6 h7=>?_;by_cases hj:j'=j
     .subst hj;rw[a3] at h5;cases h5;rw[hei] at h6;cases h6;exact e (ha'.inj h7)
     .rcases aY j' j with hl|hg
      .refine a4b j' i' (by omega) hl h5 ?_;exact pW hE h6 h7
      .exact hn j' i' a z (by omega) h4 h5 h6 h7
   .simp only[gp,bV,if_false];rw[hei];dsimp only;refine aq (wpAny_holding (BO hu ha' hk ?_));refine aq (wpAny_setState_of ho hd T.fits ?_);dsimp only;by_cases e:k'=k
    .subst e;rw[decide_eq_true rfl];simp only[Bool.and_true,if_true];exact aL (hit j i a' _ a1 a2 a3 hei ha')
    .rw[decide_eq_false e];simp only[Bool.and_false,bV,if_false];have hsm:t.sameMemory t.moves t.mask=some true:=by unfold SetTable.sameMemory;rw[if_pos (by simp)]
     rw[hsm];dsimp only;simp only[if_true];rw[a3];dsimp only;rw[hei];dsimp only;refine aq (wpAny_isSame_ref_self (aq (aL ?_)));simp only[if_true];refine ih (j+1) _ Q (by omega) (by omega) rfl (λj' i' a z h3 h4=>hit j' i' a z (by omega) h4) λhn=>free λj' i' a z h3 h4 h5 h6 h7=>?_;by_cases hj:j'=j
     .subst hj;rw[a3] at h5;cases h5;rw[hei] at h6;cases h6;exact e (ha'.inj h7)
     .rcases aY j' j with hl|hg
      .refine a4b j' i' (by omega) hl h5 ?_;exact pW hE h6 h7
      .exact hn j' i' a z (by omega) h4 h5 h6 h7
  .rw[a5];dsimp only;refine aL (free λj i a z h3 h4 h5 h6 h7=>a1 j i h3 h4 h5 ?_);exact pW hE h6 h7
end
def Reach(pl:List Nat)(x:Int)(j:Nat):Prop:=∃m,(sq x m).1=j/\∀m',m'<m->(sq x m').1∈pl
def wZ(prog:Program)(w:World)(led:Bool)(h:Heap)(d:Addr)(ks:List (bP×Addr)):Prop :=
 ∃o es ep t,h.get? d=some o/\o.ExactSet/\o.data=.set es ep t/\SG.Tab led es t/\t.mask=7/\es.toList.Perm (ks.map λz=>(aU prog w z.1,Value.ref z.2))/\(ks.map (·.1)).Nodup/\ks.length<=4 /\
  ∀z∈es.toList.zip t.place.toList,Reach t.place.toList z.1.1 z.2
section
variable {prog:Program}{w:World}{A:Around}{E:Value->Shared->Prop}{s:Shared}
def wZ.at'{ks:List (bP×Addr)}(S:wZ prog w led h d ks)(e:∀o,h.get? d=some o->h'.get? d=some o):wZ prog w led h' d ks:=by obtain⟨o,es,ep,t,ho,r⟩:=S;exact⟨o,es,ep,t,e o ho,r⟩
def Fo{k:fz}(hk:gA s.heap k v)(h:∀b,Q b s):wpAny (model prog w) A (hashByValue (n+1) v) Q E s:=by
 cases k with
 | none =>
  obtain⟨t,rfl⟩:=hk;exact wpAny_of_eq (a:=false) (by first|rfl|(unfold hashByValue;rfl)) (h false)
 | some p =>
  obtain⟨a,o,m,t,u,rfl,h1,h2,h3⟩:=hk;have hT:s.TypeIs (.ref a) "tuple" := ⟨o,h1,h2⟩;unfold hashByValue;refine aq (wpAny_specialOf hT F.slot_tuple_hash.lookup ?_);dsimp only;refine aq (wpAny_seqItems h1 h3 ?_);refine aq ?_;show wpAny _ _ (forIn #[Value.int p.1 t,Value.int p.2 u] _ _) _ _ s;rw[<- kZ];refine wpAny_forIn_list _ (λrest r s'=>r.1=none/\s'=s/\∀v∈rest,∃i t,v=Value.int i t) _ ?_ ?_ _ _ ⟨rfl,rfl,λv hv=>by simp at hv;rcases hv with e|e<;>exact⟨_,_,e⟩⟩
  .rintro v rest r s' ⟨hr,rfl,hall⟩;obtain⟨i,t,rfl⟩:=hall v i9;refine aq (wpAny_of_eq (a:=true) (by first|rfl|(unfold hashByValue;rfl)) ?_);simp only[gp,bV,if_false];exact aL ⟨rfl,rfl,λu Dq=>hall u (dg _ Dq)⟩
  .rintro⟨r1,r2⟩ s' ⟨hr,rfl,_⟩;simp only at hr;subst hr;exact aL (h true)
def Fp(hk:b8 s.heap k a)(h:∀b,Q b s):wpAny (model prog w) A (hashByValue 8 (.ref a)) Q E s:=by
 obtain⟨o,n,t,v,ho,hc,hd,hv⟩:=hk;have hT:s.TypeIs (.ref a) "tuple" := ⟨o,ho,hc⟩;unfold hashByValue;refine aq (wpAny_specialOf hT F.slot_tuple_hash.lookup ?_);dsimp only;refine aq (wpAny_seqItems ho hd ?_);refine aq ?_;show wpAny _ _ (forIn #[Value.int k.1 t,v] _ _) _ _ s;rw[<- kZ];refine wpAny_forIn_list _ (λrest r s'=>s'=s/\r.1=none/\∀u∈rest,(∃i t,u=Value.int i t)\/gA s.heap k.2 u) _ ?_ ?_ _ _ ⟨rfl,rfl,λu hu=>by simp at hu;rcases hu with e|e;exact .inl ⟨_,_,e⟩;exact .inr (e▸hv)⟩
 .rintro u rest r s' ⟨rfl,hr,hall⟩;refine aq ?_;have rest':∀y∈rest,(∃i t,y=Value.int i t)\/gA s'.heap k.2 y:=λu Dq=>hall u (dg _ Dq);have go:wpAny (model prog w) A (hashByValue 7 u) (λ_ s2=>s2=s') E s':=by
   rcases hall u i9 with⟨i,t,rfl⟩|hu
   .exact wpAny_of_eq (a:=true) (by first|rfl|(unfold hashByValue;rfl)) rfl
   .exact Fo (n:=6) hu λ_=>rfl
  refine wpAny_mono go (λb s2=>?_) λ_ _ x=>x;rintro rfl;cases b
  .simp only[Bool.not_false,if_true];exact aL (aL (h false))
  .simp only[gp,bV,if_false];exact aL ⟨rfl,rfl,rest'⟩
 .rintro⟨r1,r2⟩ s' ⟨rfl,hr,_⟩;simp only at hr;subst hr;exact aL (h true)
def BQ{α β:Type}(xs:Array α)(ys:Array β)(hl:xs.size=ys.size)(p:Nat)(x:α)(y:β):(SetTable.insertAt xs p x).toList.zip (SetTable.insertAt ys p y).toList=(xs.toList.take p).zip (ys.toList.take p)++(x,y)::(xs.toList.drop p).zip (ys.toList.drop p):=by rw[SetTable.toList_insertAt,SetTable.toList_insertAt,List.zip_append (by rw[cF,cF,cX,cX,hl])];rfl
def BR{pl pl':List Nat}(h:∀j∈pl,j∈pl'){x:Int}{j:Nat}(r:Reach pl x j):Reach pl' x j:=let⟨m,e,q⟩:=r;⟨m,e,λm' hm=>h _ (q m' hm)⟩
def LL{ks:List (bP×Addr)}(hu:A.units+2<cLine)(S:wZ prog w led s.heap d ks)(hks:∀z∈ks,b8 s.heap z.1 z.2)(hk:b8 s.heap k x)(hl:ks.length<=3)
  (h:∀b h' tk,s.toks<=tk->Heap.SameBut d s.heap h'->wZ prog w led h' d (if k∈ks.map (·.1) then ks else ks++[(k,x)])->Q b { s with heap:=h',toks:=tk }):wpAny (model prog w) A (setAdd d (.ref x)) Q E s:=by
 obtain⟨o,es,ep,t,ho,hx,hd,T,hm,perm,nd,h4,hch⟩:=S;have hsz:es.size=ks.length:=by rw[<- cX,perm.length_eq,av]
 have hE:Qf prog w s.heap es:=λi e he=>by
  have me:e∈es.toList:=by rw[<- fS] at he;exact fB he
  obtain⟨z,hz,rfl⟩:=aF.mp (perm.mem_iff.mp me);exact⟨z.1,z.2,rfl,hks z hz⟩
 unfold setAdd;refine wpAny_holding (aq (za (by omega) hk ?_));generalize hs1:({ s with toks:=s.toks+(1+nX k.2+1) }:Shared)=s1;have eh:s1.heap=s.heap:=by rw[<- hs1]
 have et:s.toks<=s1.toks:=by rw[<- hs1];exact nc _ _
 have es1:∀h', ({ s1 with heap:=h' }:Shared)={ s with heap:=h',toks:=s1.toks }:=λh'=>by rw[<- hs1]
 rw[<- eh] at ho hE hk;unfold setAddHashed setAddHashedIn;refine wpAny_holding (aq (wpAny_setState_of ho hd T.fits ?_));dsimp only;have hns:byScan (.ref x) es=false:=rfl;rw[hns];simp only[bV,if_false];unfold setSearch;obtain⟨m,m20,he,hne⟩:=ze T.E5 T.up (by rw[T.sz];omega) (aU prog w k);have inp:∀j,t.slot j≠.empty->j∈t.place.toList:=λj hj=>by
  rcases nY T.up T.E5 j with⟨e,_⟩|⟨i,_,e⟩
  .exact absurd e hj
  .rw[<- fS] at e;exact fB e
 refine aq (search hu ho hd T hm hE hk m20 he hne 100000 0 none _ (aH _) (by omega) (Fl hm _) (λj i a z _ hj hsl hei ha=>?_) (λhn=>?_))
 .dsimp only;have hin:k∈ks.map (·.1):=by
   obtain⟨k2,a2,e2,h2⟩:=hE i _ hei;have e4:a=a2:=Value.ref.inj (congrArg Prod.snd e2);have me:((z,.ref a):Int×Value)∈es.toList:=by rw[<- fS] at hei;exact fB hei
   obtain⟨y,hy,ey⟩:=aF.mp (perm.mem_iff.mp me);have e5:y.2=a:=Value.ref.inj (congrArg Prod.snd ey);have hy2:=hks y hy;rw[e5,<- eh] at hy2;rw[<- hy2.inj ha];exact aF.mpr ⟨y,hy,rfl⟩
  refine aL ?_;have:=h false s.heap s1.toks et (rL d s.heap) (by rw[if_pos hin];exact⟨o,es,ep,t,by rw[<- eh];exact ho,hx,hd,T,hm,perm,nd,h4,hch⟩);rw[<- es1,<- eh] at this;exact this
 .dsimp only;have HV:k∉ks.map (·.1):=λhin=>by
   obtain⟨y,hy,rfl⟩:=aF.mp hin;have me:((aU prog w y.1,.ref y.2):Int×Value)∈es.toList:=perm.mem_iff.mpr (aF.mpr ⟨y,hy,rfl⟩);obtain⟨i,hi⟩:=fW.mp me;have hil:i<t.place.size:=by rw[T.sz,<- cX];exact(fu hi).1
   have hp:t.place.toList[i]?=some t.place[i]:=by rw[fS];exact gw hil
   have hz:(((aU prog w y.1,.ref y.2):Int×Value),t.place[i])∈es.toList.zip t.place.toList:=by refine fW.mpr ⟨i,?_⟩;rw[pI];exact⟨hi,hp⟩
   obtain⟨m',e1,e2⟩:=hch _ hz;dsimp only at e1 e2;have zf:t.slot t.place[i]=.live i:=vt T.up T.E5 (by rw[gw hil]);have Yh:m'<m:=by
    rcases aY m' m with hl|hg
    .exact hl
    .exfalso;rcases Nat.eq_or_lt_of_le hg with e|hlt
     .rw[e,e1,zf] at he;cases he
     .have:=e2 m hlt;obtain⟨i2,hi2⟩:=fW.mp this;rw[fS] at hi2;rw[vt T.up T.E5 hi2] at he;cases he
   rw[fS] at hi;exact hn m' i y.2 _ (aH _) Yh (by rw[e1];exact zf) hi (by rw[eh];exact hks y hy)
  refine aq (wpAny_setState_of ho hd T.fits ?_);dsimp only;have PX:t.put (sq (aU prog w k) m).1=({ t with place:=SetTable.insertAt t.place (SetTable.below t.place (sq (aU prog w k) m).1) (sq (aU prog w k) m).1 },SetTable.below t.place (sq (aU prog w k) m).1):=by unfold SetTable.put;rw[SG.nS T.E5];rfl
  rw[PX];dsimp only;have NN:=SN.mP T.up (SG.nv T.up he);have Iq:(SetTable.insertAt es (SetTable.below t.place (sq (aU prog w k) m).1) (aU prog w k,.ref x)).toList.Perm (es.toList++[(aU prog w k,.ref x)]):=by
   have:=SetTable.insertAt_perm es (SetTable.below t.place (sq (aU prog w k) m).1) (aU prog w k,Value.ref x)
   rwa [Array.toList_push] at this
  have BS:(SetTable.insertAt t.place (SetTable.below t.place (sq (aU prog w k) m).1) (sq (aU prog w k) m).1).toList.Perm (t.place.toList++[(sq (aU prog w k) m).1]):=by
   have:=SetTable.insertAt_perm t.place (SetTable.below t.place (sq (aU prog w k) m).1) (sq (aU prog w k) m).1
   rwa [Array.toList_push] at this
  have hz:=BQ es t.place T.sz.symm (SetTable.below t.place (sq (aU prog w k) m).1) (aU prog w k,Value.ref x) (sq (aU prog w k) m).1;generalize SetTable.insertAt es (SetTable.below t.place (sq (aU prog w k) m).1) (aU prog w k,Value.ref x)=nU at Iq hz ⊢;generalize SetTable.insertAt t.place (SetTable.below t.place (sq (aU prog w k) m).1) (sq (aU prog w k) m).1=Ir at BS hz NN ⊢;have hsz2:nU.size=es.size+1:=by rw[<- cX,Iq.length_eq,aR,cX];rfl
  have TY:Ir.size=es.size+1:=by rw[<- cX,BS.length_eq,aR,cX,T.sz];rfl
  have T2:∀b:Bool,SG.Tab led nU { t with place:=Ir,plain:=b }:=λb=>by refine⟨T.led,T.E5,NN,?_⟩;unfold SetTable.fits SetTable.fill;rw[TY,hsz2,T.E5,hm];simp;omega
  have fin:∀b:Bool,wpAny (model prog w) A (do storeSet d nU { t with place:=Ir,plain:=b };if(!false&&({ t with place:=Ir,plain:=b }:SetTable).tooFull)=true then do setRelay d (SetTable.grown (es.size+1));pure true else pure true) Q E s1:=λb=>by
   refine aq (wpAny_storeSet_of ho hd ?_ (by rw[hsz2,sizeLine_eq];omega));have Lz:=fE (Obj.putSet nU { t with place:=Ir,plain:=b }) ho (by rw[putSet_of nU _ hd];rfl);rw[putSet_of nU _ hd] at Lz;have NJ:=jD s1.heap d (Obj.putSet nU { t with place:=Ir,plain:=b });have full:({ t with place:=Ir,plain:=b }:SetTable).tooFull=false:=by unfold SetTable.tooFull SetTable.fill;dsimp only;rw[T.E5,hm,TY];simp;omega
   rw[full];simp only[Bool.and_false,bV,if_false];refine aL ?_;rw[es1];refine h true _ s1.toks et (by rw[<- eh];exact NJ) ?_;rw[if_neg HV];refine⟨_,nU,_,_,Lz,hx,rfl,T2 b,hm,?_,?_,by rw[aR];simp;omega,?_⟩
   .rw[bF];exact Iq.trans (perm.append_right _)
   .rw[bF,gq];refine⟨nd,by simp,λa ha c hc e=>HV ?_⟩;have hc':c=k:=by simpa using hc
    rw[<- hc',<- e];exact ha
   .intro y hy;show Reach Ir.toList y.1.1 y.2;have up:∀j∈t.place.toList,j∈Ir.toList:=λj hj=>BS.mem_iff.mpr (mZ _ hj)
    replace hy:y∈nU.toList.zip Ir.toList:=hy
    rw[hz] at hy;have old:∀y,y∈es.toList.zip t.place.toList->Reach Ir.toList y.1.1 y.2:=λy hy=>BR up (hch y hy);rcases aO.mp hy with hy|hy
    .refine old y ?_;obtain⟨i,hi⟩:=fW.mp hy;rw[pI,List.getElem?_take,List.getElem?_take] at hi;refine fW.mpr ⟨i,pI.mpr ?_⟩;split at hi
     .exact hi
     .exact nomatch hi.1
    .rcases aI.mp hy with rfl|hy
     .exact⟨m,rfl,λm' hm'=>up _ (inp _ (hne m' hm'))⟩
     .refine old y ?_;obtain⟨i,hi⟩:=fW.mp hy;rw[pI,List.getElem?_drop,List.getElem?_drop] at hi;exact fW.mpr ⟨_,pI.mpr hi⟩
  split
  .refine aq (Fp hk λb=>?_);cases b
   .exact fin false
   .exact fin t.plain
  .refine aq (aL ?_);exact fin t.plain
def pX(val:Nat->bP×Addr):Nat->List (bP×Addr)
 | 0=>[]
 | i+1=>if(val i).1∈(pX val i).map (·.1) then pX val i else pX val i++[val i]
theorem zg(val:Nat->bP×Addr):∀i,(pX val i).length<=i
 | 0=>az _
 | i+1=>by
  have:=zg val i;unfold pX;split
  .omega
  .rw[aR,jJ];omega
theorem nZ(val:Nat->bP×Addr):∀(i:Nat)(z:bP×Addr),z∈pX val i->∃j,j<i/\z=val j
 | 0,z,h=>by simp[pX] at h
 | i+1,z,h=>by
  unfold pX at h;split at h
  .obtain⟨j,hj,e⟩:=nZ val i z h;exact⟨j,by omega,e⟩
  .rcases aO.mp h with h|h
   .obtain⟨j,hj,e⟩:=nZ val i z h;exact⟨j,by omega,e⟩
   .exact⟨i,by omega,aA.mp h⟩
theorem zh(val:Nat->bP×Addr):∀(i:Nat)(k:bP),k∈(pX val i).map (·.1)↔∃j,j<i/\k=(val j).1
 | 0,k=>by simp[pX]
 | i+1,k=>by
  have ih:=zh val i;unfold pX;split
  .rename_i hin;rw[ih k];constructor
   .rintro⟨j,hj,e⟩;exact⟨j,by omega,e⟩
   .rintro⟨j,hj,e⟩;rcases aY j i with hlt|hge
    .exact⟨j,hlt,e⟩
    .have:j=i:=by omega
     subst this;rw[e];exact(ih _).mp hin
  .rw[bF,aO,ih k];constructor
   .rintro(⟨j,hj,e⟩|e)
    .exact⟨j,by omega,e⟩
    .exact⟨i,by omega,by simpa using e⟩
   .rintro⟨j,hj,e⟩;rcases aY j i with hlt|hge
    .exact .inl ⟨j,hlt,e⟩
    .have:j=i:=by omega
     subst this;exact .inr (by simp[e])
def Iu{l:Addr}{items:Array Value}{val:Nat->bP×Addr}{Q:Value->Shared->Prop}(hu:A.units+10<cLine)(hh:A.handled=none)(hl:s.heap.IsList l items)(hv:∀(i:Nat)(v:Value),items[i]?=some v->v=.ref (val i).2/\b8 s.heap (val i).1 (val i).2)(hn:items.size<=4)
  (h:∀(h':Heap)(tk:Nat),wZ prog w (!SG.cC w) h' s.heap.objs.size (pX val items.size)->(∀b o,b<s.heap.objs.size->s.heap.get? b=some o->h'.get? b=some o)->Q (.ref s.heap.objs.size) { s with heap:=h',toks:=tk }):
  wpAny (model prog w) A (call (.type "set") [.ref l]) Q E s:=by
 refine SG.set_list hh hl (λi h=>wZ prog w (!SG.cC w) h s.heap.objs.size (pX val i)/\∀b o,b<s.heap.objs.size->s.heap.get? b=some o->h.get? b=some o) (λh' k e=>⟨⟨_,#[],0,_,e,⟨rfl,rfl,rfl⟩,rfl,SG.vo,rfl,mW _,kg,aH _,λz hz=>nomatch hz⟩,λb o _ e=>k b o e⟩)
  (λi h h' ⟨q,k⟩ hk=>⟨q.at' λo e=>hk _ o (az _) e,λb o hb e=>hk b o (jK hb) (k b o hb e)⟩) (λA' E' i v s' Q hh' Dq hi ⟨hS,hkp⟩ hQ=>?_) λh' tk ⟨q,k⟩ kk=>h h' tk q kk
 obtain⟨rfl,hhi⟩:=hv i v hi;have hlt:=(mK.mp hi).1;have stay:∀j v,items[j]?=some v->b8 s'.heap (val j).1 (val j).2:=λj v hj=>(hv j v hj).2.stay λb o _ _ _ _ e=>hkp b o (aK e) e;have hle:=zg val i;refine LL (by omega) hS (λz hz=>?_) (stay i _ hi) (by omega) λb h' tk htk sb Yg=>hQ b h' tk htk sb ⟨Yg,λb' o hb e=>?_⟩
 .obtain⟨j,hj,rfl⟩:=nZ val i z hz;exact stay j _ (gw (by omega))
 .rw[sb.2 b' (aQ hb)];exact hkp b' o hb e
end
open PySem.W
section
variable {prog:Program}{w:World}{A:Around}{E:Value->Shared->Prop}{s:Shared}
set_option maxHeartbeats 1000000 in
def Iv{vs:List Value}{r:Nat->Int}{P:PySem.Fin->Shared->Prop}(ho:s.heap.get? a=some (seqObj "list" vs.toArray n))(h64:vs.length<64)
  (hT:∀G:Heap,(∀b o vs' n',o.cls=.type "tuple" -> o.data=.seq vs' n'->s.heap.get? b=some o->G.get? b=some o)->∃fs:List Value,KatTups G vs fs/\fs.length=vs.length/\∀v∈fs,∃i t,v=Value.int i t)
  (hc:∀G:Heap,(∀b o vs' n',o.cls=.type "tuple" -> o.data=.seq vs' n'->s.heap.get? b=some o->G.get? b=some o)->∀i j,i<vs.length->j<vs.length->∀(E':Value->Shared->Prop)(C:Bool->Shared->Prop),C (decide (r i<r j)) { s with heap:=G }->wpAny (model prog w) A (keyLt' (tuples' true) (vs.getD i Value.none) (vs.getD j Value.none)) C E' { s with heap:=G })
  (inj:∀i j,i<vs.length->j<vs.length->r i=r j->i=j)
  (h:∀q:Array Nat,SN.Pl vs.length q->SN.Up r q vs.length->P (.done (.ret .none)) { s with heap:=sortedHeap s.heap a vs (List.toArray (q.toList.map λi=>vs.getD i Value.none)) }):
  wpAny (model prog w) A (Builtin.«list.sort» ⟨[.ref a],[]⟩) P E s:=by
 have ha:a<s.heap.objs.size:=aK ho;obtain⟨e1,P8⟩:∃e1,(s.heap.update a (Obj.mapSeq λ_=>#[])).get? a=some (seqObj "list" #[] e1):=⟨_,get?_update_seq ho (λ_=>#[])⟩;have kp:∀b o,b≠a->s.heap.get? b=some o->(((s.heap.update a (Obj.mapSeq λ_=>#[])).push (seqObj "tuple" vs.toArray 0)).push (seqObj "list" #[] 0)).get? b=some o:=λb o hba e=>c9 _ (c9 _ ((fU _ _ _ _ hba).trans e));have ho6:(((s.heap.update a (Obj.mapSeq λ_=>#[])).push (seqObj "tuple" vs.toArray 0)).push (seqObj "list" #[] 0)).get? a=some (seqObj "list" #[] e1):=c9 _ (c9 _ P8);rw[list_sort_plain];refine aq (listItems_at ho rfl (aq (listUpdate_at ho rfl ?_ (by rw[aV,sizeLine_eq];omega) (aH _))));refine aq (seqEpoch_at P8 rfl (aq (wpAny_newTuple ?_ (by show vs.length<=_;rw[sizeLine_eq];omega))));refine aq (wpAny_newList (wpAny_holding ?_) (aH _));show wpAny (model prog w) A _ P E { s with heap:=((s.heap.update a (Obj.mapSeq λ_=>#[])).push (seqObj "tuple" vs.toArray 0)).push (seqObj "list" #[] 0) };have KG:∀b o vs' n',o.cls=.type "tuple" -> o.data=.seq vs' n'->s.heap.get? b=some o->(((s.heap.update a (Obj.mapSeq λ_=>#[])).push (seqObj "tuple" vs.toArray 0)).push (seqObj "list" #[] 0)).get? b=some o:=λb o _ _ hc _ e=>kp b o (λz=>by subst z;rw[ho] at e;cases e;exact absurd (show Value.type "list" = .type "tuple" from hc) (by decide)) e;have uh:∀out,((((s.heap.update a (Obj.mapSeq λ_=>#[])).push (seqObj "tuple" vs.toArray 0)).push (seqObj "list" #[] 0))).update a (Obj.mapSeq λ_=>out)=sortedHeap s.heap a vs out:=λ_=>rfl;generalize (((s.heap.update a (Obj.mapSeq λ_=>#[])).push (seqObj "tuple" vs.toArray 0)).push (seqObj "list" #[] 0))=G at *;dsimp only;have fin:∀q:Array Nat,SN.Pl vs.length q->SN.Up r q vs.length->P (.done (.ret .none)) { s with heap:=G.update a (Obj.mapSeq λ_=>List.toArray (q.toList.map λi=>vs.getD i Value.none)) }:=λq hq u=>by rw[uh];exact h q hq u
 by_cases h2:vs.toArray.size<2
 .rw[if_pos h2,if_pos h2];refine aq (aL ?_);rw[StateT.run_pure];refine aq (aL (aq (seqEpoch_at ho6 rfl (aq (listUpdate_at ho6 rfl ?_ (aH _) ?_)))))
  .simp only[bne_self_eq_false,bV,if_false];have:=fin (List.toArray (List.range vs.length)) (SN.Pl.start _) (λi j hij hj=>by rw[aV] at h2;omega);have e:(arrOf (SortSt.mk' general' (vs.toArray.zip vs.toArray) #[] 7 none)).map (·.2)=List.toArray ((List.toArray (List.range vs.length)).toList.map λi=>vs.getD i Value.none):=by exact SN.Dk (by rw[aV] at h2;exact h2)
   rw[e];exact aL this
  .show((vs.toArray.zip vs.toArray).map _).size<=_;rw[Array.size_map,Array.size_zip,aV,sizeLine_eq];omega
 .have h2':2<=vs.length:=by rw[aV] at h2;omega
  rw[if_neg h2,if_neg h2];obtain⟨fs,k1,k2,k3⟩:=hT G KG;refine aq (kat_kind (T:=.type "int") k1 (by omega) (λv hv=>by obtain⟨i,t,rfl⟩:=k3 v hv;exact Looks.of_pure rfl) rfl ?_);have kd:((Value.type "int") != (Value.type "tuple"))=true:=by decide
  rw[kd];refine aq (wpAny_mono (kat_run (prog:=prog) (w:=w) (A:=A) (κ:=tuples' true) (vs:=vs) (ks:=vs) (Q:=λst' s'=>s'={ s with heap:=G }/\failedOf st'=none/\∃q,SN.Pl vs.length q/\SN.Up r q vs.length/\(arrOf st').map (·.2)=List.toArray (q.toList.map λi=>vs.getD i Value.none))
   (G:=λq s'=>s'={ s with heap:=G }/\SN.Pl vs.length q/\SN.Up r q vs.length) rfl h2' (by omega) (λq st' s' _ har hf hg=>⟨hg.1,hf,q,hg.2.1,hg.2.2,kat_snds rfl har⟩) ?_) ?_ λ_ _ e=>e)
  .refine SN.Dh (r:=r) (λi j hi hj C hC=>?_) inj (by omega) λq hq u=>⟨rfl,hq,u⟩;exact hc G KG i j hi hj _ C hC
  .rintro⟨⟨⟩,st'⟩ s' ⟨rfl,hf,q,hq,u,eo⟩;dsimp only;refine aq (seqEpoch_at ho6 rfl (aq (listUpdate_at ho6 rfl ?_ (aH _) ?_)))
   .rw[hf];simp only[bne_self_eq_false,bV,if_false];rw[eo];exact aL (fin q hq u)
   .rw[eo,aV,av,cX,hq.sz,sizeLine_eq];omega
end
def pY(k:bP):Int:=k.1*10000+match k.2 with|none=>0|some p=>SN.rk p
def Qg(k:bP):Prop:=∀p,k.2=some p->0<=p.1/\p.1<2/\0<=p.2/\p.2<1000
def Alike(x y:bP):Prop:=x.2.isSome=y.2.isSome
def LM{x:bP}(hx:Qg x)(hy:Qg y)(ha:Alike x y)(e:pY x=pY y):x=y:=by
 obtain⟨p,a⟩:=x;obtain⟨q,b⟩:=y;unfold pY at e;cases a with
 | none =>
  cases b with
  | none =>
   dsimp only at e;have:p=q:=by omega
   rw[this]
  | some y=>cases ha
 | some x =>
  cases b with
  | none=>cases ha
  | some y =>
   have h1:=hx x rfl;have h2:=hy y rfl;obtain⟨x1,x2⟩:=x;obtain⟨y1,y2⟩:=y;change p*10000+(x1*1000+x2)=q*10000+(y1*1000+y2) at e;dsimp only at h1 h2;have e1:p=q:=by omega
   have e2:x1=y1:=by omega
   have e3:x2=y2:=by omega
   rw[e1,e2,e3]
def Iw{α β:Type}{f:α->β}{l m:List β}(h:l.Perm m):∀{zs:List α},m=zs.map f->∃ys:List α,ys.Perm zs/\l=ys.map f:=by
 induction h with
 | nil=>intro zs e;exact⟨[],by rw[List.map_eq_nil_iff.mp e.symm],rfl⟩
 | cons x h ih =>
  intro zs e;cases zs with
  | nil=>cases e
  | cons z zs =>
   have e1:=List.cons.inj e;obtain⟨ys,h1,h2⟩:=ih e1.2;exact⟨z::ys,h1.cons z,by rw[cj,<- h2,<- e1.1]⟩
 | swap x y l =>
  intro zs e;cases zs with
  | nil=>cases e
  | cons z zs =>
   cases zs with
   | nil=>cases(List.cons.inj e).2
   | cons z2 zs =>
    have e1:=List.cons.inj e;have e2:=List.cons.inj e1.2;exact⟨z2::z::zs,.swap _ _ _,by rw[cj,cj,<- e1.1,<- e2.1,<- e2.2]⟩
 | trans _ _ i1 i2 =>
  intro zs e;obtain⟨ys,h1,h2⟩:=i2 e;obtain⟨xs,h3,h4⟩:=i1 h2;exact⟨xs,h3.trans h1,h4⟩
def range_getD{α:Type}(l:List α)(d:α):(List.range l.length).map (λi=>l.getD i d)=l:=by
 apply List.ext_getElem?;intro i;rw[bw];rcases aY i l.length with h|h
 .rw[pG h,fO h];show some (l.getD i d)=_;rw[mJ,fO h];rfl
 .rw[jH (by rw[gU];exact h),jH h];rfl
section
variable {prog:Program}{w:World}{A:Around}{E:Value->Shared->Prop}{s:Shared}
def Iz{y:Addr}{ox oy:Obj}{n k:Nat}{a b c d:Int}{t1 t2 t3 t4:Tok}{Q:Value->Shared->Prop}(hu:A.units<cLine)(hx:s.heap.get? x=some ox)(cx:ox.cls=.type "tuple")(dx:ox.data=.seq #[.int a t1,.int b t2] n)(hy:s.heap.get? y=some oy)(cy:oy.cls=.type "tuple")(dy:oy.data=.seq #[.int c t3,.int d t4] k)
  (h:Q (.bool (if a=c then decide (b<d) else decide (a<c))) s):wpAny (model prog w) A (compareOp .Lt (.ref x) (.ref y)) Q E s:=by
 have tx:s.TypeIs (.ref x) "tuple" := ⟨ox,hx,cx⟩;have ty:s.TypeIs (.ref y) "tuple" := ⟨oy,hy,cy⟩;refine(show wpAny _ _ (richCompare .Lt (.ref x) (.ref y)) _ _ _ from wpAny_richCompare_same_room tx ty F.slot_tuple_lt (wpAny_call_entry F.slot_tuple_lt tx F.entry_tuple_lt ?_ (F.args_tuple_lt_2 _ _)) hu);show wpAny _ _ (isInstance (.ref y) (.type "tuple") >>= _) _ _ s;refine aq (wpAny_isInstance ty isSubtype_tuple_tuple ?_);simp only[gp,bV,if_false];refine aq (wpAny_tupleItemsOf hx dx ?_);refine aq (wpAny_tupleItemsOf hy dy ?_);refine aq ?_;show wpAny _ _ (forIn [(Value.int a t1,Value.int c t3),(Value.int b t2,Value.int d t4)] _ _) _ _ s;rw[jG];refine aq (aq (wpAny_eqBool_int ?_));by_cases e:a=c
 .rw[show(a==c)=true by simpa using e];simp only[gp,bV,if_false];rw[if_pos e] at h;refine aL ?_;dsimp only;rw[jG];refine aq (aq (wpAny_eqBool_int ?_));by_cases e2:b=d
  .rw[show(b==d)=true by simpa using e2];simp only[gp,bV,if_false];refine aL ?_;dsimp only;rw[k6];refine aL ?_;rw[decide_eq_false (by omega)] at h;exact aL ⟨_,rfl,(λe=>nomatch e),h⟩
  .rw[show(b==d)=false by simpa using e2];simp only[Bool.not_false,if_true];refine aq (wpAny_rule ?_);refine aq (show wpAny _ _ (compareOp .Lt (.int b t2) (.int d t4)) _ _ _ from PyProof.Rows.lt_int ?_);exact aq (aL (aL (aL (aL ⟨_,rfl,(λe=>nomatch e),h⟩))))
 .rw[show(a==c)=false by simpa using e];simp only[Bool.not_false,if_true];rw[if_neg e] at h;refine aq (wpAny_rule ?_);refine aq (show wpAny _ _ (compareOp .Lt (.int a t1) (.int c t3)) _ _ _ from PyProof.Rows.lt_int ?_);exact aq (aL (aL (aL (aL ⟨_,rfl,(λe=>nomatch e),h⟩))))
def Qh{y:Addr}{k1 k2:bP}(hu:A.units+1<cLine)(hx:b8 s.heap k1 x)(hy:b8 s.heap k2 y)(o1:Qg k1)(o2:Qg k2)(al:Alike k1 k2)(h:Q (decide (pY k1<pY k2)) s):wpAny (model prog w) A (keyLt' (tuples' true) (.ref x) (.ref y)) Q E s:=by
 obtain⟨ox,n,t,u,h1,c1,d1,Ym⟩:=hx;obtain⟨oy,m,t',u',h2,c2,d2,TZ⟩:=hy;obtain⟨p,a⟩:=k1;obtain⟨q,b⟩:=k2;dsimp only at d1 d2 Ym TZ;refine kat_lt h1 d1 h2 d2 (kat_cons (wpAny_eqBool_int ?_));by_cases e:p=q
 .subst e;rw[show(p==p)=true by simp];refine kat_yes (kat_cons (Qc hu Ym TZ ?_));by_cases e2:a=b
  .subst e2;rw[decide_eq_true rfl];rw[decide_eq_false (by omega)] at h;exact kat_yes (kat_nil h)
  .rw[decide_eq_false e2];cases a with
   | none =>
    cases b with
    | none=>exact absurd rfl e2
    | some y=>cases al
   | some x1 =>
    cases b with
    | none=>cases al
    | some y1 =>
     obtain⟨a1,oa,na,ta,ua,rfl,ga,ca,da⟩:=Ym;obtain⟨b1,ob,nb,tb,ub,rfl,gb,cb,db⟩:=TZ;refine kat_no (kat_one _ _ (Iz (by omega) ga ca da gb cb db ?_));have b1:=o1 x1 rfl;have b2:=o2 y1 rfl;have er:decide (pY (p,some x1)<pY (p,some y1))=if x1.1=y1.1 then decide (x1.2<y1.2) else decide (x1.1<y1.1):=by
      obtain⟨x1,x2⟩:=x1;obtain⟨y1,y2⟩:=y1;dsimp only at b1 b2;change decide (p*10000+(x1*1000+x2)<p*10000+(y1*1000+y2))=if x1=y1 then decide (x2<y2) else decide (x1<y1)
      split<;>simp only[decide_eq_decide]<;>omega
     rw[er] at h;exact h
 .rw[show(p==q)=false by simpa using e];refine kat_no (oneLt_int ?_);have er:decide (pY (p,a)<pY (q,b))=decide (p<q):=by
   have ba:0<=pY (p,a)-p*10000/\pY (p,a)-p*10000<10000:=by
    cases a with
    | none=>change 0<=p*10000+0-p*10000/\p*10000+0-p*10000<10000;omega
    | some x=>have:=o1 x rfl;change 0<=p*10000+(x.1*1000+x.2)-p*10000/\p*10000+(x.1*1000+x.2)-p*10000<10000;omega
   have bb:0<=pY (q,b)-q*10000/\pY (q,b)-q*10000<10000:=by
    cases b with
    | none=>change 0<=q*10000+0-q*10000/\q*10000+0-q*10000<10000;omega
    | some x=>have:=o2 x rfl;change 0<=q*10000+(x.1*1000+x.2)-q*10000/\q*10000+(x.1*1000+x.2)-q*10000<10000;omega
   simp only[decide_eq_decide];omega
  rw[<- er];exact h
abbrev mQ(h:Heap):List Value->List bP->Prop:=Paired λv k=>∃a,v=.ref a/\b8 h k a
theorem mQ.stay{vs:List Value}{ks:List bP}(x:mQ h vs ks)(e:∀b o vs n,o.cls=.type "tuple" -> o.data=.seq vs n->h.get? b=some o->h'.get? b=some o):mQ h' vs ks:=L2.Paired.Ez x λv k ⟨a,e1,e2⟩=>⟨a,e1,e2.stay e⟩
theorem mQ.tups:∀{vs:List Value}{ks:List bP},mQ h vs ks->∃fs:List Value,KatTups h vs fs/\fs.length=vs.length/\∀v∈fs,∃i t,v=Value.int i t
 | _,_,.nil=>⟨[],.nil,rfl,λv hv=>nomatch hv⟩
 | _,_,.cons ⟨a,e,o,n,t,v,h1,h2,h3,_⟩ r=>by
  obtain⟨fs,a1,a2,a3⟩:=mQ.tups r;subst e;refine⟨_::fs,KatTups.cons h1 h2 h3 rfl a1,by simp[a2],λv hv=>?_⟩;rcases aI.mp hv with e|hv
  .exact⟨_,_,e⟩
  .exact a3 v hv
theorem mQ.get:∀{vs:List Value}{ks:List bP}(_:mQ h vs ks){i:Nat}(_:i<vs.length),∃a,vs.getD i Value.none=.ref a/\b8 h (ks.getD i (0,none)) a
 | _,_,.cons ⟨a,e,q⟩ r,0,_=>⟨a,e,q⟩
 | _,_,.cons _ r,i+1,hi=>by obtain⟨a,h1,h2⟩:=mQ.get r (i:=i) (by simpa using hi);exact⟨a,by simpa using h1,by simpa using h2⟩
def zj{zs:List (bP×Addr)}{Q:Value->Shared->Prop}(hu:A.units+8<cLine)(hh:A.handled=none)(S:wZ prog w (!SG.cC w) s.heap d zs)(hzs:∀z∈zs,b8 s.heap z.1 z.2)(hok:∀z∈zs,Qg z.1)(hal:∀z∈zs,∀y∈zs,Alike z.1 y.1)
  (h:∀(p:Addr)(h':Heap)(d':Drawn)(tk c:Nat)(vs:List Value)(ks:List bP),s.heap.objs.size<=p->(∀b x,s.heap.get? b=some x->h'.get? b=some x)->h'.get? p=some { cls:=.type "list", data:=.seq vs.toArray c }->Paired (λv k=>∃a,v=Value.ref a/\(k,a)∈zs) vs ks->(∀k,k∈ks↔k∈zs.map (·.1))->ks.Pairwise (λx y=>pY x<pY y)->vs.length=zs.length->Q (.ref p) { s with heap:=h',drawn:=d',toks:=tk }):
  wpAny (model prog w) A (call (.builtin "sorted") [.ref d]) Q E s:=by
 obtain⟨o,es,ep,t,ho,hx,hd,T,hm,perm,nd,h4,hch⟩:=S;have hsz:es.size=zs.length:=by rw[<- cX,perm.length_eq,av]
 refine wg kind_sorted plain_sorted entry_sorted (args_sorted1 _) ?_;unfold Builtin.«sorted»;refine aq (m:=checkCount "sorted" 1 1 _) (aL (aq (SG.qp (by simp[hh]) ho hx hd T (by omega) ?_)));intro s1 acc k1 g1 o1 BD hp;obtain⟨h1,gg,dd,TR,oo⟩:=s1;dsimp only at k1 g1 o1 BD;subst g1 o1;have pv:acc.Perm (zs.map λz=>Value.ref z.2):=by have:=hp.trans (perm.map (·.2));rw[fV] at this;exact this
 obtain⟨ys,hys,P9⟩:∃ys:List (bP×Addr),ys.Perm zs/\acc=ys.map λz=>Value.ref z.2:=by exact Iw pv rfl
 subst P9;have hyl:ys.length=zs.length:=hys.length_eq;have hV:mQ h1 (ys.map λz=>Value.ref z.2) (ys.map (·.1)):=by
  have all:∀z∈ys,b8 h1 z.1 z.2:=λz hz=>(hzs z (hys.mem_iff.mp hz)).stay λb o _ _ _ _ e=>k1 b o e;clear hys hyl pv hp;induction ys with
  | nil=>exact .nil
  | cons z ys ih=>exact .cons ⟨z.2,rfl,all z (by simp)⟩ (ih λy hy=>all y (by simp[hy]))
 refine aq (wpAny_newList ?_ (by rw[av,hyl,sizeLine_eq];omega));have gN:(h1.push (seqObj "list" (ys.map λz=>Value.ref z.2).toArray 0)).get? h1.objs.size=some (seqObj "list" (ys.map λz=>Value.ref z.2).toArray 0):=iE _ rfl;have Yn:=hV.stay (h':=h1.push (seqObj "list" (ys.map λz=>Value.ref z.2).toArray 0)) λb o _ _ _ _ e=>c9 _ e;have NO:∀i,i<ys.length->(ys.map (·.1)).getD i (0,none)=((ys.getD i ((0,none),0)).1:bP)/\ys.getD i ((0,none),0)∈ys:=λi hi=>by rw[mJ,mJ,bw,fO hi];exact⟨rfl,jI hi⟩
 have lm:(ys.map λz=>Value.ref z.2).length=ys.length:=av _;refine aq (wpAny_holding (wpAny_call_entry slot_list_sort ⟨_,gN,rfl⟩ entry_list_sort (Iv (r:=λi=>pY ((ys.map (·.1)).getD i (0,none))) gN (by rw[lm,hyl];omega) (λG k=>(Yn.stay k).tups) (λG k i j hi hj E' C hC=>?_) (λi j hi hj e=>?_) λq hq u=>⟨_,rfl,?_⟩) (args_list_sort _)))
 .obtain⟨x,ex,gx⟩:=(Yn.stay k).get hi;obtain⟨y,ey,gy⟩:=(Yn.stay k).get hj;rw[lm] at hi hj;obtain⟨e1,m1⟩:=NO i hi;obtain⟨e2,m2⟩:=NO j hj;rw[ex,ey];refine Qh (by simp only[Around.in1];omega) gx gy ?_ ?_ ?_ hC
  .rw[e1];exact hok _ (hys.mem_iff.mp m1)
  .rw[e2];exact hok _ (hys.mem_iff.mp m2)
  .rw[e1,e2];exact hal _ (hys.mem_iff.mp m1) _ (hys.mem_iff.mp m2)
 .rw[lm] at hi hj;obtain⟨e1,m1⟩:=NO i hi;obtain⟨e2,m2⟩:=NO j hj;change pY ((ys.map (·.1)).getD i (0,none))=pY ((ys.map (·.1)).getD j (0,none)) at e;rw[e1,e2] at e;have e3:=LM (hok _ (hys.mem_iff.mp m1)) (hok _ (hys.mem_iff.mp m2)) (hal _ (hys.mem_iff.mp m1) _ (hys.mem_iff.mp m2)) e;have VZ:(ys.map (·.1)).Nodup:=(hys.map (·.1)).nodup_iff.mpr nd;rw[<- e1,<- e2,mJ,fO (by simpa using hi),mJ,fO (by simpa using hj)] at e3;exact(rR VZ).mp e3
 .rw[lm] at hq u;obtain⟨c,hc⟩:=sortedHeap_at (h:=h1.push (seqObj "list" (ys.map λz=>Value.ref z.2).toArray 0)) (a:=h1.objs.size) (vs:=ys.map λz=>Value.ref z.2) (n:=0) (out:=List.toArray (q.toList.map λi=>(ys.map λz=>Value.ref z.2).getD i Value.none)) gN;refine aL ⟨_,rfl,h h1.objs.size _ dd TR c _ (q.toList.map λi=>(ys.map (·.1)).getD i (0,none)) (jK BD) (λb x e=>?_) hc ?_ (λk=>?_) ?_ (by rw[av,cX,hq.sz,hyl])⟩
  .have hb:=aK (k1 b x e);rw[sortedHeap_old (aQ hb) (by rw[size_push'];exact jo hb)];exact c9 _ (k1 b x e)
  .have all:∀i∈q.toList,i<ys.length:=λi hi=>fX.mp (hq.pm.mem_iff.mp hi);clear u hc hq;generalize q.toList=l at all;induction l with
   | nil=>exact .nil
   | cons i l ih =>
    have hi:=all i (by simp);refine .cons ?_ (ih λj hj=>all j (by simp[hj]));obtain⟨e1,m1⟩:=NO i hi;refine⟨(ys.getD i ((0,none),0)).2,?_,?_⟩
    .show(List.map (λz=>Value.ref z.snd) ys).getD i Value.none=_;rw[mJ,bw,mJ,fO hi];rfl
    .show((ys.map (·.1)).getD i (0,none),_)∈zs;rw[e1];exact hys.mem_iff.mp m1
  .have:=(hq.pm.map λi=>(ys.map (·.1)).getD i (0,none)).mem_iff (a:=k);rw[this];have e:=range_getD (ys.map (·.1)) ((0,none):bP);rw[av] at e;rw[e];exact(hys.map (·.1)).mem_iff
  .rw[lg];intro i j hi hj hij;rw[av,cX,hq.sz] at hi hj;have:=u i j hij hj;unfold SN.kv at this;rw[rS,rS];have g:∀i(hi:i<q.toList.length),q.toList[i]=q.getD i 0:=λi hi=>by rw[Array.getD_eq_getD_getElem?,<- fS,fO hi];rfl
   rw[g,g];exact this
end
end HM
namespace SN
open PySem PySem.W PySem.Spec PyProof.Rows
section
variable {prog:Program}{w:World}{A:Around}{E:Value->Shared->Prop}{s:Shared}
end
end SN
namespace L2
open PySem PySem.Spec PyProof.Rows
variable {H H':Hp}{k:HM.bP}{v x:V}{P:Program}{w:World}{l d:Addr}{kvs:f6}{xs:List (HM.bP×Addr×Value)}{s:Shared}{ep:Nat}
def eY(H:Hp):HM.fz->V->Prop
 | none,v=>v=.str "mark"
 | some p,v=>∃a,v=.ref a/\H a=some (.tup [.int p.1,.int p.2])
def bq(H:Hp)(v:V)(k:HM.bP):Prop:=∃a u,v=.ref a/\H a=some (.tup [.int k.1,u])/\eY H k.2 u
abbrev bY(H:Hp):List V->List HM.bP->Prop:=Paired (bq H)
def eY.same{k:HM.fz}(h:eY H k v)(s:aB H H'):eY H' k v:=by
 cases k with
 | none=>exact h
 | some p=>obtain⟨a,e,q⟩:=h;exact⟨a,e,s _ _ q⟩
theorem bq.same(h:bq H v k)(s:aB H H'):bq H' v k:=let⟨a,u,e,q,t⟩:=h;⟨a,u,e,s _ _ q,t.same s⟩
theorem bY.same{vs:List V}{ks:List HM.bP}(h:bY H vs ks)(s:aB H H'):bY H' vs ks:=Paired.Ez h λ_ _ x=>x.same s
def adr:V->Addr
 | .ref a=>a
 | _=>0
theorem bq.adr(h:bq H v k):v=.ref (L2.adr v):=by obtain⟨a,u,rfl,_⟩:=h;rfl
section
variable {X:Cx}{pins:List (Addr×Obj)}{σ:St}{H:Hp}{s:Shared}{Q:VK}
def Inv.thg(I:Inv X pins σ H s){k:HM.fz}{u:Value}(h:eY H k v)(r:RelV v u):HM.gA s.heap k u:=by
 cases k with
 | none =>
  have h:v=.str "mark" := h;subst h;exact r
 | some p =>
  obtain⟨a,rfl,q⟩:=h;cases r;obtain⟨o,n,t,u,h1,h2,h3⟩:=I.pair q;exact⟨a,o,n,t,u,rfl,h1,h2,h3⟩
def Inv.hrm(I:Inv X pins σ H s){a:Addr}(h:bq H (.ref a) k):HM.b8 s.heap k a:=by
 obtain⟨a',u,e,q,t⟩:=h;cases e;obtain⟨_,its,r,o,h1,h2,n,h3⟩:=(show cZ X.prog X.w H s.heap a (.tup [.int k.1,u]) from I.hok a _ q);cases r with
 | cons r1 r =>
  cases r with
  | cons r2 r =>
   cases r;obtain⟨t1,rfl⟩:=r1;exact⟨o,n,t1,_,h1,h2,h3,I.thg t r2⟩
def sO(P:Program)(w:World)(p:Addr)(zs:List (HM.bP×Addr)):Heap->Prop:=λh=>HM.wZ P w (!SG.cC w) h p zs
def NP(K:aD)(P:Program)(w:World):List V->Hp->VK->Prop:=λxs H Q=>∃(l:Addr)(vs:List V)(ks:List HM.bP),xs=[.ref l]/\bE K H l vs/\bY H vs ks/\ks.length<=4 /\
 ∀p H' zs,fh H p (.ext (sO P w p zs)) H'->(∀z∈zs,bq H (.ref z.2) z.1)->(∀k,k∈zs.map (·.1)↔k∈ks)->Q (.ref p) H'
def Fq(hu:X.A.units+64<cLine)(hc:X.calm=true):dj X (.type "set") (NP X.K X.prog X.w):=by
 intro pins s σ H xs us Q I r h;obtain⟨l,vs,ks,rfl,hl,hk,h4,q⟩:=h;obtain⟨u,rfl,ru⟩:=vals1 r;cases ru;obtain⟨its,rv,⟨ol,n0,e1,e2,e3,e4⟩,_⟩:=I.list hl;have Yi:s.heap.IsList l its.toArray:=⟨ol,e1,e2,n0,e4⟩;have zf:vs.length=ks.length:=hk.length;have hsz:its.toArray.size=ks.length:=by have:=rv.length;rw[aV];omega
 have hat:∀i,i<ks.length->bq H (.ref (adr (vs.getD i (.int 0)))) (ks.getD i (0,none))/\vs[i]?=some (.ref (adr (vs.getD i (.int 0)))):=λi hi=>by
  have hi':i<vs.length:=by omega
  obtain⟨k,hk1,hk2⟩:=lH hk (i:=i) (x:=vs[i]) (fO hi');have e1:vs.getD i (.int 0)=vs[i]:=by rw[mJ,fO hi'];rfl
  have e2:ks.getD i (0,none)=k:=by rw[mJ,hk1];rfl
  rw[e1,e2,<- hk2.adr];exact⟨hk2,fO hi'⟩
 refine HM.Iu (val:=λi=>(ks.getD i (0,none),adr (vs.getD i (.int 0)))) (by omega) (I.ok.hd hc) Yi (λi v hv=>?_) (by omega) λh' tk hS hkp=>?_
 .have hi:i<ks.length:=by have:=(mK.mp hv).1;omega
  obtain⟨a1,a2⟩:=hat i hi;obtain⟨u,hu,ru⟩:=rv.get a2;rw[k7,hu] at hv;cases hv;cases ru;exact⟨rfl,I.hrm a1⟩
 .rw[hsz] at hS;refine⟨.ref s.heap.objs.size,_,I.laid (t':=tk) (λb o e=>hkp b o (aK e) e) (az _) (o:=.ext (sO X.prog X.w s.heap.objs.size _)) ⟨hS,?_,λh1 h2 hp he=>hp.at' he⟩,rfl,q _ _ _ ⟨I.hok.fresh (az _),rfl⟩ (λz hz=>?_) λk=>?_⟩
  .obtain⟨o,_,_,_,ho,_⟩:=hS;exact⟨o,ho⟩
  .obtain⟨j,hj,rfl⟩:=HM.nZ _ _ _ hz;exact(hat j hj).1
  .rw[HM.zh];constructor
   .rintro⟨j,hj,rfl⟩;show ks.getD j (0,none)∈ks;rw[mJ,fO hj];exact jI hj
   .intro hn;obtain⟨j,hj,e5⟩:=pJ.mp hn;refine⟨j,hj,?_⟩;show k=ks.getD j (0,none);rw[mJ,fO hj,<- e5];rfl
def IA(P:Program)(w:World):List V->Hp->VK->Prop:=λxs H Q=>∃(p:Addr)(zs:List (HM.bP×Addr)),xs=[.ref p]/\H p=some (.ext (sO P w p zs))/\(∀z∈zs,bq H (.ref z.2) z.1)/\(∀z∈zs,HM.Qg z.1)/\(∀z∈zs,∀y∈zs,HM.Alike z.1 y.1) /\
 ∀q H' vs ks,fh H q (.lst vs) H'->bY H vs ks->(∀k,k∈ks↔k∈zs.map (·.1))->ks.Pairwise (λx y=>HM.pY x<HM.pY y)->Q (.ref q) H'
def BU(hu:X.A.units+64<cLine)(hc:X.calm=true):dj X (.builtin "sorted") (IA X.prog X.w):=by
 intro pins s σ H xs us Q I r h;obtain⟨p,zs,rfl,hp,hz,hok,hal,q⟩:=h;obtain⟨u,rfl,ru⟩:=vals1 r;cases ru;obtain⟨hS,_,_⟩:=I.hok p _ hp;have h4:zs.length<=4:=by obtain⟨_,_,_,_,_,_,_,_,_,_,_,h4,_⟩:=hS;exact h4
 refine HM.zj (by omega) (I.ok.hd hc) hS (λz hz'=>I.hrm (hz z hz')) hok hal λa h' d' tk c vs ks hle hk ho hP hmem HY hvl=>?_;have hV:∀{vs:List Value}{ks:List HM.bP},Paired (λv k=>∃a,v=Value.ref a/\(k,a)∈zs) vs ks->∃us:List V,Vals us vs/\bY H us ks:=by
  intro vs ks r;induction r with
  | nil=>exact⟨[],.nil,.nil⟩
  | cons h _ ih =>
   obtain⟨a,rfl,hm⟩:=h;obtain⟨us,u1,u2⟩:=ih;exact⟨.ref a::us,.cons rfl u1,.cons (hz _ hm) u2⟩
 obtain⟨us,u1,u2⟩:=hV hP;have hl:us.length<=sizeLine:=by have e1:=u1.length;rw[sizeLine_eq];omega
 exact⟨.ref a,_,(I.drw d').laid (t':=tk) hk hle (o:=.lst us) ⟨hl,vs,c,u1,ho⟩,rfl,q _ _ us ks ⟨I.hok.fresh hle,rfl⟩ u2 hmem HY⟩
def Qi{K:aD}{vs:List V}{ks:List HM.bP}(hl:bE K H l vs)(hk:bY H vs ks)(h4:ks.length<=4)(h:∀p H' zs,fh H p (.ext (sO P w p zs)) H'->(∀z∈zs,bq H (.ref z.2) z.1)->(∀k,k∈zs.map (·.1)↔k∈ks)->Q (.ref p) H'):NP K P w [.ref l] H Q:=⟨l,vs,ks,rfl,hl,hk,h4,h⟩
def LN{p:Addr}{zs:List (HM.bP×Addr)}(hp:H p=some (.ext (sO P w p zs)))(hz:∀z∈zs,bq H (.ref z.2) z.1)(hok:∀z∈zs,HM.Qg z.1)(hal:∀z∈zs,∀y∈zs,HM.Alike z.1 y.1)(h:∀q H' vs ks,fh H q (.lst vs) H'->bY H vs ks->(∀k,k∈ks↔k∈zs.map (·.1))->ks.Pairwise (λx y=>HM.pY x<HM.pY y)->Q (.ref q) H'):IA P w [.ref p] H Q:=⟨p,zs,rfl,hp,hz,hok,hal,h⟩
end
section
variable {K:aD}{H:Hp}{Q:VK}
def eY.rd{k:HM.fz}(h:eY H k x):RD K H x (HM.kX k):=by
 cases k with
 | none=>have h:x=.str "mark" := h;subst h;exact .str _
 | some p=>obtain⟨a,rfl,q⟩:=h;exact .tup (cM.of q) (.cons (.int _) (.cons (.int _) .nil))
theorem bq.rd(h:bq H x k):RD K H x (HM.uH k):=by obtain⟨a,u,rfl,q,t⟩:=h;exact .tup (cM.of q) (.cons (.int _) (.cons t.rd .nil))
def IB(k:HM.fz):Sh 1 (HM.kX k):=⟨HM.qQ k,HM.pU k⟩
def NQ{k:HM.fz}(h:eY H k x)(q:Q (.bl k.isNone) H):HF K x (.str "mark") H Q:=by refine PR (HM.kX k) (.str "mark") 1 (by decide) h.rd (.str _) (IB k) (IB none) ?_;have:=HM.wY k none;rw[show PyData.str "mark" = HM.kX none from rfl,this];cases k<;>exact q
end
abbrev f6:=List (HM.bP×Addr×V)
def kY:f6->List (HM.bP×Addr×Value)->Prop:=Paired λ(p:HM.bP×Addr×V)(q:HM.bP×Addr×Value)=>p.1=q.1/\p.2.1=q.2.1/\RelV p.2.2 q.2.2
def dO(P:Program)(w:World)(d:Addr)(ep:Nat)(kvs:f6):Heap->Prop:=λh=>kvs.length<=sizeLine/\(d==sysModules)=false/\∃xs,kY kvs xs/\∃o es,h.get? d=some o/\o.ExactDict/\o.data=.dict es ep/\es.toList=xs.map (entryOfKey (HM.eX P w))/\(xs.map (·.1)).Nodup
def cK(H:Hp)(kvs:f6):Prop:=∀x∈kvs,bq H (.ref x.2.1) x.1
theorem cK.same(h:cK H kvs)(s:aB H H'):cK H' kvs:=λx hx=>(h x hx).same s
def kI(kvs:f6)(k:HM.bP):Option V:=(kvs.find? λx=>decide (x.1=k)).map (·.2.2)
def jY(kvs:f6)(k:HM.bP)(a:Addr)(v:V):f6:=if(kI kvs k).isSome then kvs.map (λx=>if x.1=k then(x.1,x.2.1,v) else x) else kvs++[(k,a,v)]
def kY.val(r:kY kvs xs)(k:HM.bP):lz (kI kvs k) ((atKey xs k).map (·.2)):=by
 unfold kY at r;induction r with
 | nil=>exact gh
 | @cons p q ps qs h t ih =>
  unfold kI atKey at ih ⊢;rw[i6,i6,<- h.1];by_cases e:p.1=k
  .rw[decide_eq_true e];exact h.2.2
  .rw[decide_eq_false e];exact ih
def kY.put(r:kY kvs xs)(k:HM.bP){b:Addr}{y:V}{u:Value}(ry:RelV y u):kY (jY kvs k b y) (storedH xs k b u):=by
 have e:(kI kvs k).isSome=(atKey xs k).isSome:=by rw[(r.val k).iX,Option.isSome_map]
 unfold jY storedH;rw[e];by_cases q:(atKey xs k).isSome=true
 .rw[if_pos q,if_pos q];clear e q;unfold kY at r ⊢;induction r with
  | nil=>exact .nil
  | @cons p q ps qs h t ih =>
   rw[cj,cj];refine .cons ?_ ih;obtain⟨h1,h2,h3⟩:=h;unfold putAt;by_cases e:p.1=k
   .rw[if_pos e,if_pos (h1.symm.trans e)];exact⟨h1,h2,ry⟩
   .rw[if_neg e,if_neg (λz=>e (h1.trans z))];exact⟨h1,h2,h3⟩
 .rw[if_neg q,if_neg q];exact cH r ⟨rfl,rfl,ry⟩
def zk(kvs:f6)(k:HM.bP)(a:Addr)(v:V):(jY kvs k a v).length<=kvs.length+1:=by unfold jY;split<;>simp
section
variable {X:Cx}{pins:List (Addr×Obj)}{σ:St}{H:Hp}{s:Shared}{d b:Addr}{ep:Nat}{kvs:f6}{k:HM.bP}{A:Around}{E:Value->Shared->Prop}
def DH(P:Program)(w:World)(H:Hp)(d:Addr)(ep:Nat)(kvs:f6):Prop:=H d=some (.ext (dO P w d ep kvs))/\cK H kvs
def Inv.dh(I:Inv X pins σ H s)(h:DH X.prog X.w H d ep kvs):kvs.length<=sizeLine/\(d==sysModules)=false/\∃xs,kY kvs xs/\s.heap.DictOfH (HM.eX X.prog X.w) d xs:=by
 obtain⟨⟨z,hd,xs,rel,o,es,h1,h2,h3,h4,h5⟩,_,_⟩:=I.hok d _ h.1;refine⟨z,hd,xs,rel,o,es,ep,h1,h2,h3,h4,λx hx=>?_,h5⟩;have all:∀{kvs:f6}{xs:List (HM.bP×Addr×Value)},kY kvs xs->cK H kvs->∀x∈xs,HM.b8 s.heap x.1 x.2.1:=by
  intro kvs xs r;unfold kY at r;induction r with
  | nil=>intro _ x hx;exact nomatch hx
  | @cons p q ps qs hq t ih =>
   intro hk x hx;rcases aI.mp hx with e|hx
   .subst e;have:=I.hrm (hk p (by simp));rw[hq.1,hq.2.1] at this;exact this
   .exact ih (λy hy=>hk y (by simp[hy])) x hx
 exact all rel h.2 x hx
def Ds(hu:A.units+64<cLine):(HM.eX X.prog X.w).room A.in1:=by show A.in1.units+2<cLine;simp only[Around.in1];omega
def sP{Q:Value->Shared->Prop}(hu:A.units+64<cLine)(I:Inv X pins σ H s)(h:DH X.prog X.w H d ep kvs)(hb:bq H (.ref b) k)(hv:kI kvs k=some v)(q:∀w' s',Inv X pins σ H s'->RelV v w'->Q w' s'):
  wpAny (model X.prog X.w) A (getItem (.ref d) (.ref b)) Q E s:=by obtain⟨z,hd,xs,rel,dd⟩:=I.dh h;obtain⟨w',hw,rw'⟩:=lz.some_of (v:=v) (o:=(atKey xs k).map (·.2)) (by rw[<- hv];exact rel.val k);obtain⟨p,hp,hp2⟩:=di.mp hw;refine wpAny_getItem_heap (Ds hu) (I.hrm hb) dd hp ?_;rw[hp2];exact q w' _ (I.tok _) rw'
def BV{h':Heap}{kvs:f6}(z:kvs.length<=sizeLine)(hd:(d==sysModules)=false)(rel:kY kvs xs)(dd:h'.DictOfH (HM.eX X.prog X.w) d xs):∃ep,∀{H':Hp},cZ X.prog X.w H' h' d (.ext (dO X.prog X.w d ep kvs)):=by obtain⟨o,es,ep,h1,h2,h3,h4,_,h5⟩:=dd;refine⟨ep,λ{H'}=>⟨⟨z,hd,xs,rel,o,es,h1,h2,h3,h4,h5⟩,⟨o,h1⟩,λg1 g2 hp he=>?_⟩⟩;obtain⟨z,hd,xs,rel,o,es,h1,h2⟩:=hp;exact⟨z,hd,xs,rel,o,es,he _ h1,h2⟩
def sQ{r:Value}{Q:Unit->Shared->Prop}(hu:A.units+64<cLine)(I:Inv X pins σ H s)(h:DH X.prog X.w H d ep kvs)(hb:bq H (.ref b) k)(hl:kvs.length<sizeLine)(rv:RelV v r)
  (q:∀qk s',Inv X pins σ (upd H d (.ext (dO X.prog X.w d qk (jY kvs k b v)))) s'->Q () s'):wpAny (model X.prog X.w) A (setItem (.ref d) (.ref b) r) Q E s:=by
 obtain⟨z,hd,xs,rel,dd⟩:=I.dh h;have hz:xs.length<=sizeLine:=by rw[<- g9 rel];exact z
 have hl2:(jY kvs k b v).length<=sizeLine:=by have:=zk kvs k b v;omega
 refine wpAny_setItem_heap (hsz:=hz) (Ds hu) (I.hrm hb) dd λh' Rw hs=>?_;obtain⟨qk,ho'⟩:=BV (X:=X) hl2 hd (rel.put k rv) Rw;refine q qk _ ?_;have ho:=ho' (H':=upd H d (.ext (dO X.prog X.w d qk (jY kvs k b v))));exact wL I (by rw[h.1];exact gh) hs ho.2.1 ho
end
def IC(P:Program)(w:World):R2:=λx y H Q=>∃d b ep kvs k v,x=.ref d/\y=.ref b/\DH P w H d ep kvs/\bq H (.ref b) k/\kI kvs k=some v/\Q v H
def ID(P:Program)(w:World)(v x y:V)(H:Hp)(R:Hp->Prop):Prop:=∃d b ep kvs k,x=.ref d/\y=.ref b/\DH P w H d ep kvs/\bq H (.ref b) k/\kvs.length<=1000000/\∀qk H',pC H d (.ext (dO P w d qk (jY kvs k b v))) H'->R H'
def IE(P:Program)(w:World)(td ty tv:TE):TS:=λD σ H=>tv σ H λv H1=>td σ H1 λx H2=>ty σ H2 λy H3=>ID P w v x y H3 λH4=>D.nx σ H4
def IF(P:Program)(w:World)(td ty tv:TE)(rd:V->V->Hp->VK->Prop):TS:=λD σ H=>td σ H λx H1=>ty σ H1 λy H2=>IC P w x y H2 λv H3=>tv σ H3 λy2 H4=>rd v y2 H4 λz H5=>ID P w z x y H5 λH6=>D.nx σ H6
def IG(P:Program)(w:World):TE:=λ_ H Q=>∀p ep H',fh H p (.ext (dO P w p ep [])) H'->Q (.ref p) H'
section
variable {X:Cx}{o i e value:Expr}{pos pos' tpos:Pos}{td ty tv:TE}
def zl:PE X (.Dict [] [] pos) (IG X.prog X.w):=λpins s σ H Q I h =>
 let⟨ep,ho⟩:=BV (X:=X) (kvs:=[]) (aH _) (beq_eq_false_iff_ne.mpr (bA (aQ I.big))) .nil (Heap.DictOfH.new s.heap)
 wpAny_Dict_empty ⟨.ref s.heap.objs.size,_,I.laid (a:=s.heap.objs.size) (o:=.ext (dO X.prog X.w s.heap.objs.size ep [])) (t':=s.toks) (λ_ _ q=>c9 _ q) (az _) ho,rfl,h _ ep _ ⟨I.hok.fresh (az _),rfl⟩⟩
def Inv.dhT{pins:List (Addr×Obj)}{σ:St}(I:Inv X pins σ H s)(h:DH X.prog X.w H d ep kvs):s.TypeIs (.ref d) "dict" := by obtain⟨_,_,_,_,dd⟩:=I.dh h;exact dd.typeIs
def jZ(hu:X.A.units+64<cLine)(ho:PE X o td)(hi:PE X i ty)(hs:G8 i):PE X (.Subscript o i pos) (OX (IC X.prog X.w) td ty):=by intro pins s σ H Q I h;refine wM PySem.F.slot_dict_getitem.lookup hs (cT (ho pins s σ H _ I h) λu s1 zq=>?_);obtain⟨x,H1,I1,rx,q1⟩:=zq;refine cT (hi pins s1 σ H1 _ I1 q1) λiv s2 zq=>?_;obtain⟨y,H2,I2,ry,d,b,ep,kvs,k,v,ex,ey,hd,hb,hv,q2⟩:=zq;subst ex ey;obtain rfl:u=Value.ref d:=rx;obtain rfl:iv=Value.ref b:=ry;exact⟨I2.dhT hd,sP hu I2 hd hb hv λw' s3 I3 rw'=>⟨v,H2,I3,rw',q2⟩⟩
def zm(hu:X.A.units+64<cLine)(ho:PE X o td)(hi:PE X i ty)(hv:PE X value tv)(hs:swapsWith value (some (.Subscript o i pos')) pos.line X.env=pure false):
  PS X (.Assign [.Subscript o i pos'] value pos) (IE X.prog X.w td ty tv):=by intro pins s σ H D I h;refine wpAny_Assign_Subscript (cT (hv pins s σ H _ I h) λr s1 zq=>?_) hs;obtain⟨v,H1,I1,rv,q1⟩:=zq;refine cT (ho pins s1 σ H1 _ I1 q1) λu s2 zq=>?_;obtain⟨x,H2,I2,rx,q2⟩:=zq;refine cT (hi pins s2 σ H2 _ I2 q2) λiv s3 zq=>?_;obtain⟨y,H3,I3,ry,d,b,ep,kvs,k,ex,ey,hd,hb,hl,q3⟩:=zq;subst ex ey;obtain rfl:u=Value.ref d:=rx;obtain rfl:iv=Value.ref b:=ry;exact sQ hu I3 hd hb (by rw[sizeLine_eq];omega) rv λqk s4 I4=>⟨σ,_,I4,q3 qk _ rfl⟩
def II{op:Operator}{rd:V->V->Hp->VK->Prop}(hu:X.A.units+64<cLine)(ho:PE X o td)(hi:PE X i ty)(hv:PE X value tv)(hop:Sm X op rd)
  (ha:∀ov iv new,augStore i ov iv new=(do holding [new,ov,iv] (setItem ov iv new);release [new,ov,iv] [];pure .next)):PS X (.AugAssign (.Subscript o i tpos) op value pos) (IF X.prog X.w td ty tv rd):=by intro pins s σ H D I h;refine wpAny_AugAssign_SubscriptAny (cT (ho pins s σ H _ I h) λu s1 zq=>?_) ha;obtain⟨x,H1,I1,rx,q1⟩:=zq;refine cT (hi pins s1 σ H1 _ I1 q1) λiv s2 zq=>?_;obtain⟨y,H2,I2,ry,d,b,ep,kvs,k,v,ex,ey,hd,hb,hvl,q2⟩:=zq;subst ex ey;obtain rfl:u=Value.ref d:=rx;obtain rfl:iv=Value.ref b:=ry;refine sP hu I2 hd hb hvl λw' s3 I3 rw'=>cT (hv pins s3 σ H2 _ I3 q2) λw2 s4 zq=>?_;obtain⟨y2,H3,I4,ry2,q3⟩:=zq;refine cT (hop pins s4 σ H3 v y2 w' w2 _ I4 rw' ry2 q3) λw3 s5 zq=>?_;obtain⟨z,H4,I5,rz,d5,b5,ep5,acQ,k5,ex5,ey5,V0,hb5,hl5,q4⟩:=zq;cases ex5;cases ey5;exact sQ hu I5 V0 hb5 (by rw[sizeLine_eq];omega) rz λqk s6 I6=>⟨σ,_,I6,q4 qk _ rfl⟩
end
def IJ(P:Program)(w:World)(d:Addr)(ep:Nat)(kvs:f6):It :=
 ⟨λi H=>H d=some (.ext (dO P w d ep kvs))/\i<kvs.length,λi H x H'=>H'=H/\∃e,kvs[i]?=some e/\x=.ref e.2.1,λi H=>H d=some (.ext (dO P w d ep kvs))/\i=kvs.length⟩
def Inv.raw{X:Cx}{pins:List (Addr×Obj)}{σ:St}(I:Inv X pins σ H s)(h:H d=some (.ext (dO X.prog X.w d ep kvs))):
  (d==sysModules)=false/\kvs.length<=sizeLine/\∃es:Array DictEntry,SN.jn s.heap d es ep/\es.size=kvs.length/\∀(i:Nat) e,kvs[i]?=some e->∃u,es[i]?=some u/\u.key=.ref e.2.1/\RelV e.2.2 u.val:=by
 obtain⟨⟨z,hd,xs,rel,o,es,h1,h2,h3,h4,h5⟩,_,_⟩:=I.hok d _ h;have hl:xs.length=kvs.length:=(g9 rel).symm;have hs:es.size=xs.length:=by rw[<- cX,h4,av]
 refine⟨hd,z,es,⟨o,h1,h2,h3⟩,by omega,λi e he=>?_⟩;obtain⟨x,hx,r1,r2,r3⟩:=lH rel he;refine⟨entryOfKey (HM.eX X.prog X.w) x,?_,?_,?_⟩
 .rw[<- fS,h4,bw,hx];rfl
 .show Value.ref x.2.1=_;rw[r2]
 .exact r3
def BW{K:aD}{tg:Expr}(d it:Addr)(ep:Nat)(kvs:f6):Turn P w K tg (IJ P w d ep kvs) [it] it (λi h=>h.IsKeyIter it d i kvs.length ep) where
 mem:=by simp
 obj:=λi h st b hb=>by
  have e:b=it:=by simpa using hb
  subst e;obtain⟨o,e,c,dd⟩:=st;exact⟨o,e,λv z=>by rw[dd] at z;cases z⟩
 keep:=λi h h' st k=>st.at λo e=>k it (by simp) o e
 item:=by intro X hP hw hK hc i pins s σ H E I hf st hg;subst hP hw hK;obtain⟨hd,hi⟩:=hg;obtain⟨_,_,es,rd,hs,hat⟩:=I.raw hd;obtain⟨f0,f1,f2,f3,f4,f5⟩:=hf it (by simp);have he:kvs[i]?=some kvs[i]:=fO hi;obtain⟨u,hu,hk,_⟩:=hat i _ he;rw[<- hs] at st;refine SN.yW st rd hu λh' st' sb=>?_;have I1:Inv X pins σ H { s with heap:=h' }:=I.turned (t':=s.toks) (λb o hb e=>(sb.2 b hb).trans e) f0 f1 f3 f4 f5;rw[hs] at st';obtain⟨o,e,c,dd⟩:=id st';exact⟨u.key,rfl,CD (s:={ s with heap:=h' }) e c dd (by decide) ⟨.ref kvs[i].2.1,H,I1,hk,⟨rfl,_,he,rfl⟩,st',λb hb=>(hf b hb).1⟩⟩
 done:=by intro X hP hw hK hc i pins s σ H E I hf st hg;subst hP hw hK;obtain⟨hd,hi⟩:=hg;obtain⟨_,_,es,rd,hs,hat⟩:=I.raw hd;obtain⟨f0,f1,f2,f3,f4,f5⟩:=hf it (by simp);subst hi;rw[<- hs] at st;exact SN.Di (I.ok.hd hc) st rd λh' eb=>⟨rfl,I.turned (t':=s.toks) (λb o hb e=>eb b o hb e) f0 f1 f3 f4 f5⟩
 self:=λ_ _ _ _ _ st h=>wpAny_pyIter_keyiter st h
def Qj(P:Program)(w:World)(R:It->Hp->Prop):V->Hp->Prop:=λx H=>∃d ep kvs,x=.ref d/\H d=some (.ext (dO P w d ep kvs))/\R (IJ P w d ep kvs) H
def IK(P:Program)(w:World)(tl:TE):TI:=λσ H R=>tl σ H (Qj P w R)
section
variable {X:Cx}{tg:Expr}
def oh{l:Expr}{tl:TE}(hl:PE X l tl):PI X tg l (IK X.prog X.w tl):=by
 intro pins s σ H R I h;refine cT (hl pins s σ H _ I h) λv s1 zq=>?_;obtain⟨x,H1,I1,r1,q1⟩:=zq;obtain⟨d,ep,kvs,e,hd,q⟩:=q1;subst e;cases r1;obtain⟨lo,_,es,rd,hs,hat⟩:=I1.raw hd;refine SN.yV lo rd ?_;refine⟨s1.heap.objs.size,[s1.heap.objs.size],_,_,H1,rfl,I1.kept (t':=s1.toks) λb o e=>c9 _ e,BW d _ ep kvs,⟨_,iE _ rfl,rfl,by rw[<- hs];rfl⟩,λb hb=>?_,q⟩;have e:b=s1.heap.objs.size:=by simpa using hb
 subst e;exact I1.nJ (az _) (I1.hok.fresh (az _))
end
section
variable {K:aD}{nx bk ct:St->Hp->Prop}{rt:VK}{σ:St}{H:Hp}{Q:VK}{te:TE}{P:Program}{w:World}
def T3{tl:TE}{R:It->Hp->Prop}(h:tl σ H (Qj P w R)):IK P w tl σ H R:=h
def aa4{R:It->Hp->Prop}(hd:H d=some (.ext (dO P w d ep kvs)))(h:R (IJ P w d ep kvs) H):Qj P w R (.ref d) H:=⟨d,ep,kvs,rfl,hd,h⟩
def LO{g:TG}{tb:TS}(Pv:Nat->St->Hp->Prop)(h0:Pv 0 σ H)(hl:∀i σ H,i<=kvs.length->Pv i σ H->H d=some (.ext (dO P w d ep kvs)))
  (hs:∀i e σ H,kvs[i]?=some e->Pv i σ H->g (.ref e.2.1) σ H λσ2 H2=>tb ⟨Pv (i+1),rt,nx,Pv (i+1)⟩ σ2 H2)(hd:∀σ H,Pv kvs.length σ H->nx σ H):Pr (IJ P w d ep kvs) g tb nx rt σ H :=
 ⟨λi m σ H=>m=kvs.length-i/\i<=kvs.length/\Pv i σ H,⟨kvs.length,by omega,by omega,h0⟩,λi m σ' H' ⟨e,hi,p⟩=>by
  rcases aY i kvs.length with hlt|hge
  .refine .inr ⟨⟨hl i _ _ hi p,hlt⟩,Pv (i+1),λσ2 H2 q=>⟨kvs.length-(i+1),by omega,rfl,hlt,q⟩,?_⟩;rintro x H2 ⟨rfl,e,he,rfl⟩;exact hs i e σ' _ he p
  .have e:i=kvs.length:=by omega
   subst e;exact .inl ⟨⟨hl _ _ _ hi p,rfl⟩,hd _ _ p⟩⟩
def w4{tt:TT}{τ:St}(Pv:Nat->List V->Hp->Prop)(h0:Pv 0 [] H)(hl:∀i ys H,i<=kvs.length->Pv i ys H->H d=some (.ext (dO P w d ep kvs)))
  (hs:∀i e ys H,kvs[i]?=some e->Pv i ys H->ys.length<sizeLine/\tt (some (.ref e.2.1)::τ) H λb H3=>if b=true then te (some (.ref e.2.1)::τ) H3 λy H4=>Pv (i+1) (ys++[y]) H4 else Pv (i+1) ys H3)
  (hd:∀ys H,Pv kvs.length ys H->∀p H',fh H p (.lst ys) H'->Q (.ref p) H'):Bs (IJ P w d ep kvs) tt te τ Q H:=by
 refine⟨λi m ys H=>m=kvs.length-i/\i<=kvs.length/\Pv i ys H,⟨kvs.length,by simp,aH _,h0⟩,?_⟩;rintro i m ys H ⟨rfl,hi,p⟩;have q:=hl i ys H hi p;by_cases hlt:i<kvs.length
 .have hx:kvs[i]?=some kvs[i]:=by simp[hlt]
  obtain⟨hz,q'⟩:=hs i _ ys H hx p;refine .inr ⟨⟨q,hlt⟩,hz,Pv (i+1),λσ' H' p'=>⟨kvs.length-(i+1),by omega,rfl,hlt,p'⟩,λx H' y=>?_⟩;obtain⟨e,e2,he,y⟩:=y;subst e y;rw[hx] at he;cases he;exact q'
 .have e:i=kvs.length:=by omega
  subst e;exact .inl ⟨⟨q,rfl⟩,λr hr=>hd ys H p r _ ⟨hr,rfl⟩⟩
end
def jN(ks:Nat->HM.bP×Addr)(vs:Nat->V):Nat->f6
 | 0=>[]
 | n+1=>jY (jN ks vs n) (ks n).1 (ks n).2 (vs n)
theorem sR(ks:Nat->HM.bP×Addr)(vs:Nat->V):∀n,(jN ks vs n).length<=n
 | 0=>az _
 | n+1=>by have h1:=sR ks vs n;have h2:=zk (jN ks vs n) (ks n).1 (ks n).2 (vs n);show(jY (jN ks vs n) (ks n).1 (ks n).2 (vs n)).length<=n+1;omega
def Ft(h:k∉kvs.map (·.1)):kI kvs k=none:=by unfold kI;rw[List.find?_eq_none.mpr λx hx e=>h (aF.mpr ⟨x,hx,by simpa using e⟩)];rfl
def sS{a:Addr}(h:k∉kvs.map (·.1)):jY kvs k a v=kvs++[(k,a,v)]:=by unfold jY;rw[Ft h];rfl
theorem vz{ks:Nat->HM.bP×Addr}{vs:Nat->V}:∀{n:Nat},(∀i j,i<j->j<n->(ks i).1≠(ks j).1)->jN ks vs n=(List.range n).map λi=>((ks i).1,(ks i).2,vs i)
 | 0,_=>rfl
 | n+1,h=>by
  have ih:=vz (ks:=ks) (vs:=vs) (n:=n) λi j hi hj=>h i j hi (by omega);show jY (jN ks vs n) (ks n).1 (ks n).2 (vs n)=_;rw[ih,sS,m9,bF]
  .rfl
  .intro hm;obtain⟨x,hx,e⟩:=aF.mp hm;obtain⟨i,hi,rfl⟩:=aF.mp hx;exact h i n (fX.mp hi) (by omega) e
section
variable {prog:Program}{w:World}{A:Around}
def Dt{h h':Heap}{it:Addr}(dd:h.DictOfH (HM.eX prog w) d xs)(hd:d≠it)(hi:∀o vs n,h.get? it=some o->o.data≠.seq vs n)(k:∀b o,b≠it->h.get? b=some o->h'.get? b=some o):h'.DictOfH (HM.eX prog w) d xs:=by obtain⟨o,es,ep,h1,h2,h3,h4,h5,h6⟩:=dd;refine⟨o,es,ep,k d o hd h1,h2,h3,h4,λx hx=>?_,h6⟩;exact HM.b8.stay (h5 x hx) λb o vs n _ ds e=>k b o (λz=>by subst z;exact hi o vs n e ds) e
def zo{R:Result->Shared->Prop}{s0:Shared}{it:Addr}{its:Array Value}{n:Nat}{ks:Nat->HM.bP×Addr}{vs:Nat->V}(hu:A.units+10<cLine)(hd:d≠it)(hdl:d≠l)(hli:l≠it)(hh:A.in1.handled=none)(hn:n<=sizeLine)(hsz:its.size=n)
  (hni:∀o vs n,s0.heap.get? it=some o->o.data≠.seq vs n)(hnd:∀o vs n,s0.heap.get? d=some o->o.data≠.seq vs n)
  (hp:∀i,i<n->∃(T:Addr)(v:Value)(o:Obj)(c:Nat),its[i]?=some (.ref T)/\s0.heap.get? T=some o/\o.cls=.type "tuple" /\ o.data=.seq #[.ref (ks i).2,v] c/\T≠it/\T≠d/\HM.b8 s0.heap (ks i).1 (ks i).2/\RelV (vs i) v)
  (hl:s0.heap.IsList l its)
  (hR:∀h' tk rs,(∀b o,b≠it->b≠d->s0.heap.get? b=some o->h'.get? b=some o)->h'.DictOfH (HM.eX prog w) d rs->kY (jN ks vs n) rs->R (.ok (.ret .none)) { s0 with heap:=h',toks:=tk }):
  ∀(k i:Nat)(h:Heap)(t:Nat)(rs:List (HM.bP×Addr×Value))(c:Tok),n-i=k->i<=n->(∀b o,b≠it->b≠d->s0.heap.get? b=some o->h.get? b=some o)->h.IsListIter it l i->h.DictOfH (HM.eX prog w) d rs->kY (jN ks vs i) rs ->
   codeAny (model prog w) A (.builtin "dict.update.loop" ⟨[.ref d,.ref it,.int i c,.none],[]⟩) R { s0 with heap:=h,toks:=t }:=by
 have lst:∀h:Heap,(∀b o,b≠it->b≠d->s0.heap.get? b=some o->h.get? b=some o)->h.IsList l its:=λh kp=>let⟨o,q,r⟩:=hl;⟨o,kp l o hli (bA hdl) q,r⟩;have itd:∀{h:Heap}{i:Nat},h.IsListIter it l i->∀o vs n,h.get? it=some o->o.data≠.seq vs n:=λhit o vs n e z=>by obtain⟨o',e',_,d'⟩:=hit;rw[e] at e';cases e';rw[d'] at z;cases z
 intro k;induction k with
 | zero =>
  intro i h t rs c hk hi kp hit dd rel;have e:i=n:=by omega
  subst e;refine codeAny_builtin F.dR ?_;rw[iw F.bC _];show wpAny _ A.in1 (pyNext (.ref it) >>= _) _ _ _;refine aq (wpAny_pyNext_list_end (s:={ s0 with heap:=h,toks:=t }) hh hit (lst h kp) (qj (by omega)) λh' k'=>?_);show wpAny _ A.in1 (Builtin.Dict.addKeywords d [] >>= _) _ _ _;refine aq (aL (aL ?_));exact hR h' t rs (λb o b1 b2 q=>k' b o b1 (kp b o b1 b2 q)) (Dt dd hd (itd hit) λb o b1 q=>k' b o b1 q) rel
 | succ k ih =>
  intro i h t rs c hk hi kp hit dd rel;have hlt:i<n:=by omega
  obtain⟨T,v,o,cc,hx,hT,X6,X7,n1,n2,hk0,rv⟩:=hp i hlt;refine codeAny_builtin F.dR ?_;rw[iw F.bC _];show wpAny _ A.in1 (pyNext (.ref it) >>= _) _ _ _;refine aq (wpAny_pyNext_list_item (s:={ s0 with heap:=h,toks:=t }) hit (lst h kp) hx λh1 PN NJ=>?_);have k1:∀b o,b≠it->h.get? b=some o->h1.get? b=some o:=λb o b1 q=>NJ.extBut b o b1 q;have ht:h1.get? T=some o:=k1 T o n1 (kp T o n1 n2 hT);have d1:h1.DictOfH (HM.eX prog w) d rs:=Dt dd hd (itd hit) k1;have hk1:HM.b8 h1 (ks i).1 (ks i).2:=HM.b8.stay hk0 λb o vs n _ ds e=>by
   have b1:b≠it:=λz=>by subst z;exact hni o vs n e ds
   have b2:b≠d:=λz=>by subst z;exact hnd o vs n e ds
   exact k1 b o b1 (kp b o b1 b2 e)
  have TF:({ s0 with heap:=h1,toks:=t }:Shared).TypeIs (.ref T) "tuple" := ⟨_,ht,X6⟩;show wpAny _ A.in1 (holding [Value.ref T] _ >>= _) _ _ _;refine aq (wpAny_holding ?_);refine aq (wpAny_tryCatch ?_);unfold Builtin.Dict.pairItems;refine aq (wpAny_typeOf TF ?_);show wpAny _ _ (seqItems? (.ref T) >>= _) _ _ _;refine aq (wpAny_seqItems ht X7 (aL ?_));show wpAny _ _ (holding [.ref (ks i).2,v] (dictSet d (.ref (ks i).2) v)) _ _ _;refine wpAny_holding (wpAny_dictSet_heap (hsz:=?_) (by show A.in1.units+2<cLine;simp only[Around.in1];omega) hk1 d1 λh2 d2 sb=>?_)
  .refine aL ⟨plainId_quiet F.bC _,?_⟩;refine ih (i+1) h2 _ (storedH rs (ks i).1 (ks i).2 v) 0 (by omega) hlt (λb o b1 b2 q=>?_) ?_ d2 (rel.put (ks i).1 rv)
   .exact sb.extBut b o b2 (k1 b o b1 (kp b o b1 b2 q))
   .obtain⟨oi,yd,ri⟩:=PN;exact⟨oi,sb.extBut it oi (bA hd) yd,ri⟩
  .rw[<- g9 rel];exact bJ (sR ks vs i) (bJ (jK hlt) hn)
def zq{E:Value->Shared->Prop}{its:Array Value}{n:Nat}{ks:Nat->HM.bP×Addr}{vs:Nat->V}{Q:Value->Shared->Prop}(hu:A.units+20<cLine)(hx:PlainL s.heap l its)(hh:A.in1.in1.handled=none)(hn:n<=sizeLine)(hsz:its.size=n)
  (hp:∀i,i<n->∃(T:Addr)(v:Value)(o:Obj)(c:Nat),its[i]?=some (.ref T)/\s.heap.get? T=some o/\o.cls=.type "tuple" /\ o.data=.seq #[.ref (ks i).2,v] c/\HM.b8 s.heap (ks i).1 (ks i).2/\RelV (vs i) v)
  (q:∀h' tk rs,(∀b o,s.heap.get? b=some o->h'.get? b=some o)->h'.DictOfH (HM.eX prog w) s.heap.objs.size rs->kY (jN ks vs n) rs->Q (.ref s.heap.objs.size) { s with heap:=h',toks:=tk }):
  wpAny (model prog w) A (call (.type "dict") [.ref l]) Q E s:=by
 refine callType_codes (Q₁:=λx s1=>x=.ref s.heap.objs.size/\s1={ s with heap:=s.heap.push { cls:=.type "dict", data:=.dict #[] } }) F.kt_called_dict (F.kt_typeCall_dict_1 _) F.entry_dict_init (kt_code_dict_new _ ⟨rfl,rfl⟩) ?_;rintro _ _ ⟨rfl,rfl⟩;have dd:(s.heap.push { cls:=.type "dict", data:=.dict #[] }).DictOfH (HM.eX prog w) s.heap.objs.size []:=Heap.DictOfH.new s.heap;have X8:PlainL (s.heap.push { cls:=.type "dict", data:=.dict #[] }) l its:=hx.keeps λb o e=>c9 _ e;refine⟨dd.typeIs,F.args_dict_init_2 _ _,?_⟩;unfold Builtin.«dict.__init__»;refine aq ?_;unfold Builtin.Dict.selfAndRest;refine aq (wpAny_notOrdered_dict dd.typeIs ?_);refine aL (a:=(s.heap.objs.size,[Value.ref l])) ?_;show wpAny _ _ (Builtin.Dict.updateFrom "dict.__init__" s.heap.objs.size (.ref l) [] .none) _ _ _;unfold Builtin.Dict.updateFrom;obtain⟨⟨cls,dc,da,sl⟩,c,e0,e1,e2,e3⟩:=X8;simp only at e1 e2 e3;subst e1 e2 e3;refine aq (wpAny_typeOf (T := "list") ⟨_,e0,rfl⟩ ?_);rw[if_pos (by decide)];refine aq (ZP.C5 e0 hh λh1 t1 k1=>?_);show wpAny _ _ (rule _ >>= _) _ _ _;refine aq (wpAny_rule ?_);have hl1:h1.IsList l its:=⟨_,k1 _ _ e0,rfl,c,rfl⟩;refine aq (wpAny_pyIter_list (s:={ s with heap:=h1,toks:=t1 }) hl1 ?_);refine aL ⟨plainId_quiet F.bC _,?_⟩;have sz:∀b o,s.heap.get? b=some o->b≠s.heap.objs.size:=λb o e=>aQ (aK e);have k0:∀b o,s.heap.get? b=some o->h1.get? b=some o:=λb o e=>k1 b o (c9 _ e);have k2:∀b o,h1.get? b=some o->(h1.push { cls:=.type "list_iterator", data:=.fields #[.ref l,.int 0 0] }).get? b=some o:=λb o e=>c9 _ e;have Lv:∀b o,h1.get? b=some o->b≠h1.objs.size:=λb o e=>aQ (aK e);have hdo:h1.get? s.heap.objs.size=some { cls:=.type "dict", data:=.dict #[] }:=k1 _ _ (iE _ rfl);have hdi:s.heap.objs.size≠h1.objs.size:=Lv _ _ hdo;obtain⟨ol,nl,yc,_⟩:=hx;refine zo (s0:={ s with heap:=h1.push { cls:=.type "list_iterator", data:=.fields #[.ref l,.int 0 0] },toks:=t1 }) (it:=h1.objs.size) (l:=l) (d:=s.heap.objs.size) (its:=its) (n:=n) (ks:=ks) (vs:=vs) (by simp only[Around.in1];omega) hdi (bA (sz _ _ yc)) (Lv _ _ (k0 _ _ yc)) hh hn hsz (λo vs n e z=>?_) (λo vs n e z=>?_) (λi hi=>?_) (let⟨o,a,r⟩:=hl1;⟨o,k2 _ _ a,r⟩) (λh' tk rs k' d' rel=>?_) _ 0 _ t1 [] 0 rfl (aH _) (λb o _ _ e=>e) ⟨_,iE _ rfl,rfl,rfl⟩ ⟨_,#[],0,k2 _ _ hdo,⟨rfl,rfl,rfl⟩,rfl,rfl,(λx hx=>nomatch hx),kg⟩ .nil
 .have e':some ({ cls:=.type "list_iterator", data:=.fields #[.ref l,.int 0 0] }:Obj)=some o:=(iE _ rfl).symm.trans e;cases e';cases z
 .have e':=(k2 _ _ hdo).symm.trans e;cases e';cases z
 .obtain⟨T,v,o,c,a1,a2,a3,a4,a5,a6⟩:=hp i hi;exact⟨T,v,o,c,a1,k2 _ _ (k0 _ _ a2),a3,a4,Lv _ _ (k0 _ _ a2),sz _ _ a2,HM.b8.stay a5 λb o _ _ _ _ e=>k2 _ _ (k0 _ _ e),a6⟩
 .exact⟨rfl,q h' tk rs (λb o e=>k' b o (Lv _ _ (k0 _ _ e)) (sz _ _ e) (k2 _ _ (k0 _ _ e))) d' rel⟩
end
abbrev oj(H:Hp):List V->List (HM.bP×Addr×V)->Prop:=Paired λu p=>∃t,u=.ref t/\H t=some (.tup [.ref p.2.1,p.2.2])/\bq H (.ref p.2.1) p.1
def NR(K:aD)(P:Program)(w:World):List V->Hp->VK->Prop:=λvs H Q=>∃a us ps,vs=[.ref a]/\bE K H a us/\oj H us ps/\(ps.map (·.1)).Nodup/\∀p ep H',fh H p (.ext (dO P w p ep ps)) H'->Q (.ref p) H'
end L2
namespace SN
open PySem PySem.Spec PyProof.Rows
section
variable {prog:Program}{w:World}{A:Around}{E:Value->Shared->Prop}{s:Shared}
def LP{d:Addr}{es:Array DictEntry}{ep:Nat}(hd:(d==sysModules)=false):
  MeetsIn prog w (Builtin.«dict.__len__» ⟨[.ref d],[]⟩) (λ_ R s=>jn s.heap d es ep/\R (.ok (.ret (.int es.size s.toks))) { s with toks:=s.toks+1 }) :=
 .of_wp λA R s ⟨hm,h⟩=>by obtain⟨o,ho,hc,hdat⟩:=hm;show wpAny _ _ (dictSize d >>= _) _ _ s;unfold dictSize;refine aq (aq (wpAny_dictEntries ho hdat (aL ?_)));show wpAny _ _ (Builtin.Dict.pendingCount d >>= _) _ _ s;refine aq (wpAny_pendingCount_other hd ?_);refine wpAny_ret_mkInt ?_;rw[Nat.add_zero];exact h
def w5{d:Addr}{es:Array DictEntry}{ep:Nat}{Q:Value->Shared->Prop}(hd:(d==sysModules)=false)(hm:jn s.heap d es ep)(hfit:(es.size:Int)<2 ^ 63)
  (h:Q (.int es.size (s.toks+1)) { s with toks:=s.toks+1+1 }):wpAny (model prog w) A (call (.builtin "len") [.ref d]) Q E s:=by
 refine wg kind_len plain_len entry_len (args_len1 _) ?_;unfold Builtin.«len»;refine aq (m:=oneArg "len" _) (aL ?_);refine aq (m:=callSpecial? (.ref d) (Str.ofString "__len__")) (wpAny_callSpecial?_slot (name:=Str.ofString "__len__") hm.ty F.slot_dict_len
  (call_meetsIn F.slot_dict_len hm.ty F.entry_dict_len (F.args_dict_len_1 _) (LP (es:=es) (ep:=ep) hd) ⟨hm,?_⟩))
 show wpAny _ _ _ _ _ { s with toks:=s.toks+1 };refine aq (wpAny_holding (aL ?_));refine aq (wpAny_letGo ?_);show wpAny _ _ (if((es.size:Nat):Int)<0 then _ else _) _ _ _;rw[if_neg (by omega)];show wpAny _ _ (if((es.size:Nat):Int)>=2 ^ 63 then _ else _) _ _ _;rw[if_neg (by omega)];exact aq (wpAny_mkInt (aL ⟨_,rfl,h⟩))
end
end SN
namespace L2
open PySem PySem.Spec PyProof.Rows
variable {d:Addr}{ep:Nat}{kvs:f6}
section
variable {X:Cx}{K:aD}{P:Program}{w:World}{H:Hp}{Q:VK}
def NS(P:Program)(w:World):List V->Hp->VK->Prop:=λxs H Q=>∃d ep kvs,xs=[.ref d]/\H d=some (.ext (dO P w d ep kvs))/\Q (.int kvs.length) H
def vA:dj X (.builtin "len") (NS X.prog X.w):=by intro pins s σ H xs us Q I r h;obtain⟨d,ep,kvs,rfl,hd,q⟩:=h;obtain⟨u,rfl,ru⟩:=vals1 r;cases ru;obtain⟨lo,z,es,rd,hs,hat⟩:=I.raw hd;refine SN.w5 lo rd (by rw[sizeLine_eq] at z;omega) ?_;exact⟨.int kvs.length,H,I.tok _,⟨_,by rw[hs]⟩,q⟩
def Yo(hd:H d=some (.ext (dO P w d ep kvs)))(q:Q (.int kvs.length) H):NS P w [.ref d] H Q:=⟨d,ep,kvs,rfl,hd,q⟩
def T4(K:aD)(P:Program)(w:World):List V->Hp->VK->Prop:=λxs H Q=>∃d ep kvs T b,xs=[.ref d,.ty T]/\H d=some (.ext (dO P w d ep kvs))/\PySem.W.kitOne K (.type "dict") (.type T)=some b/\Q (.bl b) H
def RB:dj X (.builtin "isinstance") (T4 X.K X.prog X.w):=by
 intro pins s σ H xs us Q I r h;obtain⟨d,ep,kvs,T,b,rfl,hd,e,q⟩:=h;cases r with
 | cons r1 r =>
  cases r with
  | cons r2 r =>
   cases r;cases r1;cases r2;obtain⟨lo,z,es,⟨o,h1,h2,_⟩,hs,hat⟩:=I.raw hd;exact gf PySem.W.kitx_dict I.wA ⟨o,h1,h2.1⟩ e (λz=>nomatch z) λtk=>⟨.bl b,H,I.tok _,rfl,q⟩
def sU{H:Hp}{us:List V}{ps:f6}(h:oj H us ps){i:Nat}(hi:i<ps.length):∃t,us[i]?=some (.ref t)/\H t=some (.tup [.ref (ps.getD i ((0,none),0,.cY)).2.1,(ps.getD i ((0,none),0,.cY)).2.2])/\bq H (.ref (ps.getD i ((0,none),0,.cY)).2.1) (ps.getD i ((0,none),0,.cY)).1:=by
 have hl:=h.length;obtain⟨p,hp,t,e,h1,h2⟩:=lH h (i:=i) (x:=us[i]'(by omega)) (fO _);have ep:ps.getD i ((0,none),0,.cY)=p:=by rw[mJ,hp];rfl
 rw[ep];exact⟨t,by rw[fO (by omega),e],h1,h2⟩
def sV(hu:X.A.units+64<cLine)(hc:X.calm=true):dj X (.type "dict") (NR X.K X.prog X.w):=by
 intro pins s σ H xs us Q I r h;obtain⟨l,ul,ps,rfl,hS,hP,nd,q⟩:=h;obtain⟨u,rfl,r1⟩:=vals1 r;cases r1;obtain⟨its,rv,pl,hz⟩:=I.list hS;have e1:ul.length=ps.length:=hP.length;have hA:X.A.in1.in1.handled=none:=I.ok.hd hc;have big:@LT.lt Nat _ sysModules s.heap.objs.size:=I.big;have n6:@Ne Nat s.heap.objs.size sysModules:=by omega
 have hl:=rv.length;have eb:jN (λi=>((ps.getD i ((0,none),0,.cY)).1,(ps.getD i ((0,none),0,.cY)).2.1)) (λi=>(ps.getD i ((0,none),0,.cY)).2.2) ps.length=ps:=by
  rw[vz]
  .exact range_getD _ ps
  .intro i j hi hj e;have gi:∀k(hk:k<ps.length),ps.getD k ((0,none),0,.cY)=ps[k]:=λk hk=>by rw[mJ,fO hk];rfl
   dsimp only at e;rw[gi i (by omega),gi j hj] at e;have:=(rR nd (i:=i) (j:=j) (h₀:=by rw[av];omega) (h₁:=by rw[av];omega)).mp (by rw[rS,rS];exact e);omega
 refine zq (n:=ps.length) (ks:=λi=>((ps.getD i ((0,none),0,.cY)).1,(ps.getD i ((0,none),0,.cY)).2.1)) (vs:=λi=>(ps.getD i ((0,none),0,.cY)).2.2) (by omega) pl hA (by omega) (by rw[aV];omega) (λi hi=>?_) λh' tk rs k' d' rel=>?_
 .obtain⟨t,ht,X9,hh⟩:=sU hP hi;obtain⟨w,hw,rw'⟩:=rv.get ht;cases rw';obtain⟨its2,Yb,pt,_⟩:=I.tuple (cM.of X9);obtain⟨o,ho,hc',n,hd⟩:=pt;cases Yb with
  | cons a1 b1 =>
   cases b1 with
   | cons a2 b2 =>
    cases b2;cases a1;exact⟨t,_,o,n,by simpa using hw,ho,hc',hd,I.hrm hh,a2⟩
 .rw[eb] at rel;have I3:Inv X pins σ H { s with heap:=h',toks:=tk }:=I.kept k';have fd:iH X pins H s.heap.objs.size:=I.nJ (az _) (I.hok.fresh (az _));obtain⟨ep,ho⟩:=BV (X:=X) (by rw[<- e1];exact hz) (beq_eq_false_iff_ne.mpr n6) rel d';have I4:=I3.u0 fd (o:=.ext (dO X.prog X.w s.heap.objs.size ep ps)) ho;exact⟨.ref _,_,I4,rfl,q _ ep _ ⟨fd.1,rfl⟩⟩
def Du{a:Addr}{us:List V}{ps:f6}(hS:bE K H a us)(hP:oj H us ps)(nd:(ps.map (·.1)).Nodup)(h:∀p ep H',fh H p (.ext (dO P w p ep ps)) H'->Q (.ref p) H'):NR K P w [.ref a] H Q:=⟨a,us,ps,rfl,hS,hP,nd,h⟩
end
section
variable {K:aD}{P:Program}{w:World}{nx bk ct:St->Hp->Prop}{rt:VK}{σ:St}{H:Hp}{Q:VK}{td ty tv:TE}
def V1(h:∀p ep H',fh H p (.ext (dO P w p ep [])) H'->Q (.ref p) H'):IG P w σ H Q:=h
def om{b:Addr}{k:HM.bP}{v:V}(hd:H d=some (.ext (dO P w d ep kvs)))(hk:cK H kvs)(hb:bq H (.ref b) k)(hv:kI kvs k=some v)(h:Q v H):IC P w (.ref d) (.ref b) H Q:=⟨d,b,ep,kvs,k,v,rfl,rfl,⟨hd,hk⟩,hb,hv,h⟩
def IL{b:Addr}{k:HM.bP}{v:V}{R:Hp->Prop}(hd:H d=some (.ext (dO P w d ep kvs)))(hk:cK H kvs)(hb:bq H (.ref b) k)(hz:kvs.length<=1000000)(h:∀qk H',pC H d (.ext (dO P w d qk (jY kvs k b v))) H'->R H'):ID P w v (.ref d) (.ref b) H R:=⟨d,b,ep,kvs,k,rfl,rfl,⟨hd,hk⟩,hb,hz,h⟩
def V2(h:tv σ H λv H1=>td σ H1 λx H2=>ty σ H2 λy H3=>ID P w v x y H3 λH4=>nx σ H4):IE P w td ty tv ⟨nx,rt,bk,ct⟩ σ H:=h
def V3{rd:V->V->Hp->VK->Prop}(h:td σ H λx H1=>ty σ H1 λy H2=>IC P w x y H2 λv H3=>tv σ H3 λy2 H4=>rd v y2 H4 λz H5=>ID P w z x y H5 λH6=>nx σ H6):IF P w td ty tv rd ⟨nx,rt,bk,ct⟩ σ H:=h
end
end L2
namespace SN
open PySem PySem.Spec PyProof.Rows
variable {d:Addr}{ep:Nat}{es:Array DictEntry}
section
variable {prog:Program}{w:World}{A:Around}{E:Value->Shared->Prop}{s:Shared}
def Fv{it:Addr}{i:Nat}{e:DictEntry}{Q:Option Value->Shared->Prop}(hit:s.heap.IsValIter it d i es.size ep)(x:jn s.heap d es ep)(he:es[i]?=some e)
  (hQ:∀h',h'.IsValIter it d (i+1) es.size ep->Heap.SameBut it s.heap h'->Q (some e.val) { s with heap:=h' }):wpAny (model prog w) A (pyNext (.ref it)) Q E s:=by
 have ty:=hit.typeIs;obtain⟨o,ho,hc,hf⟩:=hit;obtain⟨od,hod,_,qq⟩:=x;unfold pyNext;refine aq (wpAny_attempt (wpAny_callSpecial?_slot (name:=Str.ofString "__next__") ty wk (wpAny_call_entry wk ty F.entry_dict_valueiterator_next ?_ (F.args_dict_valueiterator_next_1 _))));refine aq (aL (aq (aq ?_)))
 first|refine aq (wpAny_typeNameOfWhole_valiter ty (aL (aq (wpAny_fieldsOf ho hf ?_))))|refine aq (wpAny_typeNameOf_valiter ty (aL (aq (wpAny_fieldsOf ho hf ?_))))
 rw[show Builtin.Dict_items.ownsTuple "dict_valueiterator" = false by decide];simp only[bV,if_false];show wpAny _ _ (if(Value.ref d==Value.none)=true then _ else _) _ _ s;rw[if_neg (show ¬(Value.ref d==Value.none)=true from jT)];refine aq (aL (aq (wpAny_dictEntries hod qq ?_)));rw[if_neg (by simp)];refine aq (aL (aq (wpAny_dictEpoch hod qq ?_)));rw[if_neg (by simp)];refine aL ?_;simp only[show ¬((i:Int)<0) by omega,if_false,gF,he];refine aq ?_
 first|refine aq (wpAny_typeNameOfWhole_valiter ty (aL (aq (wpAny_isOneOf_valiter ty ?_))))|refine aq (wpAny_typeNameOf_valiter ty (aL (aq (wpAny_isOneOf_valiter ty ?_))))
 show wpAny _ _ (setField (.ref it) 1 (rawInt ((i:Int)+1)) >>= _) _ _ s;have yI:(s.heap.update it (Obj.mapFields (·.setIfInBounds 1 (rawInt ((i:Int)+1))))).IsValIter it d (i+1) es.size ep :=
  ⟨_,fE _ ho (iO (dG hf _)),(kh ..).trans hc,by rw[dG hf];simp[rawInt]⟩
 refine aq (wpAny_setField ho hf (by simp) (aq (wpAny_holding ?_)));refine aq (wpAny_isOneOf_valiter (s:={ s with heap:=s.heap.update it (Obj.mapFields (·.setIfInBounds 1 (rawInt ((i:Int)+1)))) }) yI.typeIs ?_);refine aq (wpAny_isOneOf_valiter (s:={ s with heap:=s.heap.update it (Obj.mapFields (·.setIfInBounds 1 (rawInt ((i:Int)+1)))) }) yI.typeIs (show wpAny _ _ (pure e.val) _ _ _ from ?_));exact aL (aL ⟨_,rfl,aL (hQ _ yI (jD ..))⟩)
def IM{it:Addr}{Q:Option Value->Shared->Prop}(hh:A.handled=none)(hit:s.heap.IsValIter it d es.size es.size ep)(x:jn s.heap d es ep)
  (hQ:∀h',Heap.ExtBut it s.heap h'->Q none { s with heap:=h' }):wpAny (model prog w) A (pyNext (.ref it)) Q E s:=by
 have ty:=hit.typeIs;obtain⟨o,ho,hc,hf⟩:=hit;obtain⟨od,hod,_,qq⟩:=x;unfold pyNext;refine aq (wpAny_attempt (wpAny_callSpecial?_slot (name:=Str.ofString "__next__") ty wk (wpAny_call_entry wk ty F.entry_dict_valueiterator_next ?_ (F.args_dict_valueiterator_next_1 _))));refine aq (aL (aq (aq ?_)))
 first|refine aq (wpAny_typeNameOfWhole_valiter ty (aL (aq (wpAny_fieldsOf ho hf ?_))))|refine aq (wpAny_typeNameOf_valiter ty (aL (aq (wpAny_fieldsOf ho hf ?_))))
 rw[show Builtin.Dict_items.ownsTuple "dict_valueiterator" = false by decide];simp only[bV,if_false];show wpAny _ _ (if(Value.ref d==Value.none)=true then _ else _) _ _ s;rw[if_neg (show ¬(Value.ref d==Value.none)=true from jT)];refine aq (aL (aq (wpAny_dictEntries hod qq ?_)));rw[if_neg (by simp)];refine aq (aL (aq (wpAny_dictEpoch hod qq ?_)));rw[if_neg (by simp)];refine aL ?_;simp only[show ¬((es.size:Int)<0) by omega,if_false,gF,qj (az es.size)];refine aq ?_
 first|refine aq (wpAny_typeNameOfWhole_valiter ty (aL ?_))|refine aq (wpAny_typeNameOf_valiter ty (aL ?_))
 show wpAny _ _ (setField (.ref it) 0 .none >>= _) _ _ s;refine aq (wpAny_setField ho hf (by simp) (show wpAny _ _ (newExc (.type "StopIteration") [] >>= _) _ _ _ from aq ?_));simp only[newExc,newTuple];refine aq (wpAny_newObj_type ?_ (by size_fits));refine aq (m:=firstArgMember _ _) (wpAny_of_eq (a:=Value.none) (by first|rfl|(simp only[firstArgMember];rfl)) (wpAny_newObj_type ?_ (by size_fits)));simp only[raiseNew];refine aq (wpAny_handled ?_);rw[show A.in1.handled=none from hh];refine aq (aL (wpAny_throw (aq ?_)));refine wpAny_isInstance (T := "StopIteration") (b:=true) ⟨_,iE _ rfl,rfl⟩ isSubtype_stop ?_;exact aL (hQ _ (((jD ..).extBut.push _).push _))
def Fw{v:Addr}{Q:Value->Shared->Prop}(hv:s.heap.IsValuesView v d)(x:jn s.heap d es ep)
  (hQ:Q (.ref s.heap.objs.size) { s with heap:=s.heap.push { cls:=.type "dict_valueiterator", data:=.fields #[.ref d,.int 0 0,.int es.size 0,.int ep 0] } }):wpAny (model prog w) A (pyIter (.ref v)) Q E s:=by
 obtain⟨ov,hov,hcv,hdv⟩:=id hv;obtain⟨o,ho,hc,hdat⟩:=id x;refine wpAny_pyIter_slot hv.typeIs F.slot_dict_values_iter (wpAny_call_entry F.slot_dict_values_iter hv.typeIs F.entry_dict_values_iter ?_ (F.args_dict_values_iter_1 _));unfold Builtin.«dict_values.__iter__»;refine aq (aL ?_);refine aq ?_;unfold Builtin.Dict_items.dictOf;refine aq (wpAny_field hov hdv (x:=.ref d) rfl (aL ?_));refine aq ?_;unfold Builtin.Dict_items.newIterator;refine aq (wpAny_dictEntries ho hdat ?_);refine aq (wpAny_dictEpoch ho hdat ?_);have hown:Builtin.Dict_items.ownsTuple "dict_valueiterator" = false:=by decide
 simp only[hown,bV,if_false];refine wpAny_newObj_type (aL ⟨_,rfl, "dict_valueiterator", _,⟨_,iE _ rfl,rfl⟩,F.slot_dict_valueiterator_next.lookup,?_⟩);simpa[rawInt] using hQ
def BX(hh:A.handled=none)(I d:Addr)(hne:d≠I)(es:Array DictEntry)(ep:Nat):Walks prog w A I [I,d] [I] es.size (λi v=>∃e,es[i]?=some e/\v=e.val) (λi h=>h.IsValIter I d i es.size ep/\jn h d es ep) where
 sub:=λb hb=>by simp at hb;simp[hb]
 frame:=λ_ _ _ st hk=>⟨st.1.at λo e=>hk I (by simp) o e,st.2.at' λo e=>hk d (by simp) o e⟩
 item:=λi s Q E hi st hQ=>by have e1:es[i]?=some es[i]:=gw hi;refine Fv st.1 st.2 e1 λh' h1 h2=>hQ _ h' s.toks ⟨_,e1,rfl⟩ ⟨h1,st.2.at' λo e=>h2.extBut d o hne e⟩ λb o hb e=>h2.extBut b o (λh=>hb (by simp[h])) e
 done:=λs Q E st hQ=>IM hh st.1 st.2 λh' h1=>hQ h' s.toks λb o hb e=>h1 b o (λh=>hb (by simp[h])) e
 self:=λ_ _ _ _ st hQ=>wpAny_pyIter_valiter st.1 hQ
def BY{v:Addr}{ep:Nat}{num:Nat->Int}{Q:Value->Shared->Prop}(hh:A.handled=none)(hv:s.heap.IsValuesView v d)(x:jn s.heap d es ep)(hne:0<es.size)(hn:∀(i:Nat)(e:DictEntry),es[i]?=some e->∃t,e.val=Value.int (num i) t)
  (h:∀u h' tk,(∃e,es[argBest (λi j=>decide (num i>num j)) (es.size-1)]?=some e/\u=e.val)->(∀b o,s.heap.get? b=some o->h'.get? b=some o)->Q u { s with heap:=h',toks:=tk }):
  wpAny (model prog w) A (call (.builtin "max") [.ref v]) Q E s:=by
 obtain⟨o,ho,r⟩:=id x;have hlt:=aK ho;refine call_max_walk (Fw hv x ?_);refine⟨_,_,_,_,_,_,_,rfl,BX (A:=A.in1) hh s.heap.objs.size d (aQ hlt) es ep,⟨⟨_,iE _ rfl,rfl,rfl⟩,x.at' λo e=>c9 _ e⟩,?_,hne,CmpOf.ints_gt num (λi u ⟨e,he,eu⟩=>by obtain⟨t,ht⟩:=hn i e he;exact⟨t,by rw[eu,ht]⟩),λu h' tk hP hk=>?_⟩
 .intro b hb;rw[fF];simp at hb;rcases hb with e|e
  .subst e;exact g8 _
  .subst e;exact jo hlt
 .exact h u h' tk hP λb o e=>hk b o (λhm=>by simp at hm;subst hm;exact absurd (aK e) (fZ _)) (c9 _ e)
end
def BZ{prog:Program}{w:World}(hd:(d==sysModules)=false):
  MeetsIn prog w (Builtin.«dict.values» ⟨[.ref d],[]⟩) (λ_ R s=>jn s.heap d es ep /\
   R (.ok (.ret (.ref s.heap.objs.size))) { s with heap:=s.heap.push { cls:=.type "dict_values", data:=.fields #[.ref d] } }) :=
 .of_wp λA R s ⟨hm,h⟩=>by refine aq ?_;unfold Builtin.Dict.noArgs;refine aq (wpAny_notOrdered_dict hm.ty ?_);show wpAny _ _ (pure d) _ _ s;refine aL ?_;show wpAny _ _ (Builtin.Dict.showsAll d >>= _) _ _ s;unfold Builtin.Dict.showsAll;rw[if_neg (by rw[hd];exact jT)];refine aq (aL ?_);exact aq (wpAny_newObj_type (aL ⟨_,rfl,h⟩))
end SN
namespace L2
open PySem PySem.Spec PyProof.Rows
variable {d:Addr}{ep:Nat}{kvs:f6}
def zu(v d:Addr):Heap->Prop:=λh=>h.IsValuesView v d
section
variable {X:Cx}{o e f:Expr}{apos cpos:Pos}{td ty tx:TE}
def T5{pins:List (Addr×Obj)}{σ:St}{H:Hp}{s:Shared}(I:Inv X pins σ H s)(h:H d=some (.ext (dO X.prog X.w d ep kvs))):
  s.TypeIs (.ref d) "dict" /\ (∀b,Value.ref d=.ref b->∃ob,s.heap.get? b=some ob/\ob.dict=none)/\(d==sysModules)=false:=by obtain⟨lo,_,es,rd,_,_⟩:=I.raw h;refine⟨rd.ty,λb q=>?_,lo⟩;cases q;obtain⟨ob,h1,h2,_⟩:=rd;exact⟨ob,h1,h2.2.1⟩
def IP(P:Program)(w:World)(Q:VK):V->Hp->Prop:=λx H=>∃d ep kvs,x=.ref d/\H d=some (.ext (dO P w d ep kvs))/\∀v H',fh H v (.ext (zu v d)) H'->Q (.ref v) H'
def NT(P:Program)(w:World)(td:TE):TE:=λσ H Q=>td σ H (IP P w Q)
def IQ(ho:PE X o td)(hbase:attributeBase o "values" X.env (eval o X.env)=eval o X.env:=by rfl)(hline:(apos.endLine==cpos.line)=true:=by rfl):PE X (.Call (.Attribute o "values" apos) [] [] cpos) (NT X.prog X.w td):=by intro pins s σ H Q I h;refine wpAny_Call_method0_late hbase hline (cT (ho pins s σ H _ I h) λu s1 zq=>?_);obtain⟨x,H1,I1,r1,d,ep,kvs,ex,hd,q1⟩:=zq;subst ex;obtain rfl:u=Value.ref d:=r1;obtain⟨t1,t2,lo⟩:=T5 I1 hd;obtain⟨_,_,es,rd,_,_⟩:=I1.raw hd;refine⟨"dict", _,PySem.F.plainAttrs_dict,PySem.F.slot_dict_values,PySem.F.type_dict_values,t1,t2,we rfl (PySem.evalArgs_none ?_)⟩;refine call_meetsIn PySem.F.slot_dict_values t1 PySem.F.entry_dict_values (PySem.F.args_dict_values_1 _) (SN.BZ (es:=es) (ep:=ep) lo) ⟨rd,?_⟩;exact⟨.ref s1.heap.objs.size,_,I1.laid (a:=s1.heap.objs.size) (o:=.ext (zu s1.heap.objs.size d)) (t':=s1.toks) (λ_ _ q=>c9 _ q) (az _) ⟨⟨_,iE _ rfl,rfl,rfl⟩,⟨_,iE _ rfl⟩,λg1 g2 ⟨ob,a1,a2⟩ he=>⟨ob,he _ a1,a2⟩⟩,rfl,q1 _ _ ⟨I1.hok.fresh (az _),rfl⟩⟩
def NU(P:Program)(w:World):List V->Hp->VK->Prop:=λxs H Q=>∃(v d:Addr)(ep:Nat)(kvs:f6)(ns:List Int),xs=[.ref v]/\H v=some (.ext (zu v d))/\H d=some (.ext (dO P w d ep kvs))/\kvs.map (·.2.2)=ns.map V.int/\ns≠[]/\∀m,m∈ns->(∀x∈ns,x<=m)->Q (.int m) H
def Fx(hc:X.calm=true):dj X (.builtin "max") (NU X.prog X.w):=by
 intro pins s σ H xs us Q I r h;obtain⟨v,d,ep,kvs,ns,rfl,hv,hd,en,hne,q⟩:=h;obtain⟨u,rfl,ru⟩:=vals1 r;cases ru;obtain⟨vv,_,_⟩:=I.hok v _ hv;obtain⟨lo,z,es,rd,hs,hat⟩:=I.raw hd;have hl:kvs.length=ns.length:=by have:=congrArg List.length en;simpa using this
 have hpos:0<es.size:=by
  rw[hs,hl];cases ns with
  | nil=>exact absurd rfl hne
  | cons=>simp
 have hn:∀(i:Nat)(e:DictEntry),es[i]?=some e->∃t,e.val=Value.int (ns.getD i 0) t:=λi e he=>by
  have hi:i<kvs.length:=by rw[<- hs];exact(mK.mp he).1
  obtain⟨u,hu,_,hr⟩:=hat i _ (fO hi);rw[he] at hu;cases hu;have e1:kvs[i].2.2=V.int (ns.getD i 0):=by
   have:(kvs.map (·.2.2))[i]?=(ns.map V.int)[i]?:=by rw[en]
   rw[bw,bw,fO hi,fO (show i<ns.length by omega)] at this;rw[mJ,fO (show i<ns.length by omega)];exact Option.some.inj this
  rw[e1] at hr;exact hr
 refine SN.BY (num:=λi=>ns.getD i 0) (I.ok.hd hc) vv rd hpos hn λu h' tk hu k=>?_;obtain⟨e,he,rfl⟩:=hu;obtain⟨b1,b2⟩:=lF (λi=>ns.getD i 0) (es.size-1);obtain⟨t,ht⟩:=hn _ _ he;rw[ht];have at_:∀i,i<ns.length->ns[i]?=some (ns.getD i 0):=λi hi=>by rw[mJ,fO hi];rfl
 refine⟨.int _,H,I.kept k,⟨_,rfl⟩,q _ (fB (at_ _ (by omega))) λx hx=>?_⟩;obtain⟨i,hi⟩:=fW.mp hx;have hil:=(fu hi).1;rw[at_ i hil] at hi;rw[<- Option.some.inj hi];exact b2 i (by omega)
end
section
variable {X:Cx}{P:Program}{w:World}{K:aD}{o i e f:Expr}{pos apos cpos:Pos}{td ty tx:TE}
def pZ(e1:X.prog=P)(e2:X.w=w)(hu:X.A.units+64<cLine)(ho:PE X o td)(hi:PE X i ty)(hs:G8 i):PE X (.Subscript o i pos) (OX (IC P w) td ty):=e1▸e2▸jZ hu ho hi hs
end
section
variable {K:aD}{P:Program}{w:World}{σ:St}{H:Hp}{Q:VK}{td ty tx:TE}
def Yp(h:td σ H (IP P w Q)):NT P w td σ H Q:=h
def V4(hd:H d=some (.ext (dO P w d ep kvs)))(h:∀v H',fh H v (.ext (zu v d)) H'->Q (.ref v) H'):IP P w Q (.ref d) H:=⟨d,ep,kvs,rfl,hd,h⟩
def Qk{v:Addr}{ns:List Int}(hv:H v=some (.ext (zu v d)))(hd:H d=some (.ext (dO P w d ep kvs)))(en:kvs.map (·.2.2)=ns.map V.int)(hne:ns≠[])(h:∀m,m∈ns->(∀x∈ns,x<=m)->Q (.int m) H):NU P w [.ref v] H Q:=⟨v,d,ep,kvs,ns,rfl,hv,hd,en,hne,h⟩
end
end L2
namespace MX
open PySem PySem.Spec PyProof.Rows
section
variable {prog:Program}{w:World}{A:Around}{R:Result->Shared->Prop}{I:Addr}{fp wr:List Addr}{n:Nat}{P:Nat->Value->Prop}{St:Nat->Heap->Prop}{kw:List (Str×Value)}
def nm:(toString "max" ++ toString ".loop" : String) = "max.loop" := by decide
def loop(W:Walks prog w A.in1 I fp wr n P St)(bt:Nat->Nat->Bool)(hcmp:CmpOf prog w A.in1 .Gt P bt)(S:Addr)(hSf:S∉fp):
  ∀(k j:Nat)(s:Shared)(vb:Value)(c:Nat),n-(j+1)=k->j+1<=n->St (j+1) s.heap->P (argBest bt j) vb ->
  s.heap.get? S=some { cls:=.type "list", dict:=none,data:=.seq #[vb,vb] c,slots:=#[] } ->
  (∀v h' tk,P (argBest bt (n-1)) v->(∀b o,b∉wr->b≠S->s.heap.get? b=some o->h'.get? b=some o)->R (.ok (.ret v)) { s with heap:=h',toks:=tk }) ->
  codeAny (model prog w) A (.builtin "max.loop" ⟨[.ref I,.none,.ref S],kw⟩) R s:=by
 have V5:S∉wr:=λh=>hSf (W.sub _ h);intro k;induction k with
 | zero =>
  intro j s vb c hk hj hst V6 hS hR;have hin:j+1=n:=by omega
  refine codeAny_builtin F.entry_max_loop ?_;rw[iw j8 _];refine(show wpAny _ A.in1 (seqItems? (.ref S) >>= _) _ _ s from aq (wpAny_seqItems hS rfl ?_));refine(show wpAny _ A.in1 (tryCatch (pyNext (.ref I)) _ >>= _) _ _ s from aq (wpAny_tryCatch (W.done s _ _ (hin▸hst) λh' tk hk'=>?_)));refine(show wpAny _ A.in1 (updateSeq S (λ_=>#[]) >>= _) _ _ _ from aq (wpAny_updateSeq (hk' S _ V5 hS) rfl (aq (wpAny_letGo (aL ?_)))));exact hR vb _ tk (by rw[<- hin];exact V6) λb o Dv LQ e=>(j9 _ _ (bA LQ)).trans (hk' b o Dv e)
 | succ k ih =>
  intro j s vb c hk hj hst V6 hS hR;have hlt:j+1<n:=by omega
  refine codeAny_builtin F.entry_max_loop ?_;rw[iw j8 _];refine(show wpAny _ A.in1 (seqItems? (.ref S) >>= _) _ _ s from aq (wpAny_seqItems hS rfl ?_));refine(show wpAny _ A.in1 (tryCatch (pyNext (.ref I)) _ >>= _) _ _ s from aq (wpAny_tryCatch (W.item (j+1) s _ _ hlt hst λv h' tk hP B0 hk'=>?_)));have hS':=hk' S _ V5 hS;refine(show wpAny _ A.in1 (tryCatch (holding [v,v] (richCompare .Gt v vb >>= _)) _ >>= _) _ _ _ from aq (wpAny_tryCatch (wpAny_holding (aq (hcmp (j+1) (argBest bt j) v vb _ _ _ hP V6 ?_)))));refine aq (wpAny_holding (wpAny_truthy_bool (aq (wpAny_letGo (aL ?_)))));cases hb:bt (j+1) (argBest bt j) with
  | true =>
   simp only[if_true];refine aq (wpAny_updateSeq hS' rfl (aq (wpAny_letGo ?_)));rw[nm];refine aL ⟨plainId_quiet j8 _,ih (j+1) _ v _ (by omega) hlt (W.frame _ _ _ B0 λb Yq o e=>(j9 _ _ (λh:S=b=>hSf (by rw[h];exact Yq))).trans e) (by simp only[argBest,hb,if_true];exact hP) (fE _ hS' rfl) λv' h'' IS T6 IT=>?_⟩;exact hR v' h'' IS T6 λb o Dv LQ e=>IT b o Dv LQ ((j9 _ _ (bA LQ)).trans (hk' b o Dv e))
  | false =>
   simp only[bV,if_false];refine aq (wpAny_letGo ?_);rw[nm];exact aL ⟨plainId_quiet j8 _,ih (j+1) _ vb c (by omega) hlt B0 (by simp only[argBest,hb,bV,if_false];exact V6) hS' λv' h'' IS T6 IT=>hR v' h'' IS T6 λb o Dv LQ e=>IT b o Dv LQ (hk' b o Dv e)⟩
def first(W:Walks prog w A.in1 I fp wr n P St)(bt:Nat->Nat->Bool)(hcmp:CmpOf prog w A.in1 .Gt P bt)(S:Addr)(hSf:S∉fp)(hn:0<n){s:Shared}{c:Nat}(hst:St 0 s.heap)
  (hS:s.heap.get? S=some { cls:=.type "list", dict:=none,data:=.seq #[] c,slots:=#[] })
  (hR:∀v h' tk,P (argBest bt (n-1)) v->(∀b o,b∉wr->b≠S->s.heap.get? b=some o->h'.get? b=some o)->R (.ok (.ret v)) { s with heap:=h',toks:=tk }):
  codeAny (model prog w) A (.builtin "max.loop" ⟨[.ref I,.none,.ref S],kw⟩) R s:=by have V5:S∉wr:=λh=>hSf (W.sub _ h);refine codeAny_builtin F.entry_max_loop ?_;rw[iw j8 _];refine(show wpAny _ A.in1 (seqItems? (.ref S) >>= _) _ _ s from aq (wpAny_seqItems hS rfl ?_));refine(show wpAny _ A.in1 (tryCatch (pyNext (.ref I)) _ >>= _) _ _ s from aq (wpAny_tryCatch (W.item 0 s _ _ hn hst λv h' tk hP B0 hk'=>?_)));have hS':=hk' S _ V5 hS;refine(show wpAny _ A.in1 (updateSeq S (λ_=>#[v,v]) >>= _) _ _ _ from aq (wpAny_updateSeq hS' rfl ?_));rw[nm];refine aL ⟨plainId_quiet j8 _,loop W bt hcmp S hSf _ 0 _ v _ rfl hn (W.frame _ _ _ B0 λb Yq o e=>(j9 _ _ (λh:S=b=>hSf (by rw[h];exact Yq))).trans e) hP (fE _ hS' rfl) λv' h'' IS T6 IT=>?_⟩;exact hR v' h'' IS T6 λb o Dv LQ e=>IT b o Dv LQ ((j9 _ _ (bA LQ)).trans (hk' b o Dv e))
def none_{d:Value}{x:Str}(W:Walks prog w A.in1 I fp wr 0 P St)(S:Addr)(hSf:S∉fp){s:Shared}{c:Nat}(hst:St 0 s.heap)
  (hS:s.heap.get? S=some { cls:=.type "list", dict:=none,data:=.seq #[] c,slots:=#[] })
  (hR:∀h' tk,(∀b o,b∉wr->s.heap.get? b=some o->h'.get? b=some o)->R (.ok (.ret d)) { s with heap:=h',toks:=tk }):
  codeAny (model prog w) A (.builtin "max.loop" ⟨[.ref I,.none,.ref S],[(x,d)]⟩) R s:=by refine codeAny_builtin F.entry_max_loop ?_;rw[iw j8 _];refine(show wpAny _ A.in1 (seqItems? (.ref S) >>= _) _ _ s from aq (wpAny_seqItems hS rfl ?_));refine(show wpAny _ A.in1 (tryCatch (pyNext (.ref I)) _ >>= _) _ _ s from aq (wpAny_tryCatch (W.done s _ _ hst λh' tk hk'=>?_)));show wpAny _ A.in1 (rule _ >>= _) _ _ _;exact aq (wpAny_rule (aL (hR h' tk hk')))
end
section
variable {prog:Program}{w:World}{A:Around}{E:Value->Shared->Prop}{s:Shared}
theorem LR{id:String}{b:Builtin}{args:List Value}{kw:List (Str×Value)}{Q:Value->Shared->Prop}(hk:builtinKind id=none)(hp:plainId id=true)(hb:entryFor table id=some b)(ha:argsOk id ⟨args,kw⟩)
  (hc:wpAny (model prog w) A.in1 (b ⟨args,kw⟩) (λfin s'=>match fin with
   | .done f=>(match(Except.ok f:Result) with|.ok (.ret v)=>Q v s'|.ok _=>False|.error e=>E e s')
   | .again c'=>c'.quiet=true/\codeAny (model prog w) A c' (λr s'=>match r with|.ok (.ret v)=>Q v s'|.ok _=>False|.error e=>E e s') s') E s):wpAny (model prog w) A (call (.builtin id) args kw) Q E s:=by
 refine wpAny_call (codeAny_call_builtin hp hb ?_);simp only[checkBuiltinCall,hk];cases Yr:Manifest.signature? id with
 | none=>exact aL hc
 | some sig =>
  have h2:Bind.checkArgs id sig ⟨args,kw⟩=pure ():=by simpa only[argsOk,Yr] using ha
  refine(show wpAny _ A.in1 (Bind.checkArgs id sig ⟨args,kw⟩) _ _ s from ?_);rw[h2];exact aL hc
def Fy(a d:Value):argsOk "max" ⟨[a],[("default", d)]⟩:=by unfold argsOk;kernel_rfl
def Fz{x d:Value}{Q:Value->Shared->Prop}
  (h:wpAny (model prog w) A.in1 (pyIter x) (λit s₂=>∃I fp wr n P St bt,it=.ref I/\Walks prog w A.in1 I fp wr n P St/\St 0 s₂.heap/\(∀b∈fp,b<s₂.heap.objs.size)/\CmpOf prog w A.in1 .Gt P bt /\
   ∀v h' tk,(if n=0 then v=d else P (argBest bt (n-1)) v)->(∀b o,b∉wr->s₂.heap.get? b=some o->h'.get? b=some o)->Q v { s₂ with heap:=h',toks:=tk }) E s):
  wpAny (model prog w) A (call (.builtin "max") [x] [("default", d)]) Q E s:=by
 refine LR F.kind_max F.plain_max F.entry_max (Fy _ _) ?_;refine(show wpAny _ A.in1 (Builtin.Builtins.bindParams "max" ["key", "default"] 0 ⟨[],[("default", d)]⟩ >>= _) _ _ s from ?_);refine aq (wpAny_of_eq (show Builtin.Builtins.bindParams "max" ["key", "default"] 0 ⟨[],[("default", d)]⟩=pure [none,some d] by first|rfl|kernel_rfl) ?_);refine aq (aL (aq (wpAny_mono h (λit s₂ h₂=>?_) λ_ _ e=>e)));obtain⟨I,fp,wr,n,P,St,bt,rfl,W,hst,hfp,hcmp,hQ⟩:=h₂;refine aq (wpAny_newObj_type ?_);have hSf:s₂.heap.objs.size∉fp:=λhm=>fZ _ (hfp _ hm);rw[nm];have B0:=W.frame 0 s₂.heap (s₂.heap.push { cls:=.type "list", data:=.seq ([]:List Value).toArray }) hst λb _ o e=>c9 _ e;rcases Nat.eq_zero_or_pos n with e|hn
 .subst e;refine aL ⟨plainId_quiet j8 _,none_ W s₂.heap.objs.size hSf B0 (iE _ rfl) λh' tk hk=>?_⟩;exact hQ d h' tk (by rw[if_pos rfl]) λb o Dv e=>hk b o Dv (c9 _ e)
 .refine aL ⟨plainId_quiet j8 _,first W bt hcmp s₂.heap.objs.size hSf hn B0 (iE _ rfl) λv h' tk hP hk=>?_⟩;exact hQ v h' tk (by rw[if_neg (by omega)];exact hP) λb o Dv e=>hk b o Dv (aQ (aK e)) (c9 _ e)
end
end MX
namespace L2
open PySem PySem.Spec PyProof.Rows
def Dw(K:aD)(vs:List V)(y:V)(H:Hp)(Q:VK):Prop:=∃p xs d,vs=[.ref p]/\y=.int d/\bE K H p (xs.map V.int)/\∀m:Int,(xs=[]->m=d)->(xs≠[]->m∈xs/\∀x∈xs,x<=m)->Q (.int m) H
def NV(K:aD)(t:TA)(tv:TE):TE:=λσ H Q=>t σ H λvs H1=>tv σ H1 λy H2=>Dw K vs y H2 Q
section
variable {X:Cx}{e v:Expr}{p kp pos:Pos}{t:TA}{tv:TE}
def LS{pins:List (Addr×Obj)}{σ:St}{H:Hp}{s:Shared}{vs:List V}{us:List Value}{y:V}{d:Value}{Q:VK}{E:Value->Shared->Prop}(hc:X.calm=true)(I:Inv X pins σ H s)(r:Vals vs us)(ry:RelV y d)(h:Dw X.K vs y H Q):
  wpAny (model X.prog X.w) X.A (call (.builtin "max") us [("default", d)]) (λu s'=>∃x H',Inv X pins σ H' s'/\RelV x u/\Q x H') E s:=by
 obtain⟨p,xs,dd,rfl,rfl,hS,q⟩:=h;obtain⟨u,rfl,ru⟩:=vals1 r;cases ru;obtain⟨t0,rfl⟩:=ry;obtain⟨its,rv,pl,hz⟩:=I.list hS;obtain⟨ps,rfl,e⟩:=vm rv;have hl:s.heap.IsList p (intItems ps.toArray):=by have:=pl.isList;rw[show(ps.map λp=>Value.int p.1 p.2).toArray=intItems ps.toArray by unfold intItems;simp] at this;exact this
 have hsz:(intItems ps.toArray).size=ps.length:=by simp[intItems]
 have NW:xs.length=ps.length:=by rw[<- e,av]
 refine MX.Fz (iter_intList hl λs₂ e2 st hfp hlI=>?_);subst e2;refine⟨_,_,_,_,_,_,_,rfl,Walks.list (A:=X.A.in1) (I.ok.hd hc) _ p hlI (intItems ps.toArray),st,hfp,CmpOf.ints_gt (numAt ps.toArray) (λ_ _=>intItems_at),λu h' tk hP hk=>?_⟩;rw[hsz] at hP;have kept:=old_kept (s:=s) (l:=p) hk;by_cases h0:ps.length=0
 .rw[if_pos h0] at hP;have ex:xs=[]:=List.eq_nil_of_length_eq_zero (by omega);subst hP;exact⟨.int dd,H,I.kept kept,⟨t0,rfl⟩,q dd (λ_=>rfl) λz=>absurd ex z⟩
 .rw[if_neg h0] at hP;obtain⟨t1,rfl⟩:=intItems_at hP;obtain⟨b1,b2⟩:=lF (numAt ps.toArray) (ps.length-1);have at_:∀i,i<ps.length->xs[i]?=some (numAt ps.toArray i):=λi hi=>by rw[<- e];simp[numAt,fO hi]
  refine⟨.int _,H,I.kept kept,⟨t1,rfl⟩,q _ (λz=>?_) λ_=>⟨fB (at_ _ (by omega)),λx hx=>?_⟩⟩
  .rw[z] at NW;exact absurd NW.symm h0
  .obtain⟨i,hi⟩:=fW.mp hx;have hil:i<ps.length:=by rw[<- NW];exact(fu hi).1
   rw[at_ i hil] at hi;rw[<- Option.some.inj hi];exact b2 i (by omega)
def LU(hc:X.calm=true)(hg:Gl X "max")(hm:X.mg "max" = none)(ha:PA X [e] t)(hv:PE X v tv)(he:backTo pos (starEach [e] X.env)=(false,eval e X.env)::backTo pos (starEach [] X.env):=by rfl)
  (hpl:(backTo pos (starEach [e] X.env)).any (·.1)=false:=by rfl)(hal:(backToKw pos (keywordEach [⟨some "default", v,kp⟩] X.env)).all (·.1.isSome)=true:=by rfl)(hkw:(backToKw pos (keywordEach [⟨some "default", v,kp⟩] X.env)).any (·.1.isNone)=false:=by rfl)
  (hfm:(backToKw pos (keywordEach [⟨some "default", v,kp⟩] X.env)).filterMap (·.1)=[("default" : Str)]:=by rfl):PE X (.Call (.Name "max" p) [e] [⟨some "default", v,kp⟩] pos) (NV X.K t tv):=by intro pins s σ H Q I h;refine wpAny_Call_Name_kw (jL I hg hm BT.NG ?_);refine callWith_kw (kws:=[⟨some "default", v,kp⟩]) ?_ he hpl hal hkw;refine cT (ha pos pins s σ H _ I h) λus s1 zq=>?_;obtain⟨vs,H1,I1,r1,q1⟩:=zq;refine kws_cons (cT (hv pins s1 σ H1 _ I1 q1) λd s2 zq=>?_);obtain⟨y,H2,I2,ry,q2⟩:=zq;refine kws_nil ?_;rw[hfm];exact LS hc I2 r1 ry q2
end
section
variable {K:aD}{σ:St}{H:Hp}{Q:VK}{t:TA}{tv:TE}
def V7(h:t σ H λvs H1=>tv σ H1 λy H2=>Dw K vs y H2 Q):NV K t tv σ H Q:=h
def Ql{p:Addr}{xs:List Int}{d:Int}(hS:bE K H p (xs.map V.int))(h:∀m:Int,(xs=[]->m=d)->(xs≠[]->m∈xs/\∀x∈xs,x<=m)->Q (.int m) H):Dw K [.ref p] (.int d) H Q:=⟨p,xs,d,rfl,rfl,hS,h⟩
end
section
variable {prog:Program}{w:World}{κ:Type} [DecidableEq κ] {knd:HeapKind prog w κ}{A:Around}{E:Value->Shared->Prop}{s:Shared}
end
def NX(kvs kvs':f6):Prop:=kvs.length=kvs'.length/\∀x∈kvs,∃n:Int,x.2.2=.int n/\kI kvs' x.1=some (.int n)
def NX.raw{kvs kvs':f6}{xs ys:List (HM.bP×Addr×Value)}(l:NX kvs kvs')(r:kY kvs xs)(r':kY kvs' ys):xs.length=ys.length/\∀x∈xs,∃(p:Addr×Value)(n:Int)(t t':Tok),atKey ys x.1=some p/\p.2=.int n t'/\x.2.2=.int n t:=by
 refine⟨by rw[<- g9 r,<- g9 r'];exact l.1,?_⟩;have h:=l.2;clear l;unfold kY at r;induction r with
 | nil=>intro x hx;exact nomatch hx
 | @cons p q ps qs hq t ih =>
  intro x hx;rcases aI.mp hx with e|hx
  .subst e;obtain⟨n,h1,h2⟩:=h p (by simp);have h3:=r'.val p.1;rw[h2] at h3;obtain⟨w',hw,rw'⟩:=lz.some_of (v:=.int n) (o:=(atKey ys p.1).map (·.2)) h3;obtain⟨z,hz,hz2⟩:=di.mp hw;have r1:=hq.2.2;rw[h1] at r1;obtain⟨t1,e1⟩:=r1;obtain⟨t2,e2⟩:=rw';exact⟨z,n,t1,t2,by rw[<- hq.1];exact hz,by rw[hz2];exact e2,e1⟩
  .exact ih (λy hy=>h y (by simp[hy])) x hx
section
variable {X:Cx}{P:Program}{w:World}{H:Hp}{Q:VK}
end
end L2
namespace SN
open PySem PySem.Spec PyProof.Rows
end SN
namespace L2
open PySem PySem.Spec PyProof.Rows
section
variable {X:Cx}{o:Expr}{apos cpos:Pos}{td:TE}
end
section
variable {P:Program}{w:World}{H:Hp}{Q:VK}{σ:St}{td:TE}
end
set_option genInjectivity false in
set_option genSizeOf false in
set_option genSizeOfSpec false in
structure DD (K:aD) (mg:Str->Option Value) (n:Str) (st:Stmt) (ps:List Str) where
 f:Addr
 d:FuncData
 F:Rx K n n st f d
 b:Binds K d ps []
 m:mg n=some (.ref f)
set_option genInjectivity false in
set_option genSizeOf false in
set_option genSizeOfSpec false in
structure CI (mg:Str->Option Value) (n:Str) (i:Int) where
 t:Tok
 c:mg n=some (.int i t)
set_option genInjectivity false in
set_option genSizeOf false in
set_option genSizeOfSpec false in
structure CT (K:aD) (mg:Str->Option Value) (n:Str) (vs:List V) where
 a:Addr
 c:mg n=some (.ref a)
 q:iA K a vs
section
variable {K:aD}{mg:Str->Option Value}{n:Str}{st:Stmt}{ps:List Str}{h:Heap}{f a:Addr}{oc:Value}{od an:Option Addr}{sl:Array (Option Value)}{kV dc pm cd ct:Value}
abbrev IU(n:Str)(st:Stmt)(ps:List Str):Prop:=∀(kV doc pm:Value)(an:Option Addr)(cdv ct:Value)(us:List Value),us.length=ps.length->bindArgs (PySem.W.fnOf n n (ku st) (iQ st) (aC st) .none kV doc pm an cdv ct) ⟨us,[]⟩=pure (ps.zip us)
def T7(X:K.In h)(G:h.Ns mainGlobals mg)(hb:IU n st ps)(e:PySem.W.nsIn K mainGlobals n=some (some (.ref f)))(l:K.lookup f=some ⟨oc,od,.func (PySem.W.fnOf n n (ku st) (iQ st) (aC st) .none kV dc pm an cd ct),sl⟩)
  (c:PySem.W.codeIn K cd n=true)(k:PySem.W.keepIn K (.ref f)=true):DD K mg n st ps:=⟨f,_,Hs l c k,(Hs l c k).binds hb,PySem.W.mg_of X G e⟩
def T8{i:Int}{t:Tok}(X:K.In h)(G:h.Ns mainGlobals mg)(e:PySem.W.nsIn K mainGlobals n=some (some (.int i t))):CI mg n i:=⟨t,PySem.W.mg_of X G e⟩
def T9{vs:List V}{its:Array Value}{j:Nat}(X:K.In h)(G:h.Ns mainGlobals mg)(e:PySem.W.nsIn K mainGlobals n=some (some (.ref a)))(l:K.lookup a=some ⟨.type "tuple", od,.seq its j,sl⟩)(r:Vals vs its.toList)(hz:its.size<=1000):CT K mg n vs:=⟨a,PySem.W.mg_of X G e,iA.mk' l r hz⟩
def DD.bind1{x:Str}{st:Stmt}(D:DD K mg n st [x])(hb:IU n st [x])(s:Shared)(v:Value):BindsTo s D.d ⟨[v],[]⟩ [(x,v)]:=by obtain⟨_,_,kV,dc,pm,an,cd,ct,_,e,_,_⟩:=D.F.ex;rw[e];exact .of_eq (hb kV dc pm an cd ct [v] rfl)
end
section
variable {X:Cx}{n:Str}{st:Stmt}{ps:List Str}{sp:Sp}{k j:Nat}{e:Expr}{es:List Expr}{p pos:Pos}{t:TA}
def aP(D:DD X.K X.mg n st ps)(F:b7 X.prog X.w X.K X.mg X.base gT k D.f D.d ps sp)(r:jd j X.A)(ha:PA X (e::es) t)(hk:k<=j:=by first|decide|omega)(hg:Gl X n:=by rfl)(hdb:(n==("__debug__" : Str))=false:=by decide)
  (he:starEach (e::es) X.env=(false,eval e X.env)::starEach es X.env:=by rfl)(hpl:(backTo pos (starEach es X.env)).any (·.1)=false:=by rfl):PE X (.Call (.Name n p) (e::es) [] pos) (GV sp [] E0 t) :=
 Ld F (r.mono hk) hg D.m D.F.kp D.b .nil SM ha hdb he hpl
end
section
variable {X:Cx}{tg:Expr}
end
section
variable {K:aD}{nx bk ct:St->Hp->Prop}{rt:VK}{σ:St}{H:Hp}{Q:VK}{te:TE}
end
section
variable {X:Cx}{o e:Expr}{td ty:TE}{apos cpos:Pos}
end
section
variable {X:Cx}{K:aD}{σ:St}{H:Hp}{Q:VK}{t:TA}
def vB(ta:TA):TE:=λσ H Q=>ta σ H λvs H1=>∃j:Int,vs=[.int j]/\0<=j/\j<=1000000/\∀p,H1 p=none->Q (.ref p) (upd H1 p (.lst (uC 0 j.toNat)))
def uI{b:Expr}{ta:TA}{p1 p2 p3 p4:Pos}(Lz:Gl X "list")(hm1:X.mg "list" = none)(Rz:Gl X "range")(hm2:X.mg "range" = none)(ha:PA X [b] ta)(hc:X.calm=true:=by rfl)
  (hs2:starEach [b] X.env=[(false,eval b X.env)]:=by rfl)
  (he1:starEach [Expr.Call (.Name "range" p2) [b] [] p3] X.env=[(false,eval (Expr.Call (.Name "range" p2) [b] [] p3) X.env)]:=by rfl):
  PE X (.Call (.Name "list" p1) [.Call (.Name "range" p2) [b] [] p3] [] p4) (vB ta):=by
 intro pins s σ H Q I h;refine wpAny_Call_Name_kw (jL I Lz hm1 BT.sD ?_);refine ki ?_ he1 rfl;rw[he1];show wpAny _ _ (spliced [(false,eval (Expr.Call (.Name "range" p2) [b] [] p3) X.env)]) _ _ s;refine Calls.spliced_cons ?_;refine Call_ (jL I Rz hm2 boot_range (ki (cT (ha p3 pins s σ H _ I h) λus s1 zq=>?_) hs2 rfl));obtain⟨vs,H1,I1,r1,q1⟩:=zq;obtain⟨j,e,q1,q2,q⟩:=q1;subst e;cases r1 with
 | cons r rr =>
  cases rr;obtain⟨t',rfl⟩:=r;refine call_range_1 (Calls.spliced_nil ?_);have hA:X.A.in1.in1.handled=none:=I1.ok.hd hc;refine call_list_range (n:=j.toNat) hA (IsRange.new ..) (small_one (by omega) (by omega) (by omega) (by omega)) (by rw[rangeSize_one];split<;>omega) (bJ (show j.toNat<=1000000 by omega) (by decide)) λh' tk acc' c' hk hS hacc=>?_;have hk':∀b o,s1.heap.get? b=some o->h'.get? b=some o:=λb o e=>hk b o (c9 _ e);refine⟨.ref _,_,I1.laid (t':=tk) hk' (by rw[fF];exact lu _) (o:=.lst (uC 0 j.toNat)) ⟨by rw[HQ];exact bJ (show j.toNat<=1000000 by omega) (by decide),acc'.toList,c',E4 hacc,?_⟩,rfl,q _ (I1.hok.fresh (by rw[fF];exact lu _))⟩;rw[hS]
def zw(h:t σ H λvs H1=>∃j:Int,vs=[.int j]/\0<=j/\j<=1000000/\∀p,H1 p=none->Q (.ref p) (upd H1 p (.lst (uC 0 j.toNat)))):vB t σ H Q:=h
end
end L2
set_option compiler.extract_closed false
local macro_rules | `(tactic| walk_at "len")=>`(tactic| first|omega|(simp only[av, aR, eB, mY, L2.yF] at *;omega)|exact eU rfl)
set_option hygiene false in
local macro_rules | `(tactic| walk_at "sq1") => `(tactic| first | ((with_reducible refine L2.PU ?_); walk_at "nx") | ((with_reducible refine L2.By (bk := bk2) (ct := ct2) ?_); walk_at "nx") | ((with_reducible refine L2.By (bk := bk1) (ct := ct1) ?_); walk_at "nx") | ((with_reducible refine L2.By (bk := bk0) (ct := ct0) ?_); walk_at "nx") | ((with_reducible refine L2.PV ?_); walk_at "nl"; walk_at "nx"))
def L2.aB.at{H H':L2.Hp}{a:PySem.Addr}{o:L2.HO}(e:L2.aB H H')(h:H a=some o):H' a=some o:=e _ _ h
def L2.aB.trF{H H1 H2:L2.Hp}(b:L2.aB H1 H2)(a:L2.aB H H1):L2.aB H H2:=a.trans b
def L2.fh.fst{H H':L2.Hp}{p:PySem.Addr}{o:L2.HO}(n:L2.fh H p o H'):H p=Option.none:=n.1
def L2.fh.fr2{H H1 H2:L2.Hp}{p:PySem.Addr}{o:L2.HO}(n:L2.fh H1 p o H2)(s:L2.aB H H1):H p=Option.none:=s.free n.1
def L2.za0{α β:Type}{a:α}{b:β}:a=a/\b=b:=⟨rfl,rfl⟩
def L2.zb0{α:Type}{a:α}{H:L2.Hp}:a=a/\L2.aB H H:=⟨rfl,L2.aB.refl _⟩
def L2.zc0{K:aD}{H:L2.Hp}{a b:PySem.Addr}{xs ys:List L2.V}{R:L2.It->L2.Hp->Prop}(hx:L2.cM K H a xs)(hy:L2.cM K H b ys)(h:R (L2.Th K true true a b xs ys) H):L2.PB K R [.ref a,.ref b] H:=L2.C2 (t1:=true) (t2:=true) hx hy h
def L2.zc1{K:aD}{H:L2.Hp}{a b:PySem.Addr}{xs ys:List L2.V}{R:L2.It->L2.Hp->Prop}(hx:L2.cM K H a xs)(hy:L2.bE K H b ys)(h:R (L2.Th K true false a b xs ys) H):L2.PB K R [.ref a,.ref b] H:=L2.C2 (t1:=true) (t2:=false) hx hy h
def L2.zc2{K:aD}{H:L2.Hp}{a b:PySem.Addr}{xs ys:List L2.V}{R:L2.It->L2.Hp->Prop}(hx:L2.bE K H a xs)(hy:L2.cM K H b ys)(h:R (L2.Th K false true a b xs ys) H):L2.PB K R [.ref a,.ref b] H:=L2.C2 (t1:=false) (t2:=true) hx hy h
def L2.zc3{K:aD}{H:L2.Hp}{a b:PySem.Addr}{xs ys:List L2.V}{R:L2.It->L2.Hp->Prop}(hx:L2.bE K H a xs)(hy:L2.bE K H b ys)(h:R (L2.Th K false false a b xs ys) H):L2.PB K R [.ref a,.ref b] H:=L2.C2 (t1:=false) (t2:=false) hx hy h
namespace WK
open Lean in
def ids(c:String):Array Ident:=((c.drop 1).toString.splitOn ",").toArray.map λx=>mkIdent (.mkSimple x)
open Lean in
def one(c:String):MacroM (TSyntax `tactic):=do
 if c == "a" then `(tactic| assumption) else if c == "o" then `(tactic| omega) else if c == "r" then `(tactic| rfl) else if c == "d" then `(tactic| decide)
 else if c.startsWith "~" then `(tactic| try clear $(ids c)*) else if c.startsWith "^" then `(tactic| intro $(ids c)*) else if c.startsWith "?" then `(tactic| fail_if_success clear $(ids c)*)
 else if c.startsWith "@" then `(tactic| walk_at $(Syntax.mkStrLit (c.drop 1).toString)) else if c.startsWith "=" then `(tactic| with_reducible apply $(mkIdent (.mkSimple (c.drop 1).toString)))
 else if c.startsWith "*/" then `(tactic| apply $(mkIdent (c.drop 2).toString.toName)) else if c.startsWith "*" then `(tactic| apply $(mkIdent (`L2++(c.drop 1).toString.toName)))
 else `(tactic| with_reducible apply $(mkIdent (.str `L2 c)))
open Lean in
def alt(w : String): MacroM (TSyntax `tactic):=do
  let ws:=(w.splitOn " ").toArray;let mut t ← one ws[0]!
  for c in ws[1:] do
    if c=="&" then t ← `(tactic| ($t:tactic<;>intro _))
    else if c.startsWith "!" then
      for _ in[0:(c.drop 1).toString.toNat!] do t ← `(tactic| ($t:tactic;intro _))
    else if c.startsWith "~" || c.startsWith "^" then
      let u ← one c
      t ← `(tactic| ($t:tactic;$u:tactic))
    else
      let u ← if c == "a" || c == "o" || c == "r" || c == "d" then one c else `(tactic| walk_at $(Syntax.mkStrLit c))
      t ← `(tactic| ($t:tactic;(focus $u:tactic)))
  return t
open Lean in
def tab:String:="look:a;*fh.self a;*fh.keep a look;*pC.self a;*pC.keep a neq look;*aB.at a look\nneq:a;*/Ne.symm a;*fh.ne a look;*/Ne.symm ne1;*uQ look look ic\nne1:*fh.ne a look\nsq:a;*iA.sq a;*bE.of look;*cM.of look;*aB.seq a sq;*aB.seq ns sq\nns:*fh.same a\nsame:*aB.refl;a;*aB.trF ns same;*aB.trF a same;*pC.same a sf sf\nsf:@same;@free\nfree:a;*fh.none a free;*aB.free a free;*fh.fst a;*fh.fr2 a same\ncond:o;d;*/And.intro o o;*/Or.inl an;*/Or.inr an;*/And.intro o od\nan:*/And.intro o o\nod:*/And.intro o d\nnxd:=Qu ~Qu,Jl,kt0,kf0;=Jl ~Qu,Jl,kt0,kf0;=YV ~YV,nx0;=hnx1 ~hnx1,nx1;=hnx2 ~hnx2,nx2;=hnx3 ~hnx3,nx3;=hnx4 ~hnx4,nx4;=Zi;=hct0;=hbk0;=hno1;=hct1;=hbk1;=hno2;=hct2;=hbk2\nnx:?YV ^nx0,YV;?hnx1 ^nx1,hnx1;?hnx2 ^nx2,hnx2;?hnx3 ^nx3,hnx3;^nx4,hnx4\nni:~Qu,Jl,kt0,kf0 ^kt0,kf0,Qu,Jl\nnl:?Zi ^no0,bk0,ct0,Zi,hbk0,hct0;?hno1 ^no1,bk1,ct1,hno1,hbk1,hct1;^no2,bk2,ct2,hno2,hbk2,hct2\nc2:*/Or.inl sq;*/Or.inr sq\nc3:*mH.int;*mH.bl;*mH.cY;*mH.str;*mH.tup look;*mH.lst look\nc6:a;d;o\ngo1:Yc sq1|aao;ab2;s_c|TL ni|W9;s_b;aaf;Xn;Xo;Xp;Xq;Xs;Xu;Xv;Xw;Xx;Xy;VF;VG;VH;acd|ace;acf;Xr;acg;ach;aci;acj;ack;acm;aaz;aaA;aaB;ab5;s_i cond;aak;aal;aam|za0;zb0;Pu;@nxd|aae;W7;W8;ab3;s_u;aag;ab4;aah;aai;Xa;aaj;VB;s_call;aan;Xb;ab6;aar;aas|Xg c0 !3;Xh c0 !3;cJ sq r;vc sq c1;Nq c0 r;ab7 c2 r r;aat c2 r r;aax;S7;Tw;X5 o;aaw o o;Xi;VC;VE sq;Xm sq;Xk sq r;VD|Xl;ab9;aav c2;S5 c2 !3;Xj;S4 c3 r;aay sq;S1 look len !2;XH;XI;XJ;VR;VS;XM sq !3;XN sq r;aaI look look len !3;Te look look len !2;aaJ|XO sq;acr;aaK sq !3;XS;kB look r !2;XR;NC;XT;XQ r;XG;VQ;Td;ab8;aau;XX;Tr look r;aaP;XY|aaW look;VW;acv look;aaR look;s_iEnum1;s_itE1 sq;s_split d len !3;V2;V3;T3;V7;Yp;V1 !4;aa4 look;Yo look;V4 look !3;X0;aaS look len !2|VY !3;Yk look;X3 !3;Lu look d r r len !2;VX look !2;X4;aaT r;aaU;VV;Tq r;je sq c5 !3;VU;XW;VT;aaL sq|zc0 sq sq;zc1 sq sq;zc2 sq sq;zc3 sq sq|Ph;WY;aap;aaq;Xc c6;Xd c6|Bq &|Xe c6;Xf c6|Br &|Pn r;Po r\nc1:r;*HP\nc0:*/_root_.eU r"
open Lean in
def row(f:String->MacroM (TSyntax `tactic))(c:String):MacroM (TSyntax `tactic):=do
 for l in tab.splitOn "\n" do
  if l.startsWith (c++":") then
   let g ← ((l.drop (c.length+1)).toString.splitOn "|").toArray.mapM λx=>do
    let r ← (x.splitOn ";").toArray.mapM f
    `(tactic| case' $(mkIdent `z):ident=>first $[| $r:tactic]*)
   return ← `(tactic| first $[| $g:tactic]*)
 Macro.throwUnsupported
open Lean in
def find(c:String):MacroM (TSyntax `tactic):=do
 if c=="go" then `(tactic| repeat' $(← row (λw=>if w=="@nxd" then row alt "nxd" else alt w) "go1"):tactic)
 else row alt c
end WK
local macro_rules | `(tactic| walk_at "ic")=>`(tactic| (intro z;cases z))
local macro_rules | `(tactic| walk_at "c5")=>`(tactic| first|exact(λh=>absurd (show(1 : Nat)=0 from h.1) (by decide))|(intro h;simp only[L2.HT.dB] at h;omega))
local macro_rules | `(tactic| walk_at "goq")=>`(tactic| repeat' (first|with_reducible refine L2.Ys ?_|with_reducible refine L2.V8 ?_|with_reducible refine L2.V9 ?_|walk_at "go1"))
local macro_rules | `(tactic| walk_at "start")=>`(tactic| try dsimp only[L2.ym, L2.Cx.GH, L2.Cx.pO])
local macro_rules | `(tactic| case' $i:ident=>$s)=>if i.getId==`z then `(tactic| ($s)) else Lean.Macro.throwUnsupported
local macro_rules | `(tactic| walk_at $s:str)=>WK.find s.getString
namespace TG
open PySem L2 PySem.Spec PyProof.Rows
variable {H H':Hp}{n b s x:Int}{i j p k m d q:Nat}{r R:Row}{K:aD}{v:V}{vs us:List V}{rs:List Row}{a f:Addr}{ps:List (Int×Int)}{o:HO}{t:HM.fz}{φ:Heap->Prop}{kvs:f6}{β α:Type}{ks:List HM.bP}{L:HM.bP->List HM.bP}{F:List (HM.bP×Int)}
set_option maxHeartbeats 4000000
def top(i:Nat):Stmt:=PySem.Challenge.pw_turnguard_k64_whole_thinned.main.body.getD i (.Pass ⟨0,0,0,0⟩)
abbrev vC:Stmt:=top 8
abbrev oq:Stmt:=top 9
abbrev qt:Stmt:=top 10
abbrev Dy:Stmt:=top 11
abbrev Dz:Stmt:=top 12
abbrev DA:Stmt:=top 13
abbrev IV:Stmt:=top 14
abbrev qu:Stmt:=top 15
abbrev vD:Stmt:=top 16
abbrev DB:Stmt:=top 17
abbrev sW:Stmt:=top 21
abbrev vE:Stmt:=top 22
abbrev kR:Stmt:=top 23
abbrev vF:Stmt:=top 24
abbrev zx:Stmt:=top 25
abbrev vG:Stmt:=top 26
abbrev DC:Stmt:=top 27
abbrev zy:Stmt:=top 28
abbrev DE:Stmt:=top 29
abbrev zA:Stmt:=top 31
abbrev vH:Stmt:=top 32
abbrev IW:Stmt:=top 33
abbrev vI:Stmt:=top 34
abbrev lI:Stmt:=top 35
abbrev zB:Stmt:=top 37
abbrev DF:Stmt:=top 38
abbrev lJ:Stmt:=top 39
abbrev vJ:Stmt:=top 40
abbrev vK:Stmt:=top 42
abbrev DG:Stmt:=top 43
abbrev vL:Stmt:=top 44
abbrev zC:Stmt:=top 45
abbrev IY:Stmt:=top 46
abbrev IZ:Stmt:=top 47
abbrev s_row:Stmt:=top 48
abbrev I0:Stmt:=top 49
abbrev qv:Stmt:=top 50
abbrev I9:Stmt:=top 51
abbrev ou:Stmt:=top 52
abbrev Ja:Stmt:=top 53
abbrev DI:Stmt:=top 54
abbrev oz:Stmt:=top 55
abbrev mR:Stmt:=top 56
abbrev vM:Stmt:=top 57
abbrev NY:Stmt:=top 58
abbrev NZ:Stmt:=top 59
def B3:aN ["row"] ["row"] (aC vC):=by walk_at "sc"
def uJ:aN ["row", "part"] ["row", "part"] (aC oq):=by walk_at "sc"
def oA:aN ["row", "moved", "numbers"] ["row", "moved"] (aC qt):=by walk_at "sc"
def zD:aN ["row", "boxes"] ["row"] (aC Dy):=by walk_at "sc"
def Jb:aN ["row"] ["row"] (aC Dz):=by walk_at "sc"
def sX:aN ["row", "boxes", "found", "side"] ["row", "boxes"] (aC DA):=by walk_at "sc"
def iT:aN ["code", "reading", "giving", "ahead", "found", "spot", "coming", "seen", "place"] ["code"] (aC IV):=by walk_at "sc"
def iU:aN ["lists", "found", "some", "thing"] ["lists"] (aC qu):=by walk_at "sc"
def jg:aN ["code", "found", "place", "row", "way"] ["code"] (aC vD):=by walk_at "sc"
def Jc:aN ["code"] ["code"] (aC DB):=by walk_at "sc"
def jz:aN ["row", "things", "lively", "taken", "given", "onward"] ["row", "things", "lively"] (aC sW):=by walk_at "sc"
def nA:aN ["onward", "things", "lively", "found", "way"] ["onward", "things", "lively"] (aC vE):=by walk_at "sc"
def j0:aN ["row", "thing", "taken", "given", "found"] ["row", "thing", "taken", "given"] (aC kR):=by walk_at "sc"
def fL:aN ["code", "lively", "found", "place", "row", "things", "thing", "later"] ["code"] (aC vF):=by walk_at "sc"
def FA:aN ["code"] ["code"] (aC zx):=by walk_at "sc"
def sY:aN ["later", "found"] ["later"] (aC vG):=by walk_at "sc"
def jh:aN ["later", "earlier", "waiting", "ready", "found", "harm", "other"] ["later"] (aC DC):=by walk_at "sc"
def l9:aN ["later", "found", "harm", "other"] ["later"] (aC zy):=by walk_at "sc"
def zE:aN ["code", "found"] ["code"] (aC DE):=by walk_at "sc"
def vN:aN ["code", "place", "row"] ["code", "place"] (aC zA):=by walk_at "sc"
def sZ:aN ["code", "place", "moved"] ["code", "place"] (aC vH):=by walk_at "sc"
def mh:aN ["code", "number", "found", "left", "fewer"] ["code", "number"] (aC IW):=by walk_at "sc"
def B4:aN ["found", "number"] ["found", "number"] (aC vI):=by walk_at "sc"
def eZ:aN ["code", "number", "left", "place"] ["code", "number"] (aC lI):=by walk_at "sc"
def gX:aN ["code", "looked", "firsts", "hardened", "place", "row", "box"] ["code"] (aC zB):=by walk_at "sc"
def zF:aN ["code", "lively"] ["code"] (aC DF):=by walk_at "sc"
def cV:aN ["code", "looked", "firsts", "many", "place", "row"] ["code", "looked"] (aC lJ):=by walk_at "sc"
def B5:aN ["row", "place"] ["row", "place"] (aC vJ):=by walk_at "sc"
def B6:aN ["_law_script", "_law_k"] ["_law_script", "_law_k"] (aC vK):=by walk_at "sc"
def zG:aN ["_law_cell", "_law_k", "_law_number"] ["_law_cell", "_law_k"] (aC DG):=by walk_at "sc"
def ji:aN ["_law_script", "_law_many", "_law_found", "_law_k", "_law_cell", "_law_number"] ["_law_script", "_law_many"] (aC vL):=by walk_at "sc"
def mq:aN ["_law_number", "_law_found", "_law_k"] ["_law_number"] (aC zC):=by walk_at "sc"
def w6:aN ["_law_script", "_law_most", "_law_cell"] ["_law_script", "_law_most"] (aC IY):=by walk_at "sc"
def LV:aN ["_law_cell", "_law_p", "_law_many", "_law_way"] ["_law_cell", "_law_p", "_law_many", "_law_way"] (aC IZ):=by walk_at "sc"
def kJ:aN ["_law_cell", "_law_p", "_law_many", "_law_pool_here", "_law_way", "_law_kind", "_law_side", "_law_rest", "_law_k", "_law_i", "_law_j", "_law_q", "_law_value_of"] ["_law_cell", "_law_p", "_law_many", "_law_pool_here", "_law_way"] (aC s_row):=by walk_at "sc"
def xg:aN ["_law_script", "_law_many", "_law_way", "_law_pool_here", "_law_numbers_here"] ["_law_script", "_law_many", "_law_way"] (aC I0):=by walk_at "sc"
def dY:aN ["_law_cell", "_law_p", "_law_many", "_law_pool_here", "_law_way", "_law_kind", "_law_rest", "_law_k", "_law_i", "_law_j", "_law_more", "_law_q"] ["_law_cell", "_law_p", "_law_many", "_law_pool_here", "_law_way"] (aC qv):=by walk_at "sc"
def xh:aN ["_law_rows", "_law_cell", "_law_p"] ["_law_rows", "_law_cell"] (aC I9):=by walk_at "sc"
def f9:aN ["_law_script", "_law_many", "_law_boxes", "_law_pool_here", "_law_numbers_here", "_law_way", "_law_rows"] ["_law_script", "_law_many", "_law_boxes"] (aC ou):=by walk_at "sc"
def qR:aN ["_law_script", "_law_cell", "_law_code_here"] ["_law_script"] (aC Ja):=by walk_at "sc"
def zH:aN ["_law_row_here", "_law_place", "_law_places"] ["_law_row_here", "_law_place"] (aC DI):=by walk_at "sc"
def uK:aN ["_law_code_here", "_law_p"] ["_law_code_here", "_law_p"] (aC oz):=by walk_at "sc"
def tw:aN ["_law_code_here", "_law_p"] ["_law_code_here", "_law_p"] (aC mR):=by walk_at "sc"
def cW:aN ["_law_cell", "_law_many", "_law_first", "_law_left", "_law_boxes", "_law_k", "_law_looks", "_law_long", "_law_rows"] ["_law_cell"] (aC vM):=by walk_at "sc"
def lK:aN ["_law_code_here", "_law_number", "_law_many", "_law_p", "_law_soon"] ["_law_code_here", "_law_number"] (aC NY):=by walk_at "sc"
def kK:aN ["_law_script", "_law_code_here", "_law_cell", "_law_number", "_law_due_here", "_law_handed", "_law_found"] ["_law_script"] (aC NZ):=by walk_at "sc"
set_option genInjectivity false in
set_option genSizeOf false in
set_option genSizeOfSpec false in
structure DJ (w:World) (K:aD) (mg:Str->Option Value) where
 oB:Addr
 xj:mg "PARTS" = some (.ref oB)
 oE:Addr
 zI:iA K oE [.str "side", .str "box", .str "value", .str "place"]
 oF:Addr
 zJ:iA K oF [.str "side", .str "box", .str "box", .str "place"]
 oG:Addr
 zK:iA K oG [.str "side", .str "sign", .str "box", .str "box", .str "box", .str "place"]
 oH:Addr
 zL:iA K oH [.str "box", .str "place"]
 oJ:Addr
 zM:iA K oJ [.str "box", .str "place", .str "place"]
 oK:Addr
 zN:iA K oK [.str "box", .str "place"]
 oM:Addr
 zO:iA K oM [.str "place"]
 oN:Addr
 zP:iA K oN [.str "box"]
 xm:yJ w K oB [(.inr "num", .ref oE),(.inr "copy", .ref oF),(.inr "op", .ref oG),(.inr "out", .ref oH),(.inr "fork", .ref oJ),(.inr "look", .ref oK),(.inr "mark", .ref oM),(.inr "back", .ref oN)]
set_option genInjectivity false in
set_option genSizeOf false in
set_option genSizeOfSpec false in
structure Txt (w:World) (K:aD) (mg:Str->Option Value) where
 oO:DD K mg "ways_of" vC ["row"]
 gY:DD K mg "numbers_of" oq ["row", "part"]
 j3:DD K mg "to_places" qt ["row", "moved"]
 reads:DD K mg "reads" Dy ["row"]
 gives:DD K mg "gives" Dz ["row"]
 zQ:DD K mg "spots" DA ["row", "boxes"]
 live:DD K mg "live" IV ["code"]
 mw:DD K mg "each_once" qu ["lists"]
 leading:DD K mg "leading" vD ["code"]
 meets:DD K mg "meets" DB ["code"]
 oQ:DD K mg "lasts_by" sW ["row", "things", "lively"]
 qS:DD K mg "at_ways" vE ["onward", "things", "lively"]
 ie:DD K mg "things_behind" kR ["row", "thing", "taken", "given"]
 qT:DD K mg "lasting" vF ["code"]
 xo:DD K mg "delays" zx ["code"]
 qU:DD K mg "lengths" vG ["later"]
 ended:DD K mg "ended" DC ["later"]
 turned:DD K mg "turned" zy ["later"]
 delay:DD K mg "delay" DE ["code"]
 xq:DD K mg "can_go" zA ["code", "place"]
 without:DD K mg "without" vH ["code", "place"]
 Jd:DD K mg "thin" IW ["code", "number"]
 oR:DD K mg "is_soon" vI ["found", "number"]
 gK:DD K mg "gone_through" lI ["code", "number"]
 xr:DD K mg "harden" zB ["code"]
 looks:DD K mg "looks" DF ["code"]
 iV:DD K mg "first_places" lJ ["code", "looked"]
 doubled:DD K mg "doubled" vJ ["row", "place"]
 ig:DD K mg "_law_cell_at" vK ["_law_script", "_law_k"]
 mixed:DD K mg "_law_mixed" DG ["_law_cell", "_law_k"]
 numbers:DD K mg "_law_numbers" vL ["_law_script", "_law_many"]
 spread:DD K mg "_law_spread" zC ["_law_number"]
 pool:DD K mg "_law_pool" IY ["_law_script", "_law_most"]
 goes:DD K mg "_law_goes" IZ ["_law_cell", "_law_p", "_law_many", "_law_way"]
 row:DD K mg "_law_row" s_row ["_law_cell", "_law_p", "_law_many", "_law_pool_here", "_law_way"]
 code:DD K mg "_law_code" I0 ["_law_script", "_law_many", "_law_way"]
 mz:DD K mg "_law_plain_row" qv ["_law_cell", "_law_p", "_law_many", "_law_pool_here", "_law_way"]
 LW:DD K mg "_law_bent" I9 ["_law_rows", "_law_cell"]
 kL:DD K mg "_law_plain_code" ou ["_law_script", "_law_many", "_law_boxes"]
 LX:DD K mg "_law_tiny" Ja ["_law_script"]
 moved:DD K mg "_law_moved" DI ["_law_row_here", "_law_place"]
 kM:DD K mg "_law_can_go" oz ["_law_code_here", "_law_p"]
 iB:DD K mg "_law_without" mR ["_law_code_here", "_law_p"]
 qV:DD K mg "_law_windows" vM ["_law_cell"]
 due:DD K mg "_law_due" NY ["_law_code_here", "_law_number"]
 law:DD K mg "law" NZ ["_law_script"]
 aa7:mg "all" = none
 Yt:mg "bool" = none
 B7:mg "dict" = none
 fM:mg "enumerate" = none
 N1:mg "int" = none
 xw:mg "isinstance" = none
 eS:mg "len" = none
 tD:mg "list" = none
 N2:mg "max" = none
 N3:mg "min" = none
 eW:mg "range" = none
 Qm:mg "reversed" = none
 Je:mg "set" = none
 oS:mg "sorted" = none
 aa8:mg "str" = none
 DK:mg "tuple" = none
 Jg:mg "zip" = none
 Yu:CI mg "BOTH" 2
 jj:CT K mg "DEEDS" [.str "num", .str "copy", .str "op"]
 jO:CT K mg "ENDS_OF_MARKS" [.str "mark", .str "out", .str "back"]
 jP:CT K mg "ENDS_OF_SPOTS" [.str "look", .str "out", .str "back"]
 fT:DJ w K mg
 vO:CT K mg "SIDES" [.int 0,.int 1]
def gM(H H':Hp):Prop:=∀b xs,H b=some (.tup xs)->H' b=some (.tup xs)
def sT(e:aB H H'):gM H H':=λb xs h=>e b _ h
def gM.refl(H:Hp):gM H H:=λ_ _ h=>h
def gM.trans{H1 H2:Hp}(a:gM H H1)(b:gM H1 H2):gM H H2:=λc o h=>b c o (a c o h)
def bU{n:Nat}(h:n<100000):n<sizeLine:=bS h (by decide)
def xy{α:Type}{xs:List α}{i:Int}(h0:0<=i)(h1:i<xs.length):∃v,nF xs i=some v/\v∈xs:=by
 have e:i=((i.toNat:Nat):Int):=by omega
 have h2:i.toNat<xs.length:=by omega
 refine⟨xs[i.toNat],?_,jI h2⟩;have q:nF xs ((i.toNat:Nat):Int)=some xs[i.toNat]:=fP (by simp[h2]);rw[<- e] at q;exact q
def qW{ns:List Int}{i:Int}(h0:0<=i)(h1:i<ns.length):∃v,nF (ns.map V.int) i=some (.int v):=by obtain⟨v,e,m⟩:=xy (xs:=ns.map V.int) h0 (by simpa using h1);obtain⟨n,_,rfl⟩:=aF.mp m;exact⟨n,e⟩
def lM{ns:List Int}{i:Int}(h0:0<=i)(h1:i<ns.length):∃v,nF (ns.map V.int) i=some (.int v)/\v∈ns:=by obtain⟨v,e,m⟩:=xy (xs:=ns.map V.int) h0 (by simpa using h1);obtain⟨n,hn,rfl⟩:=aF.mp m;exact⟨n,e,hn⟩
def bH{a:Int}(h:0<b):0<=a % b/\a % b<b:=⟨Int.emod_nonneg _ (by omega),Int.emod_lt_of_pos _ h⟩
def DL(K:aD):Sp:=λvs H Q _=>∃(a:Addr)(ns:List Int),vs=[.ref a]/\bE K H a (ns.map V.int)/\ns.length<=63/\∀H',Q (.bl true) H'
inductive Row where
 | num (d k v q:Int)|copy (d k i q:Int)|op (d:Int) (s:Str) (k i j q:Int)|out (i q:Int)|fork (i q p:Int)|look (i q:Int)|mark (q:Int)|back (i:Int)
def Row.key:Row->Str
 | .num .. => "num" | .copy .. => "copy" | .op .. => "op" | .out .. => "out" | .fork .. => "fork" | .look .. => "look" | .mark .. => "mark" | .back .. => "back"
def Row.parts:Row->List Str
 | .num ..=>["side", "box", "value", "place"]|.copy ..=>["side", "box", "box", "place"]|.op ..=>["side", "sign", "box", "box", "box", "place"]|.out ..=>["box", "place"]
 | .fork ..=>["box", "place", "place"]|.look ..=>["box", "place"]|.mark ..=>["place"]|.back ..=>["box"]
def Row.rest:Row->List V
 | .num d k v q=>[.int d,.int k,.int v,.int q]|.copy d k i q=>[.int d,.int k,.int i,.int q]|.op d s k i j q=>[.int d,.str s,.int k,.int i,.int j,.int q]
 | .out i q=>[.int i,.int q]|.fork i q p=>[.int i,.int q,.int p]|.look i q=>[.int i,.int q]|.mark q=>[.int q]|.back i=>[.int i]
def Row.DM:Row->List PyData
 | .num d k v q=>[.int d,.int k,.int v,.int q]|.copy d k i q=>[.int d,.int k,.int i,.int q]|.op d s k i j q=>[.int d,.str s,.int k,.int i,.int j,.int q]
 | .out i q=>[.int i,.int q]|.fork i q p=>[.int i,.int q,.int p]|.look i q=>[.int i,.int q]|.mark q=>[.int q]|.back i=>[.int i]
def Row.vals(r:Row):List V:=.str r.key::r.rest
def Row.data(r:Row):PyData:=.tuple (.str r.key::r.DM)
def Row.ways:Row->List Int
 | .num _ _ _ q=>[q]|.copy _ _ _ q=>[q]|.op _ _ _ _ _ q=>[q]|.out _ q=>[q]|.fork _ q p=>[q,p]|.look _ q=>[q]|.mark q=>[q]|.back _=>[]
def signs:List Str:=["+", "-", "*", "/", "<", "=", "&", "|", "^"]
def xA(d:Int):Prop:=0<=d/\d<3
def fq(d:Int):Prop:=0<=d/\d<8
def isVal(d:Int):Prop:=0<=d/\d<281474976710656
def jQ(n d:Int):Prop:=0<=d/\d<n
def Row.ok(n:Int):Row->Prop
 | .num d k v q=>xA d/\fq k/\isVal v/\jQ n q
 | .copy d k i q=>xA d/\fq k/\fq i/\jQ n q
 | .op d s k i j q=>xA d/\s∈signs/\fq k/\fq i/\fq j/\jQ n q
 | .out i q=>fq i/\jQ n q
 | .fork i q p=>fq i/\jQ n q/\jQ n p
 | .look i q=>fq i/\jQ n q
 | .mark q=>jQ n q
 | .back i=>fq i
def Row.ir(h:r.ok n):∀q∈r.ways,0<=q/\q<n:=by
 cases r<;>simp only[Row.ok] at h<;>simp only[Row.ways,aI,fY,or_false]<;>intro q hq
 .rw[hq];exact h.2.2.2
 .rw[hq];exact h.2.2.2
 .rw[hq];exact h.2.2.2.2.2
 .rw[hq];exact h.2
 .rcases hq with e|e<;>rw[e]
  .exact h.2.1
  .exact h.2.2
 .rw[hq];exact h.2
 .rw[hq];exact h
 .exact hq.elim
def Row.oU(r:Row):r.ways.length<=2:=by cases r<;>simp[Row.ways]
def LY:∀s∈(["num", "copy", "op", "out", "fork", "look", "mark", "back"]:List Str),PyData.strOk s=true:=by decide +kernel
def Row.Qn(r:Row):PyData.strOk r.key=true:=by cases r<;>exact LY _ (by simp[Row.key])
def Jh:∀s∈signs,PyData.strOk s=true:=by decide +kernel
def Row.LZ(h:r.ok n):Sh 1 r.data:=by
 refine Sh.tup λd hd=>?_;rcases aI.mp hd with e|hd
 .rw[e];exact .str r.Qn
 .cases r<;>simp only[Row.DM,aI,fY,or_false] at hd
  case op d s k i j q =>
   rcases hd with e|e|e|e|e|e<;>rw[e]
   .exact .int _
   .exact .str (Jh _ h.2.1)
   all_goals exact .int _
  case mark q=>rw[hd];exact .int _
  case back q=>rw[hd];exact .int _
  case out q=>rcases hd with e|e<;>rw[e]<;>exact .int _
  case look q=>rcases hd with e|e<;>rw[e]<;>exact .int _
  case fork q=>rcases hd with e|e|e<;>rw[e]<;>exact .int _
  all_goals rcases hd with e|e|e|e<;>rw[e]<;>exact .int _
def Row.L1(r:Row):qL K H r.vals (.str r.key::r.DM):=by refine .cons (.str _) ?_;cases r<;>simp only[Row.rest,Row.DM]<;>repeat (first|exact qL.nil|refine qL.cons (by first|exact .int _|exact .str _) ?_)
def tE(H:Hp)(v:V)(r:Row):Prop:=∃a,v=.ref a/\H a=some (.tup r.vals)
abbrev Rows(H:Hp):List V->List Row->Prop:=Paired (tE H)
def tE.same(e:aB H H')(h:tE H v r):tE H' v r:=let⟨a,e1,e2⟩:=h;⟨a,e1,e _ _ e2⟩
def tE.jk(e:gM H H')(h:tE H v r):tE H' v r:=let⟨a,e1,e2⟩:=h;⟨a,e1,e _ _ e2⟩
theorem Rows.same(e:aB H H')(h:Rows H vs rs):Rows H' vs rs:=dH (λ_ _ q=>q.same e) h
theorem Rows.jk(e:gM H H')(h:Rows H vs rs):Rows H' vs rs:=dH (λ_ _ q=>q.jk e) h
theorem br{α β:Type}{F:α->β->Prop}:∀{xs:List α}{ys:List β},Paired F xs ys->∀{i:Nat}{x:α},xs[i]?=some x->∃y,ys[i]?=some y/\F x y
 | _,_,.nil,i,x,h=>by simp at h
 | _,_,.cons a t,0,x,h=>by simp at h;subst h;exact⟨_,rfl,a⟩
 | _,_,.cons a t,i+1,x,h=>by obtain⟨y,h1,h2⟩:=br t (i:=i) (x:=x) (by simpa using h);exact⟨y,by simpa using h1,h2⟩
theorem Rows.rd:∀{vs:List V}{rs:List Row},Rows H vs rs->qL K H vs (rs.map Row.data)
 | _,_,.nil=>.nil
 | _,_,.cons h t=>by obtain⟨a,rfl,e⟩:=h;exact .cons (.tup (cM.of e) (Row.L1 _)) (Rows.rd t)
def xB(h:∀r∈rs,r.ok n):Sh 2 (.list (rs.map Row.data)):=Sh.list λd hd=>by obtain⟨r,hr,rfl⟩:=aF.mp hd;exact Row.LZ (h r hr)
def qa{α:Type}{xs:List α}(hn:xs.Nodup){a:α}(hi:xs[i]?=some a)(hj:xs[j]?=some a):i=j:=by
 obtain⟨h1,e1⟩:=fu hi;obtain⟨h2,e2⟩:=fu hj;have q:=lg.mp hn;rcases lX i j with h|h|h
 .exact absurd (e1.trans e2.symm) (q i j h1 h2 h)
 .exact h
 .exact absurd (e2.trans e1.symm) (q j i h2 h1 h)
section
variable {P:Program}{w:World}{K:aD}{mg:Str->Option Value}{base:Heap}
def Qo(K:aD):Sp:=λvs H Q _=>∃(a:Addr)(ns:List Int)(k:Int),vs=[.ref a,.int k]/\bE K H a (ns.map V.int)/\0<=k/\∀c:Int,Q (.int c) H
def gu(T:Txt w K mg):b7 P w K mg base gT 1 T.ig.f T.ig.d ["_law_script", "_law_k"] (Qo K):=by
 refine T.ig.F.ok B6 (λvs H Q E h=>?_) (λcdv A outer s H vs Q E hr h=>?_)
 .obtain⟨a,ns,k,rfl,_⟩:=h;rfl
 obtain⟨a,ns,k,rfl,hS,h0,q⟩:=h;refine⟨_,(ak (cN (aG iz (pv 1) (aT bI rfl T.eS BT.eO (aa (pv 0) ai)) (aM _))
 (au (aJ (aS bL (pv 0) (pv 1) (λ_ _=>rfl))))
 bu)
 (au (aJ af))),?_⟩
 have hl:(ns.map V.int).length=ns.length:=av _;show(_:TS) (Ends.mk _ _ _ _) [_,_] H;walk_at "start";walk_at "go"
 .obtain⟨v0,hv0⟩:=qW (ns:=ns) (i:=k) (by omega) (by omega);refine cJ hS hv0 ?_;exact q _
 .exact q _
def L3:Sp:=λvs H Q _=>∃(n k:Int),vs=[.int n,.int k]/\∀c,0<=c->c<2147483587->Q (.int c) H
def oW(T:Txt w K mg):b7 P w K mg base gT 1 T.mixed.f T.mixed.d ["_law_cell", "_law_k"] L3:=by
 refine T.mixed.F.ok zG (λvs H Q E h=>?_) (λcdv A outer s H vs Q E hr h=>?_)
 .obtain⟨n,k,rfl,_⟩:=h;rfl
 obtain⟨n,k,rfl,q⟩:=h;refine⟨_,(ak (aE (i:=2) zG.nd rfl (ao rfl) (ay bh (ay aZ (ay aZ (ay jb (ay bh (pv 0) af) (ay aZ af (ay jb af (pv 1)))) (ay jb af (pv 1))) af) af))
 (au (aJ (ay bh (ay jb (pv 2) (pv 2)) af)))),?_⟩
 show(_:TS) (Ends.mk _ _ _ _) [_,_,_] H;walk_at "start";walk_at "go";exact q _ (bH (by decide)).1 (bH (by decide)).2
def Ji:Sp:=λvs H Q _=>∃(n:Int),vs=[.int n]/\∀c,Q (.int c) H
def vP(T:Txt w K mg):b7 P w K mg base gT 2 T.spread.f T.spread.d ["_law_number"] Ji:=by
 refine T.spread.F.ok mq (λvs H Q E h=>?_) (λcdv A outer s H vs Q E hr h=>?_)
 .obtain⟨n,rfl,_⟩:=h;rfl
 obtain⟨n,rfl,q⟩:=h;refine⟨_,(ak (aE (i:=1) mq.nd rfl (ao rfl) af)
 (ak (eK bX rfl (dw rfl T.eW (aa af ai)) (aX (i:=2) mq.nd rfl (ao rfl))
 (au (aE (i:=1) mq.nd rfl (ao rfl) (ay aZ (ay jb (pv 1) af) (aP T.mixed (oW T) hr (aa (pv 0) (aa (pv 2) ai)))))))
 (au (aJ (pv 1))))),?_⟩
 show(_:TS) (Ends.mk _ _ _ _) [_,_,_] H;walk_at "start";walk_at "go";refine qJ (λi σ' H'=>H'=H/\∃(m:Int)(x:Option V),σ'=[some (.int n),some (.int m),x]) ?_ ?_ ?_
 .exact⟨rfl,_,_,rfl⟩
 .rintro i σ' H' hi ⟨rfl,m,x,rfl⟩;walk_at "go";refine⟨n,_,rfl,λc c0 c1=>?_⟩;walk_at "go";exact⟨rfl,_,_,rfl⟩
 .rintro σ' H' ⟨rfl,m,x,rfl⟩;walk_at "go";exact q _
def lN{n:Nat}{k:Int}(h0:0<=k)(h:k<n):EO n k=some k.toNat:=by unfold EO;rw[if_pos h0,if_pos h]
def ints_set(ms:List Int)(j:Nat)(v:Int):(ms.map V.int).set j (.int v)=(ms.set j v).map V.int:=by rw[List.map_set]
def Qp(K:aD):Sp:=λvs H Q _=>∃(a:Addr)(ns:List Int)(n:Nat),vs=[.ref a,.int n]/\bE K H a (ns.map V.int)/\ns.length<=63/\0<n/\n<=1000 /\
 ∀q H' (ks:List Int),aB H H'->H' q=some (.lst (ks.map V.int))->ks.length=n->Q (.ref q) H'
def tF(T:Txt w K mg):b7 P w K mg base gT 3 T.numbers.f T.numbers.d ["_law_script", "_law_many"] (Qp K):=by
 refine T.numbers.F.ok ji (λvs H Q E h=>?_) (λcdv A outer s H vs Q E hr h=>?_)
 .obtain⟨a,ns,n,rfl,_⟩:=h;rfl
 obtain⟨a,ns,n,rfl,hS,hn,h0,h1,q⟩:=h;refine⟨_,(ak (cN (aG dW (ay bh (aP T.ig (gu T) hr (aa (pv 0) (aa af ai))) af) af (aM _))
 (au (aJ (cP (bD.caps (x := "_law_k") (fr:=["_law_script"]) (ix:=[0]) (nm:=["_law_script"]) rfl rfl (by decide +kernel) rfl (by decide +kernel) rfl (by decide +kernel) ⟨rfl,trivial⟩ rfl (by decide +kernel) rfl ⟨⟨rfl,rfl,rfl⟩,trivial⟩) (dw rfl T.eW (aa (pv 1) ai)) (λ_ _ _ _=>cQ) (λ_ _ _ _=>(aP T.ig (gu T) hr (aa (pv 1) (aa (ay aZ af (pv 0)) ai)))))))
 bu)
 (ak (jy (i:=2) ji.nd rfl (ao rfl) (bD.plain rfl (by decide +kernel) (by decide +kernel) rfl (by decide +kernel) rfl) (dw rfl T.eW (aa (pv 1) ai)) (λ_ _ _ _=>cQ) (λ_ _ _ _=>(ay aZ (ay jb af (pv 0)) af)))
 (ak (eK bX rfl (kC rfl T.fM (aa (c7 kr (pv 0) eV (dX af)) ai)) (nj (n:=2) rfl (bG (aX (i:=3) ji.nd rfl (ao rfl)) (bG (aX (i:=4) ji.nd rfl (ao rfl)) gk)))
 (ak (aE (i:=5) ji.nd rfl (ao rfl) (ay aZ (ay jb (aS bL (pv 2) (ay bh (pv 3) (pv 1)) (λ_ _=>rfl)) af) (ay bh (pv 4) af)))
 (au (ja (ay bh (ay aZ (pv 5) (ay jb af (pv 3))) af) (ko (pv 2) (ay bh (pv 3) (pv 1)) set_list)))))
 (au (aJ (cP (bD.plain rfl (by decide +kernel) (by decide +kernel) rfl (by decide +kernel) rfl) (cI (pv 2)) (λ_ _ _ _=>cQ) (λ_ _ _ _=>(aP T.spread (vP T) hr (aa (pv 0) ai))))))))),?_⟩
 show(_:TS) (Ends.mk _ _ _ _) [_,_,_,_,_,_] H;walk_at "start";walk_at "go";refine⟨a,ns,0,rfl,hS,by decide,λc=>?_⟩;walk_at "go"
 .refine ia (λi ys H'=>H'=H/\∃ks:List Int,ys=ks.map V.int/\ks.length=i) ⟨rfl,[],rfl,rfl⟩ ?_ ?_
  .rintro i ys H' hi ⟨rfl,ks,rfl,hk⟩;refine⟨bU (by rw[av];omega),?_⟩;walk_at "go";refine⟨a,ns,_,rfl,hS,by omega,λc3=>?_⟩;exact⟨rfl,ks++[_],by rw[bF];rfl,by simp[hk]⟩
  .rintro ys H' ⟨rfl,ks,rfl,hk⟩ p H4 n4;exact q p H4 ks n4.same n4.self (by omega)
 .refine ia (λi ys H'=>H'=H/\∃ks:List Int,ys=ks.map V.int/\ks.length=i) ⟨rfl,[],rfl,rfl⟩ ?_ ?_
  .rintro i ys H' hi ⟨rfl,ks,rfl,hk⟩;refine⟨bU (by rw[av];omega),?_⟩;walk_at "go";exact⟨rfl,ks++[_],by rw[bF];rfl,by simp[hk]⟩
  rintro ys H' ⟨rfl,ks,rfl,hk⟩ f H4 n4;have hk:ks.length=n:=by omega
  walk_at "go";rename_i c5 H5 n5;have Qq:=fG (ns.map V.int) none (some 63);rw[av] at Qq;have hci:∃ms:List Int,iP (ns.map V.int) none (some 63)=ms.map V.int:=⟨_,by unfold iP;rw[<- List.map_drop,<- List.map_take]⟩;obtain⟨ms,hms⟩:=hci;rw[hms] at n5 Qq ⊢;rw[av] at Qq;have hne:c5≠f:=λe=>by have h1:=n5.1;rw[e,n4.self] at h1;cases h1
  refine sG (xs:=ms.map V.int) (λi σ' H6=>aB H' H6/\H6 c5=some (.lst (ms.map V.int))/\∃(ks:List Int)(x y z:Option V),σ'=[some (.ref a),some (.int n),some (.ref f),x,y,z]/\H6 f=some (.lst (ks.map V.int))/\ks.length=n) ?_ ?_ ?_ ?_
  .exact⟨n4.same.trans n5.same,n5.self,ks,_,_,_,rfl,n5.keep n4.self,hk⟩
  .rintro i σ' H6 hi ⟨sm,hc,_⟩;exact bE.of hc
  .rintro i x p σ' H6 H7 hx ⟨sm,hc,ks,x1,y1,z1,rfl,hf,hk⟩ n7;rw[bw] at hx;obtain⟨z,hz,rfl⟩:=di.mp hx;have N4:=n7.keep hf;have b:=bH (a:=(i:Int)) (b:=(n:Int)) (by omega);walk_at "go";obtain⟨v,hv⟩:=qW (ns:=ks) (i:=(i:Int) % (n:Int)) b.1 (by omega);refine cJ (bE.of N4) hv ?_;walk_at "go";refine kB N4 (lN b.1 (by rw[av];omega)) ?_;intro H8 p8;rw[ints_set] at p8;walk_at "go";exact⟨p8.same (sm.trans n7.same) n4.1,p8.keep hne (n7.keep hc),_,_,_,_,rfl,p8.self,by rw[eE];exact hk⟩
  .rintro σ' H6 ⟨sm,hc,ks,x1,y1,z1,rfl,hf,hk⟩;walk_at "go";refine gI (xs:=ks.map V.int) (λi ys H7=>H7=H6/\∃ks:List Int,ys=ks.map V.int/\ks.length=i) ⟨rfl,[],rfl,rfl⟩ ?_ ?_ ?_
   .rintro i ys H7 hi ⟨rfl,_⟩;exact bE.of hf
   .rintro i x ys H7 hx ⟨rfl,ls,rfl,hl⟩;rw[bw] at hx;obtain⟨z,hz,rfl⟩:=di.mp hx;have hi:i<ks.length:=(fu hz).1;refine⟨bU (by rw[av];omega),?_⟩;walk_at "go";refine⟨z,rfl,λc=>?_⟩;exact⟨rfl,ls++[_],by rw[bF];rfl,by simp[hl]⟩
   .rintro ys H7 ⟨rfl,ls,rfl,hl⟩ p H8 n8;exact q p H8 ls (sm.trans n8.same) n8.self (by rw[hl,av,hk])
def Qs(K:aD):Sp:=λvs H Q _=>∃(a:Addr)(ns:List Int)(m:Int),vs=[.ref a,.int m]/\bE K H a (ns.map V.int)/\0<m/\m<=1000 /\
 ∀q H' (ks:List Int),aB H H'->H' q=some (.lst (ks.map V.int))->0<ks.length->ks.length<=1000->(∀k∈ks,fq k)->Q (.ref q) H'
def DN(T:Txt w K mg):b7 P w K mg base gT 2 T.pool.f T.pool.d ["_law_script", "_law_most"] (Qs K):=by
 refine T.pool.F.ok w6 (λvs H Q E h=>?_) (λcdv A outer s H vs Q E hr h=>?_)
 .obtain⟨a,ns,n,rfl,_⟩:=h;rfl
 obtain⟨a,ns,m,rfl,hS,h0,h1,q⟩:=h;refine⟨_,(ak (aE (i:=2) w6.nd rfl (cg rfl) (aP T.ig (gu T) hr (aa (pv 0) (aa af ai))))
 (iR (cN (aG dW (ay bh (aP T.ig (gu T) hr (aa (pv 0) (aa af ai))) af) af (aM _))
 (au (aE (i:=2) w6.nd rfl (cg rfl) (aP T.mixed (oW T) hr (aa (pv 2) (aa af ai)))))
 bu)
 (au (aJ (cP (bD.caps (x := "_law_k") (fr:=["_law_cell"]) (ix:=[2]) (nm:=["_law_cell"]) rfl rfl (by decide +kernel) rfl (by decide +kernel) rfl (by decide +kernel) ⟨rfl,trivial⟩ rfl (by decide +kernel) rfl ⟨⟨rfl,rfl,rfl⟩,trivial⟩) (dw rfl T.eW (aa (ay aZ af (ay bh (pv 2) (pv 1))) ai)) (λ_ _ _ _=>cQ) (λ_ _ _ _=>(ay bh (ay aZ (ay bT (pv 1) af) (ay jb af (pv 0))) af))))))),?_⟩
 show(_:TS) (Ends.mk _ _ _ _) [_,_,_] H;walk_at "start";walk_at "go";refine⟨a,ns,1,rfl,hS,by decide,λc=>?_⟩;walk_at "go";refine ql (λσ' H'=>H'=H/\∃c:Int,σ'=[some (.ref a),some (.int m),some (.int c)]) ?_ ?_
 .walk_at "go";refine⟨a,ns,0,rfl,hS,by decide,λc0=>?_⟩;walk_at "go"
  .refine⟨c,_,rfl,λc2 _ _=>?_⟩;walk_at "go";exact⟨rfl,_,rfl⟩
  .exact⟨rfl,_,rfl⟩
 rintro _ H' ⟨rfl,c,rfl⟩;have b:=bH (a:=c) h0;walk_at "go";refine ia (λi ys H1=>H1=H'/\∃ks:List Int,ys=ks.map V.int/\ks.length=i/\∀k∈ks,fq k) ⟨rfl,[],rfl,rfl,λk h=>nomatch h⟩ ?_ ?_
 .rintro i ys H1 hi ⟨rfl,ks,rfl,hk,hb⟩;refine⟨bU (by rw[av];omega),?_⟩;walk_at "go";refine⟨rfl,ks++[_],by rw[bF];rfl,by simp[hk],λk h=>?_⟩;rcases aO.mp h with h|h
  .exact hb k h
  .rw[aA.mp h];exact bH (by decide)
 .rintro ys H1 ⟨rfl,ks,rfl,hk,hb⟩ p H4 n4;exact q p H4 ks n4.same n4.self (by omega) (by omega) hb
def Jj(h0:0<=s)(h1:s<9):∃ch,nF ("+-*/<=&|^" : Str).cps.toList s=some ch/\(⟨#[ch]⟩:Str)∈signs:=by
 obtain⟨ch,hch,Ua⟩:=xy (xs:=("+-*/<=&|^" : Str).cps.toList) (i:=s) h0 (by show s<9;omega);have all:∀ch∈("+-*/<=&|^" : Str).cps.toList,(⟨#[ch]⟩:Str)∈signs:=by decide
 exact⟨ch,hch,all ch Ua⟩
def picks(part:Str)(xs:List Str)(ys:List V):List V:=((xs.zip ys).filter λx=>decide (x.1=part)).map (·.2)
def B8{part x:Str}{y:V}{xs:List Str}{ys:List V}(hx:xs[i]?=some x)(hy:ys[i]?=some y):picks part (xs.take (i+1)) (ys.take (i+1))=picks part (xs.take i) (ys.take i)++if x=part then[y] else[]:=by
 have h1:i<xs.length:=(fu hx).1;have h2:i<ys.length:=(fu hy).1;unfold picks;rw[cB,cB,hx,hy,List.zip_append (by rw[cF,cF];omega),jF,bF]
 congr 1
 by_cases e:x=part
 .simp[e]
 .simp[e]
def zR(r:Row):picks "place" r.parts r.rest=r.ways.map V.int:=by cases r<;>rfl
def DO(r:Row):r.rest.length=r.parts.length:=by cases r<;>rfl
def vQ(r:Row):r.rest.length<=6:=by cases r<;>simp[Row.rest]
def Ub(x:V)(xs:List V):iP (x::xs) (some 1) none=xs:=by
 unfold iP;have e:HT.dB (x::xs).length 0 (some 1)=1:=by rw[show(some (1:Int))=some ((1:Nat):Int) from rfl,HT.qI];simp
 rw[e,HT.yp];simp
def zS(T:Txt w K mg)(r:Row):∃p,e9 [(.inr "num", .ref T.fT.oE),(.inr "copy", .ref T.fT.oF),(.inr "op", .ref T.fT.oG),(.inr "out", .ref T.fT.oH),(.inr "fork", .ref T.fT.oJ),(.inr "look", .ref T.fT.oK),(.inr "mark", .ref T.fT.oM),(.inr "back", .ref T.fT.oN)] (.inr r.key:Key)=some (V.ref p)/\iA K p (r.parts.map V.str):=by
 cases r
 .exact⟨_,rfl,T.fT.zI⟩
 .exact⟨_,rfl,T.fT.zJ⟩
 .exact⟨_,rfl,T.fT.zK⟩
 .exact⟨_,rfl,T.fT.zL⟩
 .exact⟨_,rfl,T.fT.zM⟩
 .exact⟨_,rfl,T.fT.zN⟩
 .exact⟨_,rfl,T.fT.zO⟩
 .exact⟨_,rfl,T.fT.zP⟩
def FD(K:aD):Sp:=λvs H Q _=>∃(a:Addr)(r:Row)(part:Str),vs=[.ref a,.str part]/\H a=some (.tup r.vals)/\∀p H',aB H H'->H p=none->H' p=some (.lst (picks part r.parts r.rest))->Q (.ref p) H'
def jR(T:Txt w K mg):b7 P w K mg base gT 1 T.gY.f T.gY.d ["row", "part"] (FD K):=by
 refine T.gY.F.ok uJ (λvs H Q E h=>?_) (λcdv A outer s H vs Q E hr h=>?_)
 .obtain⟨a,r,part,rfl,_⟩:=h;rfl
 obtain⟨a,r,part,rfl,ha,q⟩:=h;refine⟨_,(au (aJ (yG (iS.of (xs:=["own", "number"]) (bD.caps (x := "own") (fr:=["part"]) (ix:=[1]) (nm:=["part"]) rfl rfl (by decide +kernel) rfl (by decide +kernel) rfl (by decide +kernel) ⟨rfl,trivial⟩ rfl (by decide +kernel) rfl ⟨⟨rfl,rfl,rfl⟩,trivial⟩) (by decide +kernel)) (Bu rfl T.Jg (aa (yK T.fT.xm (gj (v:=.ref T.fT.oB) rfl T.fT.xj rfl) (aS cO (pv 0) af (λ_ _=>rfl)) (λ_ _=>rfl)) (aa (c7 kq (pv 0) (dX af) eV) ai))) (λ_ _ _ _=>(qM (K:=K) rfl (n:=2) rfl (bG (aX (i:=0) (show(["own", "number", "part"]:List Str).Nodup from by decide +kernel) rfl (ao rfl)) (bG (aX (i:=1) (show(["own", "number", "part"]:List Str).Nodup from by decide +kernel) rfl (ao rfl)) gk)))) (λ_ _ _ _=>(nq (aG dW (pv 0) (pv 2) (aM _)))) (λ_ _ _ _=>(pv 1))))),?_⟩;obtain⟨pp,hpp,cp⟩:=zS T r;show(_:TS) (Ends.mk _ _ _ _) [_,_] H;walk_at "start";walk_at "go";refine Tq hpp ?_;walk_at "go";rename_i t H1 n1;have et:iP r.vals (some 1) none=r.rest:=Ub _ _;rw[et] at n1 ⊢;have hlen:=DO r;have hsm:=vQ r;refine HK (λi zs τ H'=>aB H1 H'/\zs=picks part (r.parts.take i) (r.rest.take i)/\∃x y,τ=[x,y,some (.str part)]) ?_ ?_ ?_ ?_ ?_
 .exact⟨aB.refl _,by simp[picks],_,_,rfl⟩
 .rintro i zs τ H' hi ⟨sm,rfl,x,y,rfl⟩;refine⟨iA.sq cp,cM.of (sm _ _ n1.self),?_⟩;unfold picks;rw[av];refine bJ (i8 _ _) ?_;rw[List.length_zip,cF];omega
 .rw[av];omega
 .rintro i x y p zs τ H' H2 hx hy ⟨sm,rfl,x0,y0,rfl⟩ n2;rw[bw] at hx;obtain⟨x',hx',rfl⟩:=di.mp hx;have e:=B8 (part:=part) hx' hy;walk_at "go"
  .rename_i he;rw[if_pos he] at e;exact⟨by walk_at "same", e.symm,_,_,rfl⟩
  .rename_i he;rw[if_neg he,i0] at e;exact⟨by walk_at "same", e.symm,_,_,rfl⟩
 .rintro zs τ H' ⟨sm,rfl,x,y,rfl⟩ p H2 n2;refine q p H2 (by walk_at "same") (by walk_at "free") ?_;rw[n2.self,av,hlen,Nat.min_self,cG,<- hlen,cG]
def Qt(K:aD):Sp:=λvs H Q _=>∃(a:Addr)(r:Row),vs=[.ref a]/\H a=some (.tup r.vals)/\∀p H',aB H H'->H p=none->H' p=some (.lst (r.ways.map V.int))->Q (.ref p) H'
def tG(T:Txt w K mg):b7 P w K mg base gT 2 T.oO.f T.oO.d ["row"] (Qt K):=by
 refine T.oO.F.ok B3 (λvs H Q E h=>?_) (λcdv A outer s H vs Q E hr h=>?_)
 .obtain⟨a,r,rfl,_⟩:=h;rfl
 obtain⟨a,r,rfl,ha,q⟩:=h;refine⟨_,(au (aJ (aP T.gY (jR T) hr (aa (pv 0) (aa bz ai))))),?_⟩;show(_:TS) (Ends.mk _ _ _ _) [_] H;walk_at "start";walk_at "go";refine⟨a,r, "place", rfl,ha,λp H' sm hp e=>?_⟩;rw[zR] at e;exact q p H' sm hp e
end
def Row.cU(f:Int->Int):Row->Row
 | .num d k v q=>.num d k v (f q)|.copy d k i q=>.copy d k i (f q)|.op d s k i j q=>.op d s k i j (f q)|.out i q=>.out i (f q)|.fork i q p=>.fork i (f q) (f p)|.look i q=>.look i (f q)|.mark q=>.mark (f q)|.back i=>.back i
def Row.FE(f:Int->Int)(r:Row):(r.cU f).key=r.key:=by cases r<;>rfl
def Row.FF(f:Int->Int)(r:Row):(r.cU f).rest.length=r.rest.length:=by cases r<;>rfl
def FG(f:Int->Int)(r:Row):∀(i:Nat)(x:Str)(y:V),r.parts[i]?=some x->r.rest[i]?=some y->(x = "place" /\ ∃z∈r.ways,y=.int z/\(r.cU f).rest[i]?=some (.int (f z)))\/(x ≠ "place" /\ (r.cU f).rest[i]?=some y):=by
 intro i x y hx hy;cases r<;>rcases i with _|_|_|_|_|_|i<;>simp only[Row.parts,Row.rest,List.getElem?_cons_zero,rP,List.getElem?_nil,Option.some.injEq,reduceCtorEq] at hx hy
 all_goals subst hx hy
 all_goals first
  | exact .inl ⟨rfl,_,by simp[Row.ways],rfl,rfl⟩
  | exact .inr ⟨by decide,rfl⟩
def DP{Q:VK}{te:TE}{τ:L2.St}(f:Row->Row)(hS:bE K H a us)(hrs:Rows H us rs)(hz:us.length<=100000)
  (he:∀r∈rs,∀ra H1,aB H H1->H1 ra=some (.tup (Row.vals r))->∀Q:VK,(∀t H2,aB H1 H2->H2 t=some (.tup (f r).vals)->Q (.ref t) H2)->te (some (.ref ra)::τ) H1 Q)
  (h:∀us' p H1 H',aB H H1->fh H1 p (.lst us') H'->Rows H' us' (rs.map f)->Q (.ref p) H'):Bs (KH K a) Ll te τ Q H:=by
 have qw:=hrs.length;refine gI (xs:=us) (λi ys H'=>aB H H'/\Rows H' ys ((rs.take i).map f)) ⟨aB.refl _,.nil⟩ ?_ ?_ ?_
 .rintro i ys H' hi ⟨sm,_⟩;exact sm.seq hS
 .rintro i x ys H' hx ⟨sm,hys⟩;have hi:i<us.length:=(fu hx).1;refine⟨bU (by rw[hys.length,av,cF];omega),?_⟩;refine NC (Ph ?_);obtain⟨r,hr',⟨ra,rfl,tH⟩⟩:=br hrs hx;refine he r (fB hr') ra H' sm (sm _ _ tH) _ λt H2 s2 ht=>⟨sm.trans s2,?_⟩;rw[cB,hr',bF];exact cH (Rows.same s2 hys) ⟨t,rfl,ht⟩
 .rintro ys H' ⟨sm,hys⟩ p H2 n2;rw[qw,cG] at hys;exact h ys p H' H2 sm n2 (hys.same n2.same)
section
variable {P:Program}{w:World}{K:aD}{mg:Str->Option Value}{base:Heap}
def B9(K:aD):Sp:=λvs H Q _=>∃(a m:Addr)(r:Row)(us:List V)(f:Int->Int),vs=[.ref a,.ref m]/\H a=some (.tup r.vals)/\H m=some (.lst us)/\(∀z∈r.ways,nF us z=some (.int (f z)))/\∀t H',aB H H'->H' t=some (.tup (r.cU f).vals)->Q (.ref t) H'
def oX(T:Txt w K mg):b7 P w K mg base gT 1 T.j3.f T.j3.d ["row", "moved"] (B9 K):=by
 refine T.j3.F.ok oA (λvs H Q E h=>?_) (λcdv A outer s H vs Q E hr h=>?_)
 .obtain⟨a,m,r,us,f,rfl,_⟩:=h;rfl
 obtain⟨a,m,r,us,f,rfl,ha,hm,hf,q⟩:=h;refine⟨_,(ak (yL (i:=2) oA.nd rfl (ao rfl) (iS.of (xs:=["part", "number"]) (bD.caps (x := "part") (fr:=["moved"]) (ix:=[1]) (nm:=["moved"]) rfl rfl (by decide +kernel) rfl (by decide +kernel) rfl (by decide +kernel) ⟨rfl,trivial⟩ rfl (by decide +kernel) rfl ⟨⟨rfl,rfl,rfl⟩,trivial⟩) (by decide +kernel)) (Bu rfl T.Jg (aa (yK T.fT.xm (gj (v:=.ref T.fT.oB) rfl T.fT.xj rfl) (aS cO (pv 0) af (λ_ _=>rfl)) (λ_ _=>rfl)) (aa (c7 kq (pv 0) (dX af) eV) ai))) (λ_ _ _ _=>(qM (K:=K) rfl (n:=2) rfl (bG (aX (i:=0) (show(["part", "number", "moved"]:List Str).Nodup from by decide +kernel) rfl (ao rfl)) (bG (aX (i:=1) (show(["part", "number", "moved"]:List Str).Nodup from by decide +kernel) rfl (ao rfl)) gk)))) (λ_ _ _ _=>cQ) (λ_ _ _ _=>(f7 (aG dW (pv 0) bz (aM _)) (aS (gJ (K:=K) rfl) (pv 2) (pv 1) (λ_ _=>rfl)) (pv 1))))
 (au (aJ (dz vf rfl T.DK BT.CV (aa (ay su (dN (aa (aS cO (pv 0) af (λ_ _=>rfl)) ai)) (pv 2)) ai))))),?_⟩
 obtain⟨pp,hpp,cp⟩:=zS T r;show(_:TS) (Ends.mk _ _ _ _) [_,_,_] H;walk_at "start";walk_at "go";refine Tq hpp ?_;walk_at "go";rename_i t H3 n3;have et:iP r.vals (some 1) none=r.rest:=Ub _ _;rw[et] at n3 ⊢;have hlen:=DO r;have hsm:=vQ r;have hml:=Row.FF f r;have hm3:=n3.keep hm;refine HK (λi zs τ H'=>aB H3 H'/\zs=(r.cU f).rest.take i/\∃x y,τ=[x,y,some (.ref m)]) ?_ ?_ ?_ ?_ ?_
 .exact⟨aB.refl _,rfl,_,_,rfl⟩
 .rintro i zs τ H' hi ⟨sm,rfl,x,y,rfl⟩;refine⟨iA.sq cp,cM.of (sm _ _ n3.self),?_⟩;rw[cF];omega
 .rw[av];omega
 .rintro i x y p zs τ H' H4 hx hy ⟨sm,rfl,x0,y0,rfl⟩ n4;rw[bw] at hx;obtain⟨x',hx',rfl⟩:=di.mp hx;have Wa:H4 m=some (.lst us):=n4.keep (sm _ _ hm3);rcases FG f r i x' y hx' hy with⟨rfl,z,hz,rfl,e⟩|⟨hne,e⟩
  .walk_at "go";refine cJ (bE.of Wa) (hf z hz) ?_;refine⟨sm.trans n4.same,?_,_,_,rfl⟩;rw[cB,e];rfl
  .walk_at "go";refine⟨sm.trans n4.same,?_,_,_,rfl⟩;rw[cB,e];rfl
 .rintro zs τ H' ⟨sm,rfl,x,y,rfl⟩ p H4 n4;rw[av,hlen,Nat.min_self,<- hlen,<- hml,cG] at n4;have Uc:H4 a=some (.tup r.vals):=n4.keep (sm _ _ (n3.keep ha));walk_at "go";rename_i l5 H5 n5 l6 H6 n6 l7 H7 n7;refine q _ _ ((((n3.same.trans sm).trans n4.same).trans n5.same).trans (n6.same.trans n7.same)) ?_;rw[n7.self];show _=some (HO.tup (.str (r.cU f).key::(r.cU f).rest));rw[Row.FE];rfl
end
def Row.mS:Row->List Int
 | .num _ k _ _=>[k]|.copy _ k i _=>[k,i]|.op _ _ k i j _=>[k,i,j]|.out i _=>[i]|.fork i _ _=>[i]|.look i _=>[i]|.mark _=>[]|.back i=>[i]
def Row.gE:Row->Bool
 | .num ..=>true|.copy ..=>true|.op ..=>true|_=>false
def Row.sd:Row->Int
 | .num d _ _ _=>d|.copy d _ _ _=>d|.op d _ _ _ _ _=>d|_=>2
def vR(r:Row):picks "box" r.parts r.rest=r.mS.map V.int:=by cases r<;>rfl
def lO(h:r.ok n):∀b∈r.mS,0<=b/\b<8:=by
 cases r<;>simp only[Row.ok] at h<;>simp only[Row.mS,aI,fY,or_false]<;>intro b hb
 .rw[hb];exact h.2.1
 .rcases hb with e|e<;>rw[e]
  .exact h.2.1
  .exact h.2.2.1
 .rcases hb with e|e|e<;>rw[e]
  .exact h.2.2.1
  .exact h.2.2.2.1
  .exact h.2.2.2.2.1
 .rw[hb];exact h.1
 .rw[hb];exact h.1
 .rw[hb];exact h.1
 .exact hb.elim
 .rw[hb];exact h
def L4(r:Row):r.mS.length<=3:=by cases r<;>simp[Row.mS]
abbrev bQ(H:Hp):List V->List (Int×Int)->Prop:=Paired λv p=>∃a,v=.ref a/\H a=some (.tup [.int p.1,.int p.2])
def bQ.same(e:aB H H')(h:bQ H vs ps):bQ H' vs ps:=dH (λ_ _ ⟨a,h1,h2⟩=>⟨a,h1,e _ _ h2⟩) h
def bQ.jk(e:gM H H')(h:bQ H vs ps):bQ H' vs ps:=dH (λ_ _ ⟨a,h1,h2⟩=>⟨a,h1,e _ _ h2⟩) h
def gO(r:Row)(s:Int):Bool:=!r.gE||decide (r.sd=s)||decide (r.sd=2)
def kN(r:Row)(bs:List Int):List (Int×Int):=[0,1].flatMap λs=>if gO r s then(SN.fm bs).map λb=>(s,b) else[]
def qX(r:Row):uA (.str r.key) [.str "num", .str "copy", .str "op"]=r.gE:=by
 have k:∀x∈(["num", "copy", "op"]:List Str),uA (.str x) [.str "num", .str "copy", .str "op"]=true:=by decide +kernel
 have n:∀x∈(["out", "fork", "look", "mark", "back"]:List Str),uA (.str x) [.str "num", .str "copy", .str "op"]=false:=by decide +kernel
 cases r<;>first|exact k _ (by simp[Row.key])|exact n _ (by simp[Row.key])
def L5(h:r.gE=true):nF r.vals 1=some (.int r.sd):=by cases r<;>first|rfl|cases h
def L6(d s:Int):uA (.int d) [.int s,.int 2]=(decide (d=s)||decide (d=2)):=by simp only[uA,jE,List.any_nil,Bool.or_false,Lg];rw[show(s==d)=decide (d=s) from by rw[Bool.beq_comm];rfl,show((2:Int)==d)=decide (d=2) from by rw[Bool.beq_comm];rfl]
def Ca(r:Row)(bs:List Int)(h:([0,1]:List Int)[i]?=some s):(([0,1]:List Int).take (i+1)).flatMap (λs=>if gO r s then(SN.fm bs).map λb=>(s,b) else[])=(([0,1]:List Int).take i).flatMap (λs=>if gO r s then(SN.fm bs).map λb=>(s,b) else[])++if gO r s then(SN.fm bs).map λb=>(s,b) else[]:=by rw[cB,h,List.flatMap_append];simp
def j4(ns:List Int):(SN.fm ns).length<=8:=by unfold SN.fm;rw[av];exact bJ (i8 ..) (by simp)
theorem gZ{α β:Type}{F:α->β->Prop}:∀{xs:List α}{ys:List β}{xs':List α}{ys':List β},Paired F xs ys->Paired F xs' ys'->Paired F (xs++xs') (ys++ys')
 | _,_,_,_,.nil,h=>h
 | _,_,_,_,.cons a t,h=>.cons a (gZ t h)
section
variable {P:Program}{w:World}{K:aD}{mg:Str->Option Value}{base:Heap}
def DQ:Sp:=λvs H Q _=>∃(a b:Addr)(r:Row)(bs:List Int),vs=[.ref a,.ref b]/\H a=some (.tup r.vals)/\H b=some (.lst (bs.map V.int))/\(∀n∈bs,0<=n/\n<8)/\bs.length<=3 /\
 ∀(l:Addr)(us:List V)(H':Hp),aB H H'->H l=none->H' l=some (.lst us)->bQ H' us (kN r bs)->Q (.ref l) H'
def zT(T:Txt w K mg):b7 P w K mg base gT 1 T.zQ.f T.zQ.d ["row", "boxes"] DQ:=by
 refine T.zQ.F.ok sX (λvs H Q E h=>?_) (λcdv A outer s H vs Q E hr h=>?_)
 .obtain⟨a,b,r,bs,rfl,_⟩:=h;rfl
 obtain⟨a,b,r,bs,rfl,ha,hb,KP,Ud,q⟩:=h;refine⟨_,(ak (aE (i:=2) sX.nd rfl (ao rfl) (dN ai))
 (ak (eK bX rfl (GL (gj (v:=.ref T.vO.a) rfl T.vO.c rfl)) (aX (i:=3) sX.nd rfl (cg rfl))
 (au (cN (PW.pt (rZ (aG nM (aS cO (pv 0) af (λ_ _=>rfl)) (gj (v:=.ref T.jj.a) rfl T.jj.c rfl) (by with_unfolding_all rfl)) (pN (aG gW (aS cO (pv 0) af (λ_ _=>rfl)) (bB (aa (pv 3) (aa (gj (v:=.int 2) rfl T.Yu.c ⟨_,rfl⟩) ai))) (by with_unfolding_all rfl)))))
 (au (fk (jx dS nG nH jW (pv 2) (aa (cP (bD.caps (x := "box") (fr:=["side"]) (ix:=[3]) (nm:=["side"]) rfl rfl (by decide +kernel) rfl (by decide +kernel) rfl (by decide +kernel) ⟨rfl,trivial⟩ rfl (by decide +kernel) rfl ⟨⟨rfl,rfl,rfl⟩,trivial⟩) (cI (aT (sM rfl) rfl T.oS BT.nV (aa (dz (vq rfl) rfl T.Je BT.CW (aa (pv 1) ai)) ai))) (λ_ _ _ _=>cQ) (λ_ _ _ _=>(bB (aa (pv 1) (aa (pv 0) ai))))) ai))))
 bu)))
 (au (aJ (pv 2))))),?_⟩
 show(_:TS) (Ends.mk _ _ _ _) [_,_,_,_] H;have cd:=T.jj.q;have cs:=T.vO.q;walk_at "start";walk_at "go";rename_i fo H1 n1;have ffo:=n1.1;have Ue:=n1.self;have s1:=n1.same;clear n1;refine f_tup (xs:=[.int 0,.int 1]) (λi σ' H'=>∃x us,σ'=[some (.ref a),some (.ref b),some (.ref fo),x]/\aB H H'/\H' fo=some (.lst us)/\bQ H' us ((([0,1]:List Int).take i).flatMap λs=>if gO r s then(SN.fm bs).map λb=>(s,b) else[])) ?_ ?_ ?_ ?_
 .exact⟨none,[],rfl,s1,Ue,.nil⟩
 .rintro i σ' H' _ ⟨x,us,rfl,s',_⟩;exact iA.sq cs
 .rintro i x σ' H2 hx ⟨x0,us,rfl,s2,Jk,pS⟩;obtain⟨s,hs,rfl⟩:∃s,([0,1]:List Int)[i]?=some s/\x=.int s:=by
   match i,hx with
   | 0,hx=>cases hx;exact⟨0,rfl,rfl⟩
   | 1,hx=>cases hx;exact⟨1,rfl,rfl⟩
  have step:=Ca r bs hs;have qw:us.length<=16:=by
   have h1:=pS.length;rw[h1];have h8:=j4 bs
   match i,hs with
   | 0,_=>exact aH _
   | 1,_ =>
    show(([0]:List Int).flatMap _).length<=16;rw[List.flatMap_singleton];split
    .rw[av];omega
    .exact aH _
  clear Ue s1;refine Xr ?_;refine TL ?_;intro kt0 kf0 Qu Jl;have hK:∀H',aB H2 H'->H' fo=some (.lst us)->gO r s=true->kt0 H':=λH3 s3 Jm Ug=>by
   refine Qu _ ?_;clear Qu Jl;rw[Ug,if_pos rfl] at step;have Wb:=s3 _ _ (s2 _ _ hb);have FH:=pS.same s3;walk_at "go";refine P5 (bE.of Wb) KP (by omega) ?_;intro p4 H4 n4;walk_at "go";refine De n4.self KP ?_;intro p5 H5 n5;walk_at "go";refine gI (xs:=(SN.fm bs).map V.int) (λj ys H'=>aB H5 H'/\bQ H' ys (((SN.fm bs).take j).map λb=>(s,b))) ⟨aB.refl _,.nil⟩ ?_ ?_ ?_
   .rintro j ys H' _ ⟨s',_⟩;exact bE.of (s' _ _ n5.self)
   .rintro j x ys H6 hx ⟨s6,hys⟩;rw[bw] at hx;obtain⟨y,hy,rfl⟩:=di.mp hx;have hyl:=hys.length;rw[av,cF] at hyl;have h8:=j4 bs;refine⟨bU (by omega),?_⟩;walk_at "go";rename_i t7 H7 n7;refine⟨s6.trans n7.same,?_⟩;rw[cB,hy,bF];exact cH (hys.same n7.same) ⟨t7,rfl,n7.self⟩
   rintro ys H6 ⟨s6,hys⟩ p7 H7 n7;rw[av,cG] at hys;have hyl:=hys.length;rw[av] at hyl;have h8:=j4 bs;have Yv:=n7.keep (s6 _ _ (n5.keep (n4.keep Jm)));have Qv:=((n4.same.trans n5.same).trans s6).trans n7.same;have Yw:=FH.same Qv;have Qw:=hys.same n7.same;have hp7:=n7.self;have npf:fo≠p7:=aW (s6 _ _ (n5.keep (n4.keep Jm))) n7.1;have s07:=(s2.trans s3).trans Qv;clear n4 n5 s6 n7 hys FH Jm Wb Qv;walk_at "go";rename_i H8 p8;have tt:gM H7 H8:=λb xs e=>p8.keep (uQ e Yv (by intro z;cases z)) e;refine⟨_,_,rfl,p8.same s07 ffo,p8.self,?_⟩;rw[step];exact gZ (Yw.jk tt) (Qw.jk tt)
  clear Qu;have hN:∀H',aB H2 H'->H' fo=some (.lst us)->gO r s=false->kf0 H':=λH3 s3 Jm Ug=>by refine Jl _ ?_;clear Jl;rw[Ug] at step;walk_at "go";refine⟨_,_,rfl,s2.trans s3,Jm,?_⟩;rw[step];simpa using pS.same s3
  clear Jl pS step;have ha2:=s2 _ _ ha;have hdi:=qX r;walk_at "go";rw[hdi];cases qq:r.gE with
  | false =>
   simp only[Bool.not_false,if_true];exact hK H2 (aB.refl _) Jk (by unfold gO;rw[qq];rfl)
  | true =>
   simp only[gp,bV,if_false];walk_at "go";refine vc (cM.of ha2) (L5 qq) ?_;walk_at "go";rename_i t4 H4 n4;have esd:uA (.int r.sd) [.int s,.int 2]=gO r s:=by rw[L6];unfold gO;rw[qq];rfl
   rw[esd];cases hsr:gO r s with
   | true=>rw[if_pos rfl];exact hK H4 n4.same (n4.keep Jk) hsr
   | false=>rw[if_neg (by decide)];exact hN H4 n4.same (n4.keep Jk) hsr
 .rintro σ' H2 ⟨x0,us,rfl,s2,Jk,pS⟩;walk_at "go";exact q fo us H2 s2 ffo Jk pS
def Row.FI(r:Row):List Int:=if r.gE then r.mS.drop 1 else r.mS
def dP(r:Row):List (Int×Int):=kN r r.FI
def bO(r:Row):List (Int×Int):=if r.gE then kN r (r.mS.take 1) else[]
def qY:∀b∈r.FI,b∈r.mS:=λb hb=>by
 unfold Row.FI at hb;split at hb
 .exact List.mem_of_mem_drop hb
 .exact hb
def L7(r:Row):r.FI.length<=3:=by
 have:=L4 r;unfold Row.FI;split
 .rw[rT];omega
 .exact this
def L8:Sp:=λvs H Q _=>∃(a:Addr)(r:Row)(n:Int),vs=[.ref a]/\H a=some (.tup r.vals)/\r.ok n/\∀(l:Addr)(us:List V)(H':Hp),aB H H'->H l=none->H' l=some (.lst us)->bQ H' us (dP r)->Q (.ref l) H'
def zU(T:Txt w K mg):b7 P w K mg base gT 2 T.reads.f T.reads.d ["row"] L8:=by
 refine T.reads.F.ok zD (λvs H Q E h=>?_) (λcdv A outer s H vs Q E hr h=>?_)
 .obtain⟨a,r,n,rfl,_⟩:=h;rfl
 obtain⟨a,r,n,rfl,ha,hok,q⟩:=h;refine⟨_,(ak (aE (i:=1) zD.nd rfl (ao rfl) (aP T.gY (jR T) hr (aa (pv 0) (aa bz ai))))
 (au (aJ (aP T.zQ (zT T) hr (aa (pv 0) (aa (f7 (aG gW (aS cO (pv 0) af (λ_ _=>rfl)) (gj (v:=.ref T.jj.a) rfl T.jj.c rfl) (by with_unfolding_all rfl)) (c7 kr (pv 1) (dX af) eV) (pv 1)) ai)))))),?_⟩
 show(_:TS) (Ends.mk _ _ _ _) [_,_] H;have cd:=T.jj.q;have hdi:=qX r;walk_at "start";walk_at "go";refine⟨a,r, "box", rfl,ha,λp H1 s1 fp hp=>?_⟩;rw[vR] at hp;have ha1:=s1 _ _ ha;have fin:∀(c:Addr)(H2:Hp),aB H H2->H2 a=some (.tup r.vals)->H2 c=some (.lst (r.FI.map V.int))->DQ [.ref a,.ref c] H2 Q E0:=λc H2 s2 ha2 hc=>⟨a,c,r,r.FI,rfl,ha2,hc,λb hb=>lO hok b (qY b hb),L7 r,λl us H3 s3 fl hl pS=>q l us H3 (s2.trans s3) (s2.free fl) hl pS⟩;walk_at "go";rw[hdi];cases qq:r.gE with
 | true =>
  rw[if_pos rfl];walk_at "go";rename_i c H2 n2;have ec:iP (r.mS.map V.int) (some 1) none=r.FI.map V.int:=by unfold Row.FI;rw[qq,if_pos rfl];cases r<;>first|rfl|cases qq
  rw[ec] at n2;exact fin c H2 (s1.trans n2.same) (n2.keep ha1) n2.self
 | false =>
  rw[if_neg (by decide)];walk_at "go";exact fin p H1 s1 ha1 (by unfold Row.FI;rw[qq];exact hp)
def Ma:Sp:=λvs H Q _=>∃(a:Addr)(r:Row)(n:Int),vs=[.ref a]/\H a=some (.tup r.vals)/\r.ok n/\∀(l:Addr)(us:List V)(H':Hp),aB H H'->H l=none->H' l=some (.lst us)->bQ H' us (bO r)->Q (.ref l) H'
def zV(T:Txt w K mg):b7 P w K mg base gT 2 T.gives.f T.gives.d ["row"] Ma:=by
 refine T.gives.F.ok Jb (λvs H Q E h=>?_) (λcdv A outer s H vs Q E hr h=>?_)
 .obtain⟨a,r,n,rfl,_⟩:=h;rfl
 obtain⟨a,r,n,rfl,ha,hok,q⟩:=h;refine⟨_,(au (aJ (f7 (aG gW (aS cO (pv 0) af (λ_ _=>rfl)) (gj (v:=.ref T.jj.a) rfl T.jj.c rfl) (by with_unfolding_all rfl)) (aP T.zQ (zT T) hr (aa (pv 0) (aa (c7 kr (aP T.gY (jR T) hr (aa (pv 0) (aa bz ai))) eV (dX af)) ai))) (dN ai)))),?_⟩;show(_:TS) (Ends.mk _ _ _ _) [_] H;have cd:=T.jj.q;have hdi:=qX r;walk_at "start";walk_at "go";rw[hdi];cases qq:r.gE with
 | true =>
  rw[if_pos rfl];walk_at "go";refine⟨a,r, "box", rfl,ha,λp H1 s1 fp hp=>?_⟩;rw[vR] at hp;have ha1:=s1 _ _ ha;walk_at "go";rename_i c H2 n2;have ec:iP (r.mS.map V.int) none (some 1)=(r.mS.take 1).map V.int:=by cases r<;>rfl
  rw[ec] at n2;refine⟨a,c,r,r.mS.take 1,rfl,n2.keep ha1,n2.self,λb hb=>lO hok b (List.mem_of_mem_take hb),by rw[cF];omega,λl us H3 s3 fl hl pS=>q l us H3 ((s1.trans n2.same).trans s3) ((s1.trans n2.same).free fl) hl ?_⟩;unfold bO;rw[qq];exact pS
 | false =>
  rw[if_neg (by decide)];walk_at "go";rename_i l H1 n1;refine q l [] H1 n1.same n1.1 n1.self ?_;unfold bO;rw[qq];exact .nil
end
inductive cE (rs:List Row) (p:Int×Int):Nat->Prop
 | here {k:Nat} {r:Row} (h:rs[k]?=some r) (m:p∈dP r):cE rs p k
 | on {k q:Nat} {r:Row} (h:rs[k]?=some r) (m:p∉bO r) (w:((q:Nat):Int)∈r.ways) (l:cE rs p q):cE rs p k
def cE.lt{rs:List Row}{p:Int×Int}{k:Nat}(h:cE rs p k):k<rs.length:=by
 cases h with
 | here h _=>exact(fu h).1
 | on h _ _ _=>exact(fu h).1
def cE.read{p:Int×Int}(h:cE rs p k):∃r∈rs,p∈dP r:=by
 induction h with
 | here h m=>exact⟨_,fB h,m⟩
 | on _ _ _ _ ih=>exact ih
def jA{p:Int×Int}{S:Nat->Prop}(h1:∀k r,rs[k]?=some r->p∈dP r->S k)(h2:∀(k q:Nat) r,rs[k]?=some r->p∉bO r->((q:Nat):Int)∈r.ways->S q->S k):∀k,cE rs p k->S k:=by
 intro k h;induction h with
 | here h m=>exact h1 _ _ h m
 | on h m w _ ih=>exact h2 _ _ _ h m w ih
def isLive(rs:List Row)(k:Nat)(p:Int×Int):Bool:=@decide (cE rs p k) (Classical.propDecidable _)
def g6{p:Int×Int}:isLive rs k p=true↔cE rs p k:=by unfold isLive;exact @decide_eq_true_iff _ (Classical.propDecidable _)
def cR:List (Int×Int):=[(0,0),(0,1),(0,2),(0,3),(0,4),(0,5),(0,6),(0,7),(1,0),(1,1),(1,2),(1,3),(1,4),(1,5),(1,6),(1,7)]
def jB(rs:List Row)(k:Nat):List (Int×Int):=cR.filter (isLive rs k)
def zW:cR.Pairwise (λp q=>SN.rk p<SN.rk q):=by decide
def zX{p:Int×Int}(h1:p.1=0\/p.1=1)(h2:0<=p.2/\p.2<8):p∈cR:=by
 obtain⟨a,b⟩:=p;dsimp only at h1 h2;have hb:b=0\/b=1\/b=2\/b=3\/b=4\/b=5\/b=6\/b=7:=by omega
 rcases h1 with rfl|rfl<;>rcases hb with rfl|rfl|rfl|rfl|rfl|rfl|rfl|rfl<;>decide
def zY{bs:List Int}(hb:∀b∈bs,0<=b/\b<8){p:Int×Int}(h:p∈kN r bs):p∈cR:=by
 unfold kN at h;obtain⟨s,hs,h⟩:=m8.mp h;split at h
 .obtain⟨b,hb1,rfl⟩:=aF.mp h;refine zX ?_ (hb b ((SN.iY hb b).mp hb1));simp only[aI,fY,or_false] at hs;exact hs
 .exact nomatch h
def reads_in{n:Int}(h:r.ok n){p:Int×Int}(hp:p∈dP r):p∈cR:=zY (λb hb=>lO h b (qY b hb)) hp
theorem DR:∀{xs ys:List (Int×Int)},xs.Pairwise (λp q=>SN.rk p<SN.rk q)->ys.Pairwise (λp q=>SN.rk p<SN.rk q)->(∀p,p∈xs↔p∈ys)->xs=ys
 | [],[],_,_,_=>rfl
 | [],y::ys,_,_,h=>absurd ((h y).mpr (by simp)) (by simp)
 | x::xs,[],_,_,h=>absurd ((h x).mp (by simp)) (by simp)
 | x::xs,y::ys,hx,hy,h=>by
  rw[pK] at hx hy;have e:x=y:=by
   rcases aI.mp ((h x).mp (by simp)) with e|h1
   .exact e
   rcases aI.mp ((h y).mpr (by simp)) with e|h2
   .exact e.symm
   have a1:=hy.1 x h1;have a2:=hx.1 y h2;omega
  subst e
  congr 1
  refine DR hx.2 hy.2 λp=>⟨λhp=>?_,λhp=>?_⟩
  .rcases aI.mp ((h p).mp (by simp[hp])) with e|h1
   .have:=hx.1 p hp;rw[e] at this;omega
   .exact h1
  .rcases aI.mp ((h p).mpr (by simp[hp])) with e|h1
   .have:=hy.1 p hp;rw[e] at this;omega
   .exact h1
def Mb{n:Int}(hok:∀r∈rs,r.ok n){qs:List (Int×Int)}(hup:qs.Pairwise (λp q=>SN.rk p<SN.rk q))(hm:∀p,p∈qs↔∃r∈rs,p∈dP r)(k:Nat):qs.filter (isLive rs k)=jB rs k:=by refine DR (hup.sublist List.filter_sublist) (zW.sublist List.filter_sublist) λp=>?_;rw[dM];unfold jB;rw[dM];refine⟨λ⟨h1,h2⟩=>⟨?_,h2⟩,λ⟨h1,h2⟩=>⟨(hm p).mpr (g6.mp h2).read,h2⟩⟩;obtain⟨r,hr,hp⟩:=(hm p).mp h1;exact reads_in (hok r hr) hp
def lP(rs:List Row)(k:Nat):(jB rs k).length<=16:=bJ (i8 _ _) (by decide)
theorem j5{α:Type}[DecidableEq α]:∀{xs ys:List α},xs.Nodup->(∀x∈xs,x∈ys)->xs.length<=ys.length
 | [],_,_,_=>aH _
 | x::xs,ys,h,q=>by rw[iG] at h;have hx:=q x (by simp);have:=j5 (ys:=ys.erase x) h.2 λy hy=>(List.mem_erase_of_ne (λ(e:y=x)=>h.1 (by rw[<- e];exact hy))).mpr (q y (by simp[hy]));rw[List.length_erase_of_mem hx] at this;have hp:=List.length_pos_of_mem hx;rw[eB];omega
def Uh{p q:Int×Int}(h:SN.rk p<SN.rk q):p≠q:=λe=>by rw[e] at h;omega
def Jo(p:Int×Int):putK (ps.map λp=>(ux p,V.bl true)) (ux p) (.bl true)=(if p∈ps then ps else ps++[p]).map λp=>(ux p,V.bl true):=by
 have hany:((ps.map λp=>(ux p,V.bl true)).any λkv=>decide (kv.1=ux p))=decide (p∈ps):=by
  induction ps with
  | nil=>rfl
  | cons x ps ih =>
   rw[cj,jE,ih];by_cases e:x=p
   .simp[e]
   .have e1:¬ux x=ux p:=λz=>e (LG z);have e2:¬p=x:=λz=>e z.symm;simp[e1,e2]
 unfold putK;rw[hany];by_cases h:p∈ps
 .rw[if_pos (decide_eq_true h),if_pos h,fV];refine List.map_congr_left λx _=>?_;show(if ux x=ux p then(ux x,V.bl true) else(ux x,V.bl true))=_;split<;>rfl
 .rw[if_neg (by simpa using h),if_neg h,bF];rfl
def cnt(rs:List Row)(j:Nat):Nat:=(rs.map λr=>r.ways.count (j:Int)).sum
def Jp(h:rs[i]?=some r)(j:Nat):cnt (rs.take (i+1)) j=cnt (rs.take i) j+r.ways.count (j:Int):=by unfold cnt;rw[cB,h,bF,List.sum_append];simp
def Led(rs:List Row)(i j:Nat)(x:Int):Prop:=∃k r,k<i/\x=((k:Nat):Int)/\rs[k]?=some r/\((j:Nat):Int)∈r.ways
def Led.succ(h:rs[i]?=some r):Led rs (i+1) j x↔Led rs i j x\/(x=((i:Nat):Int)/\((j:Nat):Int)∈r.ways):=by
 constructor
 .rintro⟨k,r',h1,h2,h3,h4⟩;by_cases e:k=i
  .subst e;rw[h] at h3;cases h3;exact .inr ⟨h2,h4⟩
  .exact .inl ⟨k,r',by omega,h2,h3,h4⟩
 .rintro(⟨k,r',h1,h2,h3,h4⟩|⟨h1,h2⟩)
  .exact⟨k,r',by omega,h2,h3,h4⟩
  .exact⟨i,r,by omega,h1,h,h2⟩
def tK(H:Hp)(rs:List Row)(as:List Addr):Prop:=∀(j:Nat) a,as[j]?=some a->∃l:List Int,H a=some (.lst (l.map V.int))/\l.length<=2*rs.length/\∀x,x∈l↔Led rs rs.length j x
def Ui(H:Hp)(rs:List Row)(as:List Addr):Prop:=∀(j:Nat) a,as[j]?=some a->∃l:List Int,H a=some (.lst (l.map V.int))/\l.length=cnt rs j
def tK.same{as:List Addr}(e:aB H H')(h:tK H rs as):tK H' rs as:=λj a ha=>by obtain⟨l,h1,h2⟩:=h j a ha;exact⟨l,e _ _ h1,h2⟩
section
variable {P:Program}{w:World}{K:aD}{mg:Str->Option Value}{base:Heap}
def Mc(K:aD):Sp:=λvs H Q _=>∃(p:Addr)(us:List V)(rs:List Row),vs=[.ref p]/\H p=some (.lst us)/\Rows H us rs/\(∀r∈rs,r.ok rs.length)/\rs.length<=1000 /\
 ∀f H' (as:List Addr),aB H H'->H' f=some (.lst (as.map V.ref))->as.length=rs.length->tK H' rs as->Ui H' rs as->Q (.ref f) H'
def qx(T:Txt w K mg):b7 P w K mg base gT 3 T.leading.f T.leading.d ["code"] (Mc K):=by
 refine T.leading.F.ok jg (λvs H Q E h=>?_) (λcdv A outer s H vs Q E hr h=>?_)
 .obtain⟨p,us,rs,rfl,_⟩:=h;rfl
 obtain⟨p,us,rs,rfl,hp,hrs,hok,hl,q⟩:=h;refine⟨_,(ak (jy (i:=1) jg.nd rfl (ao rfl) (bD.plain rfl (by decide +kernel) (by decide +kernel) rfl (by decide +kernel) rfl) (cI (pv 0)) (λ_ _ _ _=>cQ) (λ_ _ _ _=>(dN ai)))
 (ak (eK bX rfl (kC rfl T.fM (aa (pv 0) ai)) (nj (n:=2) rfl (bG (aX (i:=2) jg.nd rfl (ao rfl)) (bG (aX (i:=3) jg.nd rfl (ao rfl)) gk)))
 (au (eK bX rfl (cI (aP T.oO (tG T) hr (aa (pv 3) ai))) (aX (i:=4) jg.nd rfl (ao rfl))
 (au (fk (jx dS jr jt gz (aS bL (pv 1) (pv 4) (λ_ _=>rfl)) (aa (pv 2) ai)))))))
 (au (aJ (pv 1))))),?_⟩
 have qw:=hrs.length;show(_:TS) (Ends.mk _ _ _ _) [_,_,_,_,_] H;walk_at "start";walk_at "go";refine gI (xs:=us) (λi ys H'=>aB H H'/\∃as:List Addr,ys=as.map V.ref/\as.length=i/\as.Nodup/\∀a∈as,H a=none/\H' a=some (.lst [])) ?_ ?_ ?_ ?_
 .exact⟨aB.refl _,[],rfl,rfl,kg,λa h=>nomatch h⟩
 .rintro i ys H' hi ⟨sm,as,rfl,_⟩;exact bE.of (sm _ _ hp)
 .rintro i x ys H' hx ⟨sm,as,rfl,ha,hn,hh⟩;have hi:i<us.length:=(fu hx).1;refine⟨bU (by rw[av];omega),?_⟩;walk_at "go";rename_i b H2 n2;refine⟨sm.trans n2.same,as++[b],by simp,by simp[ha],?_,λa h=>?_⟩
  .rw[gq];refine⟨hn,by simp,λa h c hc=>?_⟩;rw[aA.mp hc];intro e;rw[e] at h;have:=(hh b h).2;rw[n2.1] at this;cases this
  .rcases aO.mp h with h|h
   .exact⟨(hh a h).1,n2.keep (hh a h).2⟩
   .rw[aA.mp h];exact⟨sm.free n2.1,n2.self⟩
 rintro ys H1 ⟨sm1,as,rfl,hal,hnd,has⟩ f H2 n2;walk_at "go";have Yx:f∉as:=λh=>by have:=(has f h).2;rw[n2.1] at this;cases this
 have hHf:H f=none:=sm1.free n2.1;refine sG (xs:=us) (λi σ' H'=>aB H H'/\H' f=some (.lst (as.map V.ref))/\(∃x y z,σ'=[some (.ref p),some (.ref f),x,y,z])/\∀(j:Nat) a,as[j]?=some a->∃l:List Int,H' a=some (.lst (l.map V.int))/\l.length<=2*i/\l.length=cnt (rs.take i) j/\∀x,x∈l↔Led rs i j x) ?_ ?_ ?_ ?_
 .refine⟨sm1.trans n2.same,n2.self,⟨_,_,_,rfl⟩,λj a h=>⟨[],n2.keep (has a (fB h)).2,aH _,rfl,λx=>⟨λh=>(nomatch h),λ⟨k,_,hk,_⟩=>absurd hk (by omega)⟩⟩⟩
 .rintro i σ' H' hi ⟨sm,_⟩;exact bE.of (sm _ _ hp)
 .rintro i x t σ' H' H3 hx ⟨sm,hf,⟨x0,y0,z0,rfl⟩,hL⟩ n3;have hi:i<us.length:=(fu hx).1;obtain⟨r,hr',⟨ra,rfl,tH⟩⟩:=br hrs hx;have Me:H3 ra=some (.tup r.vals):=n3.keep (sm _ _ tH);walk_at "go";refine⟨ra,r,rfl,Me,λpw H4 s4 hpw e4=>?_⟩;walk_at "go";have Uj:=Row.ir (hok r (fB hr'));have hwl:=Row.oU r;refine f_list (xs:=r.ways.map V.int) (λk σ' H'=>aB H H'/\H' pw=some (.lst (r.ways.map V.int))/\H' f=some (.lst (as.map V.ref))/\(∃z,σ'=[some (.ref p),some (.ref f),some (.int i),some (.ref ra),z]) /\
   ∀(j:Nat) a,as[j]?=some a->∃l:List Int,H' a=some (.lst (l.map V.int))/\l.length<=2*i+k/\l.length=cnt (rs.take i) j+(r.ways.take k).count ((j:Nat):Int)/\∀x,x∈l↔Led rs i j x\/(x=((i:Nat):Int)/\((j:Nat):Int)∈r.ways.take k)) ?_ ?_ ?_ ?_
  .refine⟨(sm.trans n3.same).trans s4,e4,s4 _ _ (n3.keep hf),⟨_,rfl⟩,λj a h=>?_⟩;obtain⟨l,e,hl,hc,hm⟩:=hL j a h;exact⟨l,s4 _ _ (n3.keep e),by omega,by rw[hc];rfl,λx=>by rw[hm x];simp⟩
  .rintro k σ' H' hk ⟨_,e,_⟩;exact bE.of e
  .rintro k x σ' H5 hx ⟨Yy,hw5,Jq,⟨z1,rfl⟩,Wc⟩;have hk:k<(r.ways.map V.int).length:=(fu hx).1;rw[av] at hk;rw[bw] at hx;obtain⟨y,hy,rfl⟩:=di.mp hx;have hyb:=Uj y (fB hy);have ey:y=((y.toNat:Nat):Int):=by omega
   have hj:y.toNat<as.length:=by omega
   have Cb:as[y.toNat]?=some as[y.toNat]:=by simp[hj]
   generalize as[y.toNat]'hj=a at Cb;obtain⟨l,el,RC,hlc,hm⟩:=Wc _ a Cb;walk_at "go";refine cJ (bE.of Jq) (v:=.ref a) (by rw[ey];exact fP (by rw[bw,Cb];rfl)) ?_;have hml:(l.map V.int).length=l.length:=av _;walk_at "go";rename_i H6 n6;have Yz:pw≠a:=λe=>by rw[e] at hpw;have h2:H3 a=none:=hpw;obtain⟨l',e',_⟩:=hL _ a Cb;rw[n3.keep e'] at h2;cases h2
   have YA:f≠a:=λe=>Yx (e▸fB Cb);refine⟨n6.same Yy (has a (fB Cb)).1,n6.keep Yz hw5,n6.keep YA Jq,⟨_,rfl⟩,λj b hb=>?_⟩;rw[cB,hy];by_cases e:j=y.toNat
   .subst e;rw[Cb] at hb;cases hb;refine⟨l++[((i:Nat):Int)],by rw[bF];exact n6.self,by rw[aR];simp;omega,?_,λx=>?_⟩
    .rw[aR,List.count_append,hlc,<- ey];simp;omega
    rw[aO,hm x,aA,aO,<- ey];simp only[lY,aA,or_true,and_true];constructor
    .rintro((h|h)|h)
     .exact .inl h
     .exact .inr h.1
     .exact .inr h
    .rintro(h|h)
     .exact .inl (.inl h)
     .exact .inr h
   .obtain⟨l',e',hl',YB,hm'⟩:=Wc j b hb;have hba:b≠a:=λeb=>by subst eb;exact e (qa hnd hb Cb)
    refine⟨l',n6.keep hba e',by omega,?_,λx=>?_⟩
    .have hne:¬y=((j:Nat):Int):=by omega
     rw[List.count_append,YB];simp[hne]
    have hne:¬((j:Nat):Int)=y:=by omega
    rw[hm' x,aO];simp only[lY,aA,hne,or_false]
  .rintro σ' H5 ⟨Yy,hw5,Jq,⟨z1,rfl⟩,Wc⟩;refine⟨Yy,Jq,⟨_,_,_,rfl⟩,λj a h=>?_⟩;obtain⟨l,e,hl,hc,hm⟩:=Wc j a h;rw[av] at hl hc;rw[cG] at hc;refine⟨l,e,by omega,by rw[hc,Jp hr'],λx=>?_⟩;rw[hm x,Led.succ hr',av,cG]
 .rintro σ' H' ⟨sm,hf,⟨x0,y0,z0,rfl⟩,hL⟩;walk_at "go";refine q f H' as sm hf (by omega) (λj a h=>?_) λj a h=>?_
  .obtain⟨l,e,hl,_,hm⟩:=hL j a h;rw[qw] at hl hm;exact⟨l,e,hl,hm⟩
  .obtain⟨l,e,_,hc,_⟩:=hL j a h;rw[qw,cG] at hc;exact⟨l,e,hc⟩
def Qx(K:aD):Sp:=λvs H Q _=>∃(p:Addr)(us:List V)(rs:List Row),vs=[.ref p]/\H p=some (.lst us)/\Rows H us rs/\(∀r∈rs,r.ok rs.length)/\rs.length<=1000 /\
 ∀f H' (as:List Addr),aB H H'->H' f=some (.lst (as.map V.ref))->as.length=rs.length->tK H' rs as->Q (.ref f) H'
def Cc(T:Txt w K mg):b7 P w K mg base gT 3 T.leading.f T.leading.d ["code"] (Qx K) :=
 (qx T).imp λvs H Q E h=>by obtain⟨p,us,rs,h1,h2,h3,h4,h5,q⟩:=h;exact⟨p,us,rs,h1,h2,h3,h4,h5,λf H' as a b c d _=>q f H' as a b c d⟩
end
abbrev lQ(H:Hp):List V->List (List (Int×Int))->Prop:=Paired λv ps=>∃a us,v=.ref a/\H a=some (.lst us)/\bQ H us ps
theorem lQ.same{KQ:List (List (Int×Int))}(e:aB H H')(h:lQ H vs KQ):lQ H' vs KQ:=dH (λ_ _ ⟨a,us,h1,h2,h3⟩=>⟨a,us,h1,e _ _ h2,h3.same e⟩) h
section
variable {P:Program}{w:World}{K:aD}{mg:Str->Option Value}{base:Heap}
def Qy:Sp:=λvs H Q _=>∃(p:Addr)(zs:List V)(KQ:List (List (Int×Int))),vs=[.ref p]/\H p=some (.lst zs)/\lQ H zs KQ/\(∀ps∈KQ,∀q∈ps,q∈cR) /\
 ∀(l:Addr)(us:List V)(qs:List (Int×Int))(H':Hp),aB H H'->H l=none->H' l=some (.lst us)->bQ H' us qs->qs.Pairwise (λp q=>SN.rk p<SN.rk q)->(∀q,q∈qs↔∃ps∈KQ,q∈ps)->Q (.ref l) H'
def xC(T:Txt w K mg):b7 P w K mg base gT 1 T.mw.f T.mw.d ["lists"] Qy:=by
 refine T.mw.F.ok iU (λvs H Q E h=>?_) (λcdv A outer s H vs Q E hr h=>?_)
 .obtain⟨p,zs,KQ,rfl,_⟩:=h;rfl
 obtain⟨p,zs,KQ,rfl,hp,hzs,hin,q⟩:=h;refine⟨_,(ak (aE (i:=1) iU.nd rfl (ao rfl) Hl)
 (ak (eK bX rfl (cI (pv 0)) (aX (i:=2) iU.nd rfl (ao rfl))
 (au (eK bX rfl (cI (pv 2)) (aX (i:=3) iU.nd rfl (ao rfl))
 (au (CS (sC hr) (pv 1) (pv 3) yj rfl)))))
 (au (aJ (aT (BL rfl) rfl T.oS BT.nV (aa (pv 1) ai)))))),?_⟩
 show(_:TS) (Ends.mk _ _ _ _) [_,_,_,_] H;walk_at "start";walk_at "go";rename_i d H1 n1;have fd:=n1.1;have s1:=n1.same;have hd1:=n1.self;clear n1;refine f_list (xs:=zs) (λi σ' H'=>(∃x y,σ'=[some (.ref p),some (.ref d),x,y])/\aB H H'/\∃ps:List (Int×Int),H' d=some (.dT (ps.map λp=>(ux p,V.bl true)))/\ps.Nodup/\(∀q∈ps,q∈cR)/\∀q,q∈ps↔∃qs∈KQ.take i,q∈qs) ?_ ?_ ?_ ?_
 .exact⟨⟨_,_,rfl⟩,s1,[],hd1,kg,(λq h=>nomatch h),λq=>by simp⟩
 .rintro i σ' H' _ ⟨_,s',_⟩;exact bE.of (s' _ _ hp)
 .rintro i x σ' H2 hx ⟨⟨x0,y0,rfl⟩,s2,ps,hd2,nd,hall,hmem⟩;obtain⟨qs,RE,a,us,rfl,ha,pS⟩:=br hzs hx;have ha2:=s2 _ _ ha;have Uk:=pS.same s2;have hqa:=hin qs (fB RE);walk_at "go";refine f_list (xs:=us) (λj σ' H'=>(∃y,σ'=[some (.ref p),some (.ref d),some (.ref a),y])/\aB H H'/\∃ps:List (Int×Int),H' d=some (.dT (ps.map λp=>(ux p,V.bl true)))/\ps.Nodup/\(∀q∈ps,q∈cR)/\∀q,q∈ps↔(∃qs∈KQ.take i,q∈qs)\/q∈qs.take j) ?_ ?_ ?_ ?_
  .exact⟨⟨_,rfl⟩,s2,ps,hd2,nd,hall,λq=>by rw[hmem q];simp⟩
  .rintro j σ' H' _ ⟨_,s',_⟩;exact bE.of (s' _ _ ha)
  .rintro j x σ' H3 hx ⟨⟨y0,rfl⟩,s3,ps,Jr,nd,hall,hmem⟩;obtain⟨t,htj,b,rfl,hb⟩:=br pS hx;have Wb:=s3 _ _ hb;have hpl:ps.length<=16:=j5 nd hall;walk_at "go";refine TX (k:=ux t) Jr Wb (by rw[av];omega) ?_;intro H4 p4;rw[Jo] at p4;walk_at "go";refine⟨⟨_,rfl⟩,p4.same s3 fd,_,p4.self,?_,?_,λq=>?_⟩
   .by_cases h:t∈ps
    .rw[if_pos h];exact nd
    .rw[if_neg h,gq];exact⟨nd,by simp,λx hx y hy e=>h (by rw[<- aA.mp hy,<- e];exact hx)⟩
   .intro q hq;by_cases h:t∈ps
    .rw[if_pos h] at hq;exact hall q hq
    .rw[if_neg h] at hq;rcases aO.mp hq with hq|hq
     .exact hall q hq
     .rw[aA.mp hq];exact hqa t (fB htj)
   .rw[cB,htj,aO];simp only[lY,aA];by_cases h:t∈ps
    .rw[if_pos h,hmem q];constructor
     .rintro(h1|h1)
      .exact .inl h1
      .exact .inr (.inl h1)
     .rintro(h1|h1|h1)
      .exact .inl h1
      .exact .inr h1
      .rw[h1];exact(hmem t).mp h
    .rw[if_neg h,aO,hmem q,aA,or_assoc]
  .rintro σ' H3 ⟨⟨y0,rfl⟩,s3,ps,Jr,nd,hall,hmem⟩;refine⟨⟨_,_,rfl⟩,s3,ps,Jr,nd,hall,λq=>?_⟩;rw[hmem q,pS.length,cG,cB,RE];simp only[aO,lY,aA];constructor
   .rintro(⟨YC,h1,h2⟩|h1)
    .exact⟨YC,.inl h1,h2⟩
    .exact⟨qs,.inr rfl,h1⟩
   .rintro⟨YC,h1|h1,h2⟩
    .exact .inl ⟨YC,h1,h2⟩
    .subst h1;exact .inr h2
 .rintro σ' H2 ⟨⟨x0,y0,rfl⟩,s2,ps,hd2,nd,hall,hmem⟩;have hpl:ps.length<=16:=j5 nd hall;walk_at "go";refine LH (f:=λ_=>.bl true) hd2 (λq hq=>?_) (by omega) λl us qs H3 n3 pS Dc hup=>?_
  .have all:∀q∈cR,0<=q.2/\q.2<1000:=by decide
   exact all q (hall q hq)
  .refine q l us qs H3 (s2.trans n3.same) (s2.free n3.1) n3.self (bQ.same n3.same pS) hup λq=>?_;rw[Dc.mem_iff,hmem q,hzs.length,cG]
end
def tL(x:Int):∀ss:List Int,(e9 (ss.map λk=>((.inl k:Key),V.bl true)) (.inl x)).isSome=decide (x∈ss):=λss=>by
 rw[<- jX];induction ss with
 | nil=>rfl
 | cons y ss ih =>
  rw[cj,jE,ih];by_cases e:y=x
  .simp[e]
  .have e1:¬(Sum.inl y:Key)=Sum.inl x:=λz=>e (Sum.inl.inj z);have e2:¬x=y:=λz=>e z.symm;simp[e1,e2]
def Js{ss:List Int}(h:x∉ss):putK (ss.map λk=>((.inl k:Key),V.bl true)) (.inl x) (.bl true)=(ss++[x]).map λk=>((.inl k:Key),V.bl true):=by unfold putK;rw[jX,tL,decide_eq_false h,if_neg (by decide),bF];rfl
structure Apart (H5:Hp) (f l cm sn:Addr) (as:List Addr):Prop where
 c5:H5 cm=none
 n5:H5 sn=none
 a5:∀a∈as,H5 a=none
 fc:f≠cm
 fs:f≠sn
 lc:l≠cm
 ls:l≠sn
 cs:cm≠sn
 ca:cm∉as
 sa:sn∉as
 fa:f∉as
 la:l∉as
 nd:as.Nodup
structure ye (H5 H6:Hp) (f l cm sn:Addr) (as:List Addr) (us:List V) (cs ss:List Int) (g:Nat->List (Int×Int)) (H:Hp):Prop where
 s5:aB H5 H
 t6:gM H6 H
 hf:H f=some (.lst (as.map V.ref))
 hl:H l=some (.lst us)
 hc:H cm=some (.lst (cs.map V.int))
 hs:H sn=some (.dK (ss.map λk=>(.inl k,.bl true)))
 ha:∀(k:Nat) a,as[k]?=some a->∃vs,H a=some (.lst vs)/\bQ H vs (g k)
section
variable {H5 H6 H H':Hp}{f l cm sn:Addr}{as:List Addr}{us:List V}{cs cs' ss:List Int}{g g':Nat->List (Int×Int)}
def ye.new{p:Addr}(x:ye H5 H6 f l cm sn as us cs ss g H)(n:fh H p o H'):ye H5 H6 f l cm sn as us cs ss g H' :=
 ⟨x.s5.trans n.same,x.t6.trans (sT n.same),n.keep x.hf,n.keep x.hl,n.keep x.hc,n.keep x.hs,λk a e=>let⟨vs,h1,h2⟩:=x.ha k a e;⟨vs,n.keep h1,h2.same n.same⟩⟩
theorem ye.same(x:ye H5 H6 f l cm sn as us cs ss g H)(n:aB H H'):ye H5 H6 f l cm sn as us cs ss g H' :=
 ⟨x.s5.trans n,x.t6.trans (sT n),n _ _ x.hf,n _ _ x.hl,n _ _ x.hc,n _ _ x.hs,λk a e=>let⟨vs,h1,h2⟩:=x.ha k a e;⟨vs,n _ _ h1,h2.same n⟩⟩
def ye.Ul(A:Apart H5 f l cm sn as)(x:ye H5 H6 f l cm sn as us cs ss g H)(p:pC H cm (.lst (cs'.map V.int)) H'):ye H5 H6 f l cm sn as us cs' ss g H':=by have tt:gM H H':=λb xs e=>p.keep (uQ e x.hc (by intro z;cases z)) e;exact⟨p.same x.s5 A.c5,x.t6.trans tt,p.keep A.fc x.hf,p.keep A.lc x.hl,p.self,p.keep A.cs.symm x.hs,λk a e=>let⟨vs,h1,h2⟩:=x.ha k a e;⟨vs,p.keep (λz=>A.ca (by rw[<- z];exact fB e)) h1,h2.jk tt⟩⟩
def ye.YD(A:Apart H5 f l cm sn as){ss':List Int}(x:ye H5 H6 f l cm sn as us cs ss g H)(p:pC H sn (.dK (ss'.map λk=>(.inl k,.bl true))) H'):ye H5 H6 f l cm sn as us cs ss' g H':=by have tt:gM H H':=λb xs e=>p.keep (uQ e x.hs (by intro z;cases z)) e;exact⟨p.same x.s5 A.n5,x.t6.trans tt,p.keep A.fs x.hf,p.keep A.ls x.hl,p.keep A.cs x.hc,p.self,λk a e=>let⟨vs,h1,h2⟩:=x.ha k a e;⟨vs,p.keep (λz=>A.sa (by rw[<- z];exact fB e)) h1,h2.jk tt⟩⟩
def ye.YE(A:Apart H5 f l cm sn as){aj:Addr}{vj:List V}(x:ye H5 H6 f l cm sn as us cs ss g H)(hj:as[j]?=some aj){w:List V}(hold:H aj=some (.lst w))(p:pC H aj (.lst vj) H')(hv:bQ H vj (g' j))(hg:∀k,k≠j->k<as.length->g' k=g k):ye H5 H6 f l cm sn as us cs ss g' H':=by
 have mj:=fB hj;have tt:gM H H':=λb xs e=>p.keep (uQ e hold (by intro z;cases z)) e;refine⟨p.same x.s5 (A.a5 aj mj),x.t6.trans tt,p.keep (λz=>A.fa (by rw[z];exact mj)) x.hf,p.keep (λz=>A.la (by rw[z];exact mj)) x.hl,p.keep (λz=>A.ca (by rw[z];exact mj)) x.hc,p.keep (λz=>A.sa (by rw[z];exact mj)) x.hs,λk a e=>?_⟩;by_cases ek:k=j
 .subst ek;rw[hj] at e;cases e;exact⟨vj,p.self,hv.jk tt⟩
 .obtain⟨vs,h1,h2⟩:=x.ha k a e;refine⟨vs,p.keep (λz=>ek (qa A.nd e (by rw[z];exact hj))) h1,?_⟩;rw[hg k ek (fu e).1];exact h2.jk tt
end
structure DS (rs:List Row) (t:Int×Int) (cs ss:List Int):Prop where
 c1:∀x∈cs,∃k:Nat,x=((k:Nat):Int)/\cE rs t k
 s1:∀x∈ss,∃k:Nat,x=((k:Nat):Int)/\cE rs t k
 nd:ss.Nodup
 rd:∀(k:Nat) r,rs[k]?=some r->t∈dP r->((k:Nat):Int)∈ss\/((k:Nat):Int)∈cs
 cl:∀(k q:Nat) r,rs[k]?=some r->t∉bO r->((q:Nat):Int)∈r.ways->((q:Nat):Int)∈ss->((k:Nat):Int)∈ss\/((k:Nat):Int)∈cs
 ln:cs.length<=rs.length+ss.length*(2*rs.length)
section
variable {rs:List Row}{t:Int×Int}{cs ss:List Int}
def FJ{ss:List Int}(nd:ss.Nodup){n:Nat}(h:∀x∈ss,∃k:Nat,x=((k:Nat):Int)/\k<n):ss.length<=n:=by
 have:=j5 nd (ys:=(List.range n).map λk:Nat=>(k:Int)) λx hx=>by obtain⟨k,rfl,hk⟩:=h x hx;exact aF.mpr ⟨k,fX.mpr hk,rfl⟩
 rw[av,gU] at this;exact this
def DS.few(d:DS rs t cs ss):ss.length<=rs.length:=FJ d.nd λx hx=>by obtain⟨k,e,h⟩:=d.s1 x hx;exact⟨k,e,h.lt⟩
def DS.short(d:DS rs t cs ss)(h:rs.length<=200):cs.length<=81000:=by have h1:=d.few;have h2:=d.ln;have h3:ss.length*(2*rs.length)<=200*400:=Nat.mul_le_mul (by omega) (by omega);omega
def DS.skip(d:DS rs t (cs++[x]) ss)(h:x∈ss):DS rs t cs ss where
 c1:=λy hy=>d.c1 y (by simp[hy])
 s1:=d.s1
 nd:=d.nd
 rd:=λk r h1 h2=>by
  rcases d.rd k r h1 h2 with a|a
  .exact .inl a
  .rcases aO.mp a with a|a
   .exact .inr a
   .rw[aA.mp a];exact .inl h
 cl:=λk q r h1 h2 h3 h4=>by
  rcases d.cl k q r h1 h2 h3 h4 with a|a
  .exact .inl a
  .rcases aO.mp a with a|a
   .exact .inr a
   .rw[aA.mp a];exact .inl h
 ln:=by have:=d.ln;rw[aR] at this;simp at this;omega
def DS.step{es:List Int}(d:DS rs t (cs++[x]) ss)(h:x∉ss)(h1:∀y,y∈es↔∃(k j:Nat)(r:Row),y=((k:Nat):Int)/\x=((j:Nat):Int)/\rs[k]?=some r/\((j:Nat):Int)∈r.ways/\t∉bO r)(h2:es.length<=2*rs.length):DS rs t (cs++es) (ss++[x]) where
 c1:=λy hy=>by
  rcases aO.mp hy with a|a
  .exact d.c1 y (by simp[a])
  .obtain⟨k,j,r,rfl,ej,hr,hw,hg⟩:=(h1 y).mp a;obtain⟨j',ej',hj⟩:=d.c1 x (by simp);have e:j=j':=by omega
   subst e;exact⟨k,rfl,.on hr hg hw hj⟩
 s1:=λy hy=>by
  rcases aO.mp hy with a|a
  .exact d.s1 y a
  .rw[aA.mp a];exact d.c1 x (by simp)
 nd:=by rw[gq];exact⟨d.nd,by simp,λa ha b hb e=>h (by rw[<- aA.mp hb,<- e];exact ha)⟩
 rd:=λk r a b=>by
  rcases d.rd k r a b with c|c
  .exact .inl (by simp[c])
  .rcases aO.mp c with c|c
   .exact .inr (by simp[c])
   .exact .inl (by simp[aA.mp c])
 cl:=λk q r a b c e=>by
  rcases aO.mp e with e|e
  .rcases d.cl k q r a b c e with z|z
   .exact .inl (by simp[z])
   .rcases aO.mp z with z|z
    .exact .inr (by simp[z])
    .exact .inl (by simp[aA.mp z])
  .have e:=aA.mp e;exact .inr (aO.mpr (.inr ((h1 _).mpr ⟨k,q,r,rfl,e.symm,a,c,b⟩)))
 ln:=by have:=d.ln;rw[aR] at this;simp only[aR,jJ] at this ⊢;rw[Nat.add_mul];omega
def DS.done(d:DS rs t [] ss)(k:Nat):((k:Nat):Int)∈ss↔cE rs t k:=by
 constructor
 .intro h;obtain⟨j,e,hj⟩:=d.s1 _ h;have:k=j:=by omega
  rw[this];exact hj
 .intro h;refine jA (S:=λk=>((k:Nat):Int)∈ss) (λk r a b=>?_) (λk q r a b c e=>?_) k h
  .rcases d.rd k r a b with z|z
   .exact z
   .exact nomatch z
  .rcases d.cl k q r a b c e with z|z
   .exact z
   .exact nomatch z
def Um(n s c:Nat):Nat:=(n-s)*(2*n+1)+c
def Qz{n s c e:Nat}(hs:s<n)(he:e<=2*n):Um n (s+1) (c+e)<Um n s (c+1):=by
 unfold Um;obtain⟨d,hd⟩:∃d,n-s=d+1:=⟨n-s-1,by omega⟩;have h2:n-(s+1)=d:=by omega
 rw[hd,h2,Nat.add_mul];omega
def FL{qs:List (Int×Int)}{t:Int×Int}(hi:qs[i]?=some t){ss:List Int}(h:((k:Nat):Int)∈ss↔cE rs t k):(qs.take (i+1)).filter (isLive rs k)=(qs.take i).filter (isLive rs k)++if((k:Nat):Int)∈ss then[t] else[]:=by
 rw[cB,hi,jF]
 congr 1
 show[t].filter (isLive rs k)=_;by_cases e:cE rs t k
 .rw[if_pos (h.mpr e),rN (g6.mpr e)];rfl
 .rw[if_neg (λz=>e (h.mp z)),rM (λz=>e (g6.mp z))];rfl
end
def vS(H:Hp)(as:List Addr)(rs:List Row):Prop:=∀(k:Nat) a,as[k]?=some a->∃us,H a=some (.lst us)/\bQ H us (jB rs k)
theorem lQ.at{H:Hp}{vs:List V}{rs:List Row}{f:Row->List (Int×Int)}(h:lQ H vs (rs.map f)){k:Nat}{r:Row}(e:rs[k]?=some r):∃a us,vs[k]?=some (.ref a)/\H a=some (.lst us)/\bQ H us (f r):=by
 have hl:=h.length;rw[av] at hl;have hk:k<vs.length:=by rw[hl];exact(fu e).1
 have hv:vs[k]?=some vs[k]:=fO hk;obtain⟨ps,h1,a,us,h2,h3,h4⟩:=br h hv;rw[bw,e] at h1;cases h1;exact⟨a,us,by rw[hv,h2],h3,h4⟩
section
variable {P:Program}{w:World}{K:aD}{mg:Str->Option Value}{base:Heap}
def QA:Sp:=λvs H Q _=>∃(p:Addr)(us:List V)(rs:List Row),vs=[.ref p]/\H p=some (.lst us)/\Rows H us rs/\(∀r∈rs,r.ok rs.length)/\rs.length<=200 /\
 ∀(f:Addr)(as:List Addr)(H':Hp),aB H H'->H f=none->H' f=some (.lst (as.map V.ref))->as.length=rs.length->as.Nodup->(∀a∈as,H a=none)->f∉as->vS H' as rs->Q (.ref f) H'
def DT(T:Txt w K mg):b7 P w K mg base gT 4 T.live.f T.live.d ["code"] QA:=by
 refine T.live.F.ok iT (λvs H Q E h=>?_) (λcdv A outer s H vs Q E hr h=>?_)
 .obtain⟨p,us,rs,rfl,_⟩:=h;rfl
 obtain⟨p,us,rs,rfl,hp,hrs,hok,hn,q⟩:=h;refine⟨_,(ak (jy (i:=1) iT.nd rfl (ao rfl) (bD.plain rfl (by decide +kernel) (by decide +kernel) rfl (by decide +kernel) rfl) (cI (pv 0)) (λ_ _ _ _=>cQ) (λ_ _ _ _=>(aP T.reads (zU T) hr (aa (pv 0) ai))))
 (ak (aE (i:=2) iT.nd rfl (cg rfl) (cP (bD.plain rfl (by decide +kernel) (by decide +kernel) rfl (by decide +kernel) rfl) (cI (pv 0)) (λ_ _ _ _=>cQ) (λ_ _ _ _=>(aP T.gives (zV T) hr (aa (pv 0) ai)))))
 (ak (aE (i:=3) iT.nd rfl (ao rfl) (aP T.leading (Cc T) hr (aa (pv 0) ai)))
 (ak (jy (i:=4) iT.nd rfl (ao rfl) (bD.plain rfl (by decide +kernel) (by decide +kernel) rfl (by decide +kernel) rfl) (cI (pv 0)) (λ_ _ _ _=>cQ) (λ_ _ _ _=>(dN ai)))
 (ak (eK bX rfl (cI (aP T.mw (xC T) hr (aa (pv 1) ai))) (aX (i:=5) iT.nd rfl (cg rfl))
 (ak (yL (i:=6) iT.nd rfl (ao rfl) (iS.of (xs:=["place", "some"]) (bD.caps (x := "place") (fr:=["spot"]) (ix:=[5]) (nm:=["spot"]) rfl rfl (by decide +kernel) rfl (by decide +kernel) rfl (by decide +kernel) ⟨rfl,trivial⟩ rfl (by decide +kernel) rfl ⟨⟨rfl,rfl,rfl⟩,trivial⟩) (by decide +kernel)) (kC rfl T.fM (aa (pv 1) ai)) (λ_ _ _ _=>(qM (K:=K) rfl (n:=2) rfl (bG (aX (i:=0) (show(["place", "some", "spot"]:List Str).Nodup from by decide +kernel) rfl (ao rfl)) (bG (aX (i:=1) (show(["place", "some", "spot"]:List Str).Nodup from by decide +kernel) rfl (ao rfl)) gk)))) (λ_ _ _ _=>(nq (aG ((Dl (K:=K) rfl) hr.units) (pv 2) (pv 1) (by with_unfolding_all rfl)))) (λ_ _ _ _=>(pv 0)))
 (ak (aE (i:=7) iT.nd rfl (ao rfl) Hj)
 (au (jV bX (vg (pv 6) (λ_=>rfl))
 (ak (aE (i:=8) iT.nd rfl (ao rfl) (Bh dS PySem.F.slot_list_pop PySem.F.type_list_pop G3 (pv 6)))
 (au (cN (A4 (ET (sC hr) (pv 8) (pv 7)))
 (ak (CS (sC hr) (pv 7) (pv 8) yj rfl)
 (ak (fk (jx dS jr jt gz (aS bL (pv 4) (pv 8) (λ_ _=>rfl)) (aa (pv 5) ai)))
 (au (fk (jx dS nG nH jW (pv 6) (aa (cP (bD.caps (x := "other") (fr:=["giving", "spot"]) (ix:=[2,5]) (nm:=["spot", "giving"]) rfl rfl (by decide +kernel) rfl (by decide +kernel) rfl (by decide +kernel) ⟨rfl,⟨rfl,trivial⟩⟩ rfl (by decide +kernel) rfl ⟨⟨rfl,rfl,rfl⟩,⟨⟨rfl,rfl,rfl⟩,trivial⟩⟩) (cI (aS bL (pv 3) (pv 8) (λ_ _=>rfl))) (λ_ _ _ _=>(nq (aG ((BK (K:=K) rfl) hr.units) (pv 2) (aS (gJ (K:=K) rfl) (pv 1) (pv 0) (λ_ _=>rfl)) (by with_unfolding_all rfl)))) (λ_ _ _ _=>(pv 0))) ai))))))
 bu))))))))
 (au (aJ (pv 4)))))))),?_⟩
 have qw:=hrs.length;show(_:TS) (Ends.mk _ _ _ _) [_,_,_,_,_,_,_,_,_] H;walk_at "start";walk_at "go";refine gI (xs:=us) (λi ys H'=>aB H H'/\lQ H' ys ((rs.take i).map dP)) ⟨aB.refl _,.nil⟩ ?_ ?_ ?_
 .rintro i ys H' _ ⟨s',_⟩;exact bE.of (s' _ _ hp)
 .rintro i x ys H1 hx ⟨s1,hys⟩;obtain⟨r,Mf,a,rfl,ha⟩:=br hrs hx;have hyl:=hys.length;rw[av,cF] at hyl;refine⟨bU (by omega),?_⟩;walk_at "go";refine⟨a,r,rs.length,rfl,s1 _ _ ha,hok r (fB Mf),λl ws H2 s2 _ hl hws=>⟨s1.trans s2,?_⟩⟩;rw[cB,Mf,bF];exact cH (hys.same s2) ⟨l,ws,rfl,hl,hws⟩
 rintro rzs H1 ⟨s1,YF⟩ rd H2 n2;rw[qw,cG] at YF;have Uo:=n2.self;have Uq:=YF.same n2.same;have s2:=s1.trans n2.same;clear n2 s1 YF;have hp2:=s2 _ _ hp;have Ju:=hrs.same s2;walk_at "go";refine gI (xs:=us) (λi ys H'=>aB H2 H'/\lQ H' ys ((rs.take i).map bO)) ⟨aB.refl _,.nil⟩ ?_ ?_ ?_
 .rintro i ys H' _ ⟨s',_⟩;exact bE.of (s' _ _ hp2)
 .rintro i x ys H3 hx ⟨s3,hys⟩;obtain⟨r,Mf,a,rfl,ha⟩:=br Ju hx;have hyl:=hys.length;rw[av,cF] at hyl;refine⟨bU (by omega),?_⟩;walk_at "go";refine⟨a,r,rs.length,rfl,s3 _ _ ha,hok r (fB Mf),λl ws H4 s4 _ hl hws=>⟨s3.trans s4,?_⟩⟩;rw[cB,Mf,bF];exact cH (hys.same s4) ⟨l,ws,rfl,hl,hws⟩
 rintro gzs H3 ⟨s3,YG⟩ gv H4 n4;rw[qw,cG] at YG;have Ur:=n4.self;have Us:=YG.same n4.same;have Mg:=s3.trans n4.same;clear n4 s3 YG;have YH:=Mg _ _ hp2;have Ut:=Ju.same Mg;have Uu:=Mg _ _ Uo;have Uv:=Uq.same Mg;have s4:=s2.trans Mg;clear Mg hp2 Ju Uo Uq s2;walk_at "go";refine⟨p,us,rs,rfl,YH,Ut,hok,by omega,λah H5 Wd QB QC hal YI=>?_⟩;have hp5:=QB _ _ YH;have Uw:=QB _ _ Uu;have Ux:=Uv.same QB;have YJ:=QB _ _ Ur;have YK:=Us.same QB;have s5:=s4.trans QB;clear QB YH Ut Uu Uv Ur Us s4;walk_at "go";refine gI (xs:=us) (λi ys H'=>aB H5 H'/\∃as:List Addr,ys=as.map V.ref/\as.length=i/\as.Nodup/\∀a∈as,H5 a=none/\H' a=some (.lst [])) ⟨aB.refl _,[],rfl,rfl,kg,λa h=>nomatch h⟩ ?_ ?_ ?_
 .rintro i ys H' _ ⟨s',_⟩;exact bE.of (s' _ _ hp5)
 .rintro i x ys H6 hx ⟨s6,as,rfl,ha,nd,hh⟩;have hi:i<us.length:=(fu hx).1;refine⟨bU (by rw[av];omega),?_⟩;walk_at "go";rename_i b H7 n7;refine⟨s6.trans n7.same,as++[b],by simp,by simp[ha],?_,λa h=>?_⟩
  .rw[gq];refine⟨nd,by simp,λa h c hc e=>?_⟩;rw[aA.mp hc] at e;subst e;have:=(hh a h).2;rw[n7.1] at this;cases this
  .rcases aO.mp h with h|h
   .exact⟨(hh a h).1,n7.keep (hh a h).2⟩
   .rw[aA.mp h];exact⟨s6.free n7.1,n7.self⟩
 rintro ys H6 ⟨N5,as,rfl,yZ,nd,has⟩ f H7 n7;have N4:=n7.self;have f5:H5 f=none:=N5.free n7.1;have fa:f∉as:=λh=>by have:=(has f h).2;rw[n7.1] at this;cases this
 have Mh:∀a∈as,H5 a=none/\H7 a=some (.lst []):=λa h=>⟨(has a h).1,n7.keep (has a h).2⟩;have We:=N5.trans n7.same;clear n7 N5 has;have Mi:=We _ _ Uw;have Uy:=Ux.same We;walk_at "go";refine⟨rd,rzs,rs.map dP,rfl,Mi,Uy,?_,λl ws qs H8 Wf fl Wg Uz hup hmem=>?_⟩
 .intro ps hps t ht;obtain⟨r,hr,rfl⟩:=aF.mp hps;exact reads_in (hok r hr) ht
 have DU:=Wf _ _ N4;have s58:=We.trans Wf;have la:l∉as:=λh=>by have:=(Mh l h).2;rw[fl] at this;cases this
 have lf:l≠f:=λe=>by rw[e,N4] at fl;cases fl
 have hql:qs.length<=16:=j5 (hup.imp λh=>Uh h) (ys:=cR) λt ht=>by obtain⟨ps,hps,hq⟩:=(hmem t).mp ht;obtain⟨r,hr,rfl⟩:=aF.mp hps;exact reads_in (hok r hr) hq
 have QD:∀a∈as,H5 a=none/\H8 a=some (.lst []):=λa h=>⟨(Mh a h).1,Wf _ _ (Mh a h).2⟩;clear Wf N4 Mi Uy Mh fl We;walk_at "go";refine f_list (xs:=ws) (λi σ' H'=>(∃x y z u,σ'=[some (.ref p),some (.ref rd),some (.ref gv),some (.ref ah),some (.ref f),x,y,z,u])/\aB H5 H'/\gM H8 H'/\H' f=some (.lst (as.map V.ref))/\H' l=some (.lst ws)/\∀(k:Nat) a,as[k]?=some a->∃vs,H' a=some (.lst vs)/\bQ H' vs ((qs.take i).filter (isLive rs k))) ?_ ?_ ?_ ?_
 .exact⟨⟨_,_,_,_,rfl⟩,s58,gM.refl _,DU,Wg,λk a e=>⟨[],(QD a (fB e)).2,.nil⟩⟩
 .rintro i σ' H' _ ⟨_,_,_,_,h,_⟩;exact bE.of h
 .rintro i x σ' H9 hx ⟨⟨x5,x6,x7,x8,rfl⟩,s9,t9,Jv,UA,QE⟩;obtain⟨t,hti,b,rfl,KP⟩:=br Uz hx;have hb9:=t9 _ _ KP;have Jw:=s9 _ _ Uw;have QF:=Ux.same s9;walk_at "go";have hrl:=QF.length;rw[av] at hrl;refine C3 (λj zs τ H'=>aB H9 H'/\(∃ns:List Int,zs=ns.map V.int/\ns.length<=j/\∀y,y∈ns↔∃(k:Nat)(r:Row),k<j/\y=((k:Nat):Int)/\rs[k]?=some r/\t∈dP r)/\∃x y,τ=[x,y,some (.ref b)]) ?_ ?_ ?_ ?_ ?_
  .exact⟨aB.refl _,⟨[],rfl,aH _,λy=>⟨λh=>(nomatch h),λ⟨k,_,h,_⟩=>absurd h (by omega)⟩⟩,_,_,rfl⟩
  .rintro j zs τ H' _ ⟨s',⟨ns,rfl,hl,_⟩,_⟩;exact⟨bE.of (s' _ _ Jw),by rw[av];exact hl⟩
  .omega
  .rintro j x pp zs τ zZ z6 hx ⟨iK,⟨ns,rfl,hnl,hns⟩,x0,y0,rfl⟩ gP;obtain⟨ps,hps,a,vs,rfl,ha,hvs⟩:=br QF hx;rw[bw] at hps;obtain⟨r,hrj,rfl⟩:=di.mp hps;have KR:=iK.trans gP.same;have YL:=KR _ _ ha;have DV:=hvs.same KR;have YM:=KR _ _ hb9;have hpp:=gP.self;clear gP iK;walk_at "go";refine Dm YM (bE.of YL) DV ?_;have split:∀y,(∃(k:Nat)(r:Row),k<j+1/\y=((k:Nat):Int)/\rs[k]?=some r/\t∈dP r)↔(∃(k:Nat)(r:Row),k<j/\y=((k:Nat):Int)/\rs[k]?=some r/\t∈dP r)\/(y=((j:Nat):Int)/\t∈dP r):=λy=>by
    constructor
    .rintro⟨k,r',h1,h2,h3,h4⟩;by_cases e:k=j
     .subst e;rw[hrj] at h3;cases h3;exact .inr ⟨h2,h4⟩
     .exact .inl ⟨k,r',by omega,h2,h3,h4⟩
    .rintro(⟨k,r',h1,h2,h3,h4⟩|⟨h1,h2⟩)
     .exact⟨k,r',by omega,h2,h3,h4⟩
     .exact⟨j,r,by omega,h1,hrj,h2⟩
   by_cases hm:t∈dP r
   .rw[decide_eq_true hm];walk_at "go";refine⟨KR,⟨ns++[((j:Nat):Int)],by simp,by simp;omega,λy=>?_⟩,_,_,rfl⟩;rw[aO,hns y,aA,split y];simp only[hm,and_true]
   .rw[decide_eq_false hm];walk_at "go";refine⟨KR,⟨ns,rfl,by omega,λy=>?_⟩,_,_,rfl⟩;rw[hns y,split y];simp only[hm,and_false,or_false]
  rintro zs τ zZ ⟨iK,⟨ns,rfl,hnl,hns⟩,x0,y0,rfl⟩ cm z6 gP;rw[hrl] at hnl hns;walk_at "go";rename_i sn FN tM;have qF:∀(k:Nat) a,as[k]?=some a->∃vs,FN a=some (.lst vs)/\bQ FN vs ((qs.take i).filter (isLive rs k))/\zZ a=some (.lst vs)/\z6 a=some (.lst vs):=λk a e=>by obtain⟨vs,h1,h2⟩:=QE k a e;exact⟨vs,tM.keep (gP.keep (iK _ _ h1)),h2.same ((iK.trans gP.same).trans tM.same),iK _ _ h1,gP.keep (iK _ _ h1)⟩
  have s12:=(iK.trans gP.same).trans tM.same;have AP:Apart H5 f l cm sn as:=by
   have Wh:∀a∈as,∃vs,zZ a=some (HO.lst vs)/\z6 a=some (HO.lst vs):=λa h=>by obtain⟨k,hk⟩:=fW.mp h;obtain⟨vs,_,_,h1,h2⟩:=qF k a hk;exact⟨vs,h1,h2⟩
   refine⟨s9.free (iK.free gP.1),s9.free (iK.free (gP.same.free tM.1)),λa h=>(QD a h).1,aW (iK _ _ Jv) gP.1,aW (gP.keep (iK _ _ Jv)) tM.1,aW (iK _ _ UA) gP.1,aW (gP.keep (iK _ _ UA)) tM.1,aW gP.self tM.1,λh=>?_,λh=>?_,fa,la,nd⟩
   .obtain⟨vs,h1,_⟩:=Wh cm h;rw[gP.1] at h1;cases h1
   .obtain⟨vs,_,h1⟩:=Wh sn h;rw[tM.1] at h1;cases h1
  have L0:ye H5 H8 f l cm sn as ws ns [] (λk=>(qs.take i).filter (isLive rs k)++if((k:Nat):Int)∈([]:List Int) then[t] else[]) FN :=
   ⟨s9.trans s12,t9.trans (sT s12),s12 _ _ Jv,s12 _ _ UA,tM.keep gP.self,tM.self,λk a e=>by
    obtain⟨vs,h1,h2,_⟩:=qF k a e;exact⟨vs,h1,by simpa using h2⟩⟩
  have D0:DS rs t ns []:=by refine⟨λx hx=>?_,(λx h=>nomatch h),kg,λk r h1 h2=>.inr ((hns _).mpr ⟨k,r,(fu h1).1,rfl,h1,h2⟩),(λk q r _ _ _ h=>nomatch h),by simp;omega⟩;obtain⟨k,r,_,rfl,h1,h2⟩:=(hns x).mp hx;exact⟨k,rfl,.here h1 h2⟩
  clear gP tM iK s12 hns hnl QE qF Jv UA s9 t9 Jw QF hb9;refine l8 (λm σ' H'=>∃(cs ss:List Int)(x:Option V),σ'=[some (.ref p),some (.ref rd),some (.ref gv),some (.ref ah),some (.ref f),some (.ref b),some (.ref cm),some (.ref sn),x]/\ye H5 H8 f l cm sn as ws cs ss (λk=>(qs.take i).filter (isLive rs k)++if((k:Nat):Int)∈ss then[t] else[]) H'/\DS rs t cs ss/\m=Um rs.length ss.length cs.length) ⟨_,ns,[],_,rfl,L0,D0,rfl⟩ ?_;clear L0 D0;rintro m σ' GB ⟨cs,ss,x,rfl,L,D,rfl⟩;have UB:=L.hc;walk_at "go";rcases List.eq_nil_or_concat cs with e|⟨cs',y,e⟩
  .subst e;rw[if_neg (by decide)];walk_at "nxd";refine⟨⟨_,_,_,_,rfl⟩,L.s5,L.t6,L.hf,L.hl,λk a e=>?_⟩;obtain⟨vs,h1,h2⟩:=L.ha k a e;refine⟨vs,h1,?_⟩;rw[FL hti (D.done k)];exact h2
  rw[List.concat_eq_append] at e;subst e;rw[if_pos (by simp)];obtain⟨ky,RG,lky⟩:=D.c1 y (by simp);have hss:=D.few;have hsh:=D.short hn;rw[aR,jJ] at hsh;walk_at "go";refine s_pop UB (y:=.int y) (by simp) ?_;intro RH xD;have ed:(List.map V.int (cs'++[y])).dropLast=cs'.map V.int:=by simp
  rw[ed] at xD;have UC:=L.Ul AP xD;clear xD UB L ed;have YN:=UC.hs;by_cases hy:y∈ss
  .have hv:(!(e9 (ss.map λk=>((.inl k:Key),V.bl true)) (.inl y)).isSome)=false:=by rw[tL,decide_eq_true hy];rfl
   walk_at "go";rw[hv,if_neg (by decide)];walk_at "go";refine⟨_,?_,cs',ss,_,rfl,UC,D.skip hy,rfl⟩;rw[aR,jJ];unfold Um;omega
  have hv:(!(e9 (ss.map λk=>((.inl k:Key),V.bl true)) (.inl y)).isSome)=true:=by rw[tL,decide_eq_false hy];rfl
  have hsl:(ss.map λk=>((.inl k:Key),V.bl true)).length<=200:=by rw[av];omega
  have ey:=Js hy;have Mj:=UC.hf;have SS:=AP.fs;walk_at "go";rw[hv,if_pos rfl];walk_at "go";rename_i Wi Mk;rw[ey] at Mk;have QG:=UC.YD AP Mk;clear Mk UC YN ey hv Mj SS;have yf:ky<as.length:=by have:=lky.lt;omega
  have Cb:as[ky]?=some as[ky]:=fO yf;generalize as[ky]'yf=a at Cb;obtain⟨vs,hvs,hps⟩:=QG.ha ky a Cb;have hyk:¬((ky:Nat):Int)∈ss:=by rw[<- RG];exact hy
  rw[if_neg hyk,i0] at hps;have hvl:vs.length<=16:=by rw[hps.length];refine bJ (i8 _ _) ?_;rw[cF];omega
  have YO:=QG.hc;have hca:cm≠a:=λz=>AP.ca (by rw[z];exact fB Cb);have UD:=QG.s5 _ _ QC;have haa:ah≠a:=aW QC (AP.a5 a (fB Cb));refine cJ (bE.of QG.hf) (v:=.ref a) (by rw[RG];exact fP (by rw[bw,Cb];rfl)) ?_;walk_at "go";rename_i Wj p16;have QH:ye H5 H8 f l cm sn as ws cs' (ss++[y]) (λk=>(qs.take i).filter (isLive rs k)++if((k:Nat):Int)∈ss++[y] then[t] else[]) Wj:=by
   have x:=QG.YE AP (g':=λk=>(qs.take i).filter (isLive rs k)++if((k:Nat):Int)∈ss++[y] then[t] else[]) Cb hvs p16 ?_ λk hk _=>?_
   .exact x
   .show bQ Wi _ ((qs.take i).filter (isLive rs ky)++if((ky:Nat):Int)∈ss++[y] then[t] else[]);rw[if_pos (by rw[<- RG];simp)];exact cH hps ⟨b,rfl,QG.t6 _ _ KP⟩
   .have hne:¬((k:Nat):Int)=y:=by omega
    simp only[aO,aA,hne,or_false]
  clear p16 QG hvs hps YO UD;have N6:=QH.s5 _ _ QC;have N7:=QH.s5 _ _ YJ;have N8:=YK.same QH.s5;have UE:=QH.t6 _ _ KP;have UG:ky<Wd.length:=by have:=lky.lt;omega
  have QI:Wd[ky]?=some Wd[ky]:=fO UG;generalize Wd[ky]'UG=al at QI;obtain⟨le,hle,ac7,Jx⟩:=YI.same QH.s5 ky al QI;refine cJ (bE.of N6) (v:=.ref al) (by rw[RG];exact fP (by rw[bw,QI];rfl)) ?_;walk_at "go";refine gI (xs:=le.map V.int) (λj ys H'=>aB Wj H'/\∃es:List Int,ys=es.map V.int/\es.length<=j/\∀z,z∈es↔∃(k:Nat)(r:Row),z=((k:Nat):Int)/\z∈le.take j/\rs[k]?=some r/\t∉bO r) ⟨aB.refl _,[],rfl,aH _,λz=>⟨λh=>(nomatch h),λ⟨k,r,_,h,_⟩=>by simp at h⟩⟩ ?_ ?_ ?_
  .rintro j ys H' _ ⟨s',_⟩;exact bE.of (s' _ _ hle)
  .rintro j x ys YQ hx ⟨Jy,es,rfl,hel,hes⟩;have hjl:j<(le.map V.int).length:=(fu hx).1;rw[av] at hjl;rw[bw] at hx;obtain⟨z,hz,rfl⟩:=di.mp hx;obtain⟨k,r,hk,ez,hr,hw⟩:=(Jx z).mp (fB hz);obtain⟨ga,gus,hga,YR,hgp⟩:=(N8.same Jy).at hr;refine⟨bU (by rw[av];omega),?_⟩;have UH:=Jy _ _ N7;have YS:=Jy _ _ UE;walk_at "go";refine cJ (bE.of UH) (v:=.ref ga) (by rw[ez];exact fP hga) ?_;walk_at "go";refine Ik YS (bE.of YR) hgp ?_;have split:∀y,(∃(k:Nat)(r:Row),y=((k:Nat):Int)/\y∈le.take (j+1)/\rs[k]?=some r/\t∉bO r)↔(∃(k:Nat)(r:Row),y=((k:Nat):Int)/\y∈le.take j/\rs[k]?=some r/\t∉bO r)\/(y=z/\t∉bO r):=λy=>by
    rw[cB,hz];simp only[lY,aO,aA];constructor
    .rintro⟨k',r',h1,h2|h2,h3,h4⟩
     .exact .inl ⟨k',r',h1,h2,h3,h4⟩
     .have e:k'=k:=by omega
      subst e;rw[hr] at h3;cases h3;exact .inr ⟨h2,h4⟩
    .rintro(⟨k',r',h1,h2,h3,h4⟩|⟨h1,h2⟩)
     .exact⟨k',r',h1,.inl h2,h3,h4⟩
     .exact⟨k,r,by rw[h1,ez],.inr h1,hr,h2⟩
   by_cases hm:t∈bO r
   .rw[decide_eq_true hm];walk_at "go";refine⟨Jy,es,rfl,by omega,λy=>?_⟩;rw[hes y,split y];simp only[hm,not_true,and_false,or_false]
   .rw[decide_eq_false hm];walk_at "go";refine⟨Jy,es++[z],by simp,by simp;omega,λy=>?_⟩;rw[aO,hes y,aA,split y];simp only[hm,not_false_eq_true,and_true]
  rintro ys YQ ⟨Jy,es,rfl,hel,hes⟩ ex H18 RI;rw[av] at hel hes;rw[cG] at hes;have L18:=(QH.same Jy).new RI;have hex:=RI.self;have ada:=L18.hc;have hcl:(cs'.map V.int).length<=81000:=by rw[av];omega
  have adb:(es.map V.int).length<=400:=by rw[av];omega
  clear RI Jy QH N6 N7 N8 UE hle;walk_at "go";rename_i H19 p19;rw[<- bF] at p19;have L19:=L18.Ul AP p19;refine⟨_,?_,cs'++es,ss++[y],_,rfl,L19,D.step hy (λz=>?_) (by omega),rfl⟩
  .have hlt:ss.length<rs.length:=by
    have d2:=(D.step (es:=es) hy (λz=>?_) (by omega)).few
    .rw[aR] at d2;simp at d2;omega
    .rw[hes z];constructor
     .rintro⟨k,r,h1,h2,h3,h4⟩;obtain⟨k',r',_,e1,e2,e3⟩:=(Jx z).mp h2;have e:k'=k:=by omega
      subst e;rw[h3] at e2;cases e2;exact⟨k',ky,r,h1,RG,h3,e3,h4⟩
     .rintro⟨k,j,r,h1,h2,h3,h4,h5⟩;have e:j=ky:=by omega
      subst e;exact⟨k,r,h1,(Jx z).mpr ⟨k,r,(fu h3).1,h1,h3,h4⟩,h3,h5⟩
   rw[aR,aR,aR,jJ];exact Qz hlt (by omega)
  .rw[hes z];constructor
   .rintro⟨k,r,h1,h2,h3,h4⟩;obtain⟨k',r',_,e1,e2,e3⟩:=(Jx z).mp h2;have e:k'=k:=by omega
    subst e;rw[h3] at e2;cases e2;exact⟨k',ky,r,h1,RG,h3,e3,h4⟩
   .rintro⟨k,j,r,h1,h2,h3,h4,h5⟩;have e:j=ky:=by omega
    subst e;exact⟨k,r,h1,(Jx z).mpr ⟨k,r,(fu h3).1,h1,h3,h4⟩,h3,h5⟩
 .rintro σ' H9 ⟨⟨x5,x6,x7,x8,rfl⟩,s9,t9,Jv,UA,QE⟩;walk_at "go";refine q f as H9 (s5.trans s9) (s5.free f5) Jv (by omega) nd (λa h=>s5.free (QD a h).1) fa λk a e=>?_;obtain⟨vs,h1,h2⟩:=QE k a e;refine⟨vs,h1,?_⟩;rw[Uz.length,cG,Mb hok hup (λq=>?_) k] at h2
  .exact h2
  .rw[hmem q];constructor
   .rintro⟨ps,hps,hq⟩;obtain⟨r,hr,rfl⟩:=aF.mp hps;exact⟨r,hr,hq⟩
   .rintro⟨r,hr,hq⟩;exact⟨_,aF.mpr ⟨r,hr,rfl⟩,hq⟩
def dQ(rs:List Row)(j:Nat):Bool:=decide ((if j=0 then 1 else 2)<=cnt rs j)
def fQ(rs:List Row):List Int:=((List.range rs.length).filter (dQ rs)).map λ(j:Nat)=>(j:Int)
def mD(rs:List Row)(i:Nat):List Int:=((List.range i).filter (dQ rs)).map λ(j:Nat)=>(j:Int)
def xE(rs:List Row)(i:Nat):mD rs (i+1)=mD rs i++if dQ rs i=true then[(i:Int)] else[]:=by
 unfold mD;rw[m9,jF,bF]
 congr 1
 by_cases h:dQ rs i=true
 .simp[h]
 .simp[h]
def z7(rs:List Row)(i:Nat):(mD rs i).length<=i:=by unfold mD;rw[av];exact bJ (i8 _ _) (by rw[gU];exact az _)
def Ml(K:aD):Sp:=λvs H Q _=>∃(p:Addr)(us:List V)(rs:List Row),vs=[.ref p]/\H p=some (.lst us)/\Rows H us rs/\(∀r∈rs,r.ok rs.length)/\rs.length<=1000 /\
 ∀f H',aB H H'->H f=none->H' f=some (.lst ((fQ rs).map V.int))->Q (.ref f) H'
def Jz(T:Txt w K mg):b7 P w K mg base gT 4 T.meets.f T.meets.d ["code"] (Ml K):=by
 refine T.meets.F.ok Jc (λvs H Q E h=>?_) (λcdv A outer s H vs Q E hr h=>?_)
 .obtain⟨p,us,rs,rfl,_⟩:=h;rfl
 obtain⟨p,us,rs,rfl,hp,hrs,hok,hl,q⟩:=h;refine⟨_,(au (aJ (yG (iS.of (xs:=["place", "some"]) (bD.plain (x := "place") rfl (by decide +kernel) (by decide +kernel) rfl (by decide +kernel) rfl) (by decide +kernel)) (kC rfl T.fM (aa (aP T.leading (qx T) hr (aa (pv 0) ai)) ai)) (λ_ _ _ _=>(qM (K:=K) rfl (n:=2) rfl (bG (aX (i:=0) (show(["place", "some"]:List Str).Nodup from by decide +kernel) rfl (ao rfl)) (bG (aX (i:=1) (show(["place", "some"]:List Str).Nodup from by decide +kernel) rfl (ao rfl)) gk)))) (λ_ _ _ _=>(nq (aG Sl (aT (kE (K:=K) rfl) rfl T.eS BT.eO (aa (pv 1) ai)) (f7 (aG dW (pv 0) af (aM _)) af af) (aM _)))) (λ_ _ _ _=>(pv 0))))),?_⟩;show(_:TS) (Ends.mk _ _ _ _) [_] H;walk_at "start";walk_at "go";refine⟨p,us,rs,rfl,hp,hrs,hok,hl,λf H1 as s1 hf hal _ hL=>?_⟩;walk_at "go";refine C3 (λi zs τ H'=>aB H1 H'/\zs=(mD rs i).map V.int/\∃x y,τ=[x,y]) ?_ ?_ ?_ ?_ ?_
 .exact⟨aB.refl _,rfl,_,_,rfl⟩
 .rintro i zs τ H' hi ⟨sm,rfl,x,y,rfl⟩;exact⟨bE.of (sm _ _ hf),by rw[av];exact z7 rs i⟩
 .rw[av];omega
 .rintro i x p zs τ H' H2 hx ⟨sm,rfl,x0,y0,rfl⟩ n2;rw[bw] at hx;obtain⟨a,ha,rfl⟩:=di.mp hx;obtain⟨l,el,RC⟩:=hL i a ha;have e2:H2 a=some (.lst (l.map V.int)):=n2.keep (sm _ _ el);have e:=xE rs i;have hml:(l.map V.int).length=l.length:=av _;have hm:dQ rs i=decide ((if i=0 then 1 else 2)<=l.length):=by rw[RC];rfl
  walk_at "go"
  .refine⟨by walk_at "same", ?_,_,_,rfl⟩;rw[e,if_pos (by rw[hm];exact decide_eq_true (by split<;>omega))];simp
  .refine⟨by walk_at "same", ?_,_,_,rfl⟩;rw[e,if_neg (by rw[hm];exact λz=>absurd (of_decide_eq_true z) (by split<;>omega))];simp
  .refine⟨by walk_at "same", ?_,_,_,rfl⟩;rw[e,if_pos (by rw[hm];exact decide_eq_true (by split<;>omega))];simp
  .refine⟨by walk_at "same", ?_,_,_,rfl⟩;rw[e,if_neg (by rw[hm];exact λz=>absurd (of_decide_eq_true z) (by split<;>omega))];simp
 .rintro zs τ H' ⟨sm,rfl,x,y,rfl⟩ g H2 n2;refine q g H2 (by walk_at "same") (by walk_at "free") ?_;rw[n2.self,av,hal];rfl
end
def Row.gv(r:Row)(s:Int):Int:=if r.gE&&(decide (r.sd=s)||decide (r.sd=2)) then r.mS.headD 0 else -1
def Row.rd(r:Row)(s:Int):List Int:=if r.gE&&!(decide (r.sd=s)||decide (r.sd=2)) then[] else r.FI
def vU{bs:List Int}(hb:∀b∈bs,0<=b/\b<8)(hs:s=0\/s=1):(s,b)∈kN r bs↔gO r s=true/\b∈bs:=by
 unfold kN;rw[m8];constructor
 .rintro⟨s',_,h⟩;split at h
  .rename_i Ug;obtain⟨b',hb1,e⟩:=aF.mp h;cases e;exact⟨Ug,(SN.iY hb b).mp hb1⟩
  .exact nomatch h
 .rintro⟨h1,h2⟩;refine⟨s,by simpa using hs,?_⟩;rw[if_pos h1];exact aF.mpr ⟨b,(SN.iY hb b).mpr h2,rfl⟩
def g7{n:Int}(h:r.ok n)(hs:s=0\/s=1):(s,b)∈dP r↔b∈r.rd s:=by unfold dP Row.rd;rw[vU (λb hb=>lO h b (qY b hb)) hs];unfold gO;cases r.gE<;>cases decide (r.sd=s)<;>cases decide (r.sd=2)<;>simp
def tN(h:r.gE=true):r.mS.take 1=[r.mS.headD 0]:=by cases r<;>first|rfl|cases h
def fR{n:Int}(h:r.ok n)(hs:s=0\/s=1)(hb:0<=b):(s,b)∈bO r↔r.gv s=b:=by
 unfold bO Row.gv;by_cases hd:r.gE=true
 .rw[if_pos hd,vU (λb hb=>lO h b (rX _ _ hb)) hs,tN hd,aA];unfold gO;rw[hd];cases decide (r.sd=s)<;>cases decide (r.sd=2)<;>simp<;>first|omega|exact⟨λe=>e.symm,λe=>e.symm⟩
 .rw[if_neg hd];have:r.gE=false:=by simpa using hd
  rw[this];simp;omega
def N9{n:Int}(h:r.ok n)(s:Int):r.gv s<8:=by
 unfold Row.gv;split
 .rename_i e;have hd:r.gE=true:=by cases hr:r.gE<;>simp[hr] at e ⊢
  exact(lO h (r.mS.headD 0) (rX 1 _ (by rw[tN hd];simp))).2
 .omega
def Oa{n:Int}(h:r.ok n)(s:Int):∀b∈r.rd s,0<=b/\b<8:=λb hb=>by
 unfold Row.rd at hb;split at hb
 .exact nomatch hb
 .exact lO h b (qY b hb)
def UI(ms:List Nat)(r:Row):Nat:=r.ways.foldl (λm q=>m ||| ms.getD q.toNat 0) 0
def Cd(m:Nat)(g:Int):Nat:=if 0<=g then m &&& (255-2 ^ g.toNat) else m
def iL(ms:List Nat)(r:Row)(s:Int):Nat:=(r.rd s).foldl (λm b=>m ||| 2 ^ b.toNat) (Cd (UI ms r) (r.gv s))
theorem qZ{α:Type}(f:α->Nat)(b:Nat):∀(l:List α)(m0:Nat),(l.foldl (λm x=>m ||| f x) m0).testBit b=(m0.testBit b||l.any λx=>(f x).testBit b)
 | [],m0=>by simp
 | x::l,m0=>by rw[List.foldl_cons,qZ f b l,Nat.testBit_or,jE,Bool.or_assoc]
def DW(ms:List Nat)(r:Row)(b:Nat):(UI ms r).testBit b=r.ways.any λq=>(ms.getD q.toNat 0).testBit b:=by unfold UI;rw[qZ];simp
def JA:∀(g b:Fin 8),(255-2 ^ g.val:Nat).testBit b.val = !decide (b=g):=by decide
def JB{g:Int}(hg:g<8){b:Nat}(hb:b<8):(Cd m g).testBit b=(m.testBit b&&!decide ((b:Int)=g)):=by
 unfold Cd;split
 .rename_i h0;have:=JA ⟨g.toNat,by omega⟩ ⟨b,hb⟩;rw[Nat.testBit_and];dsimp only at this;rw[this]
  congr 2
  simp only[Fin.mk.injEq,decide_eq_decide];omega
 .rw[decide_eq_false (show ¬(b:Int)=g by omega)];simp
def Mm(m:Nat)(g:Int)(b:Nat)(h:(Cd m g).testBit b=true):m.testBit b=true:=by
 unfold Cd at h;split at h
 .rw[Nat.testBit_and] at h;simp only[rH] at h;exact h.1
 .exact h
def iZ{ms:List Nat}{n:Int}(h:r.ok n){b:Nat}(hb:b<8):(iL ms r s).testBit b=true↔(b:Int)∈r.rd s\/(¬r.gv s=b/\∃q∈r.ways,(ms.getD q.toNat 0).testBit b=true):=by
 unfold iL;rw[qZ,JB (N9 h s) hb,DW];simp only[Bool.or_eq_true,rH,List.any_eq_true,Bool.not_eq_true',decide_eq_false_iff_not];constructor
 .rintro(⟨h1,h2⟩|⟨x,hx,h3⟩)
  .exact .inr ⟨λe=>h2 e.symm,h1⟩
  .rw[Nat.testBit_two_pow] at h3;have:=Oa h s x hx;have e:(b:Int)=x:=by have:=of_decide_eq_true h3;omega
   rw[e];exact .inl hx
 .rintro(h1|⟨h1,h2⟩)
  .exact .inr ⟨_,h1,by rw[Nat.testBit_two_pow];exact decide_eq_true (by omega)⟩
  .exact .inl ⟨h2,λe=>h1 e.symm⟩
def JC{ms:List Nat}(hm:∀m∈ms,m<256){n:Int}(h:r.ok n)(s:Int):iL ms r s<256:=by
 refine Nat.lt_pow_two_of_testBit (n:=8) _ λi hi=>?_;unfold iL;rw[qZ];have e1:(Cd (UI ms r) (r.gv s)).testBit i=false:=by
  cases e:(Cd (UI ms r) (r.gv s)).testBit i with
  | false=>rfl
  | true =>
   have:=Mm _ _ _ e;rw[DW,List.any_eq_true] at this;obtain⟨q,_,hq⟩:=this;have hl:ms.getD q.toNat 0<2 ^ 8:=by
    rw[mJ];cases e2:ms[q.toNat]? with
    | none=>simp
    | some m=>exact hm m (fB e2)
   rw[Nat.testBit_lt_two_pow (bS hl (Nat.pow_le_pow_right (by decide) hi))] at hq;cases hq
 rw[e1,Bool.false_or,List.any_eq_false];intro x hx;have:=Oa h s x hx;rw[Nat.testBit_two_pow];simp;omega
structure tO (rs:List Row) (s:Int) (ms:List Nat):Prop where
 len:ms.length=rs.length
 lt:∀m∈ms,m<256
 snd:∀(k:Nat)(m:Nat)(b:Nat),ms[k]?=some m->b<8->m.testBit b=true->cE rs (s,(b:Int)) k
 inc:∀(k:Nat)(m:Nat)(r:Row),ms[k]?=some m->rs[k]?=some r->∀b,b<8->m.testBit b=true->(iL ms r s).testBit b=true
def tO.zero(rs:List Row)(s:Int):tO rs s (List.replicate rs.length 0) where
 len:=by simp
 lt:=λm hm=>by rw[(List.mem_replicate.mp hm).2];decide
 snd:=λk m b e _ h=>by rw[(List.mem_replicate.mp (fB e)).2] at h;simp at h
 inc:=λk m r e _ b _ h=>by rw[(List.mem_replicate.mp (fB e)).2] at h;simp at h
def getD_at{α:Type}{l:List α}{x d:α}(h:l[k]?=some x):l.getD k d=x:=by rw[mJ,h];rfl
section
variable {rs:List Row}{s:Int}{ms:List Nat}(hs:s=0\/s=1)(hok:∀r∈rs,r.ok rs.length)
include hs hok
theorem tO.sound(I:tO rs s ms)(hr:rs[k]?=some r){b:Nat}(hb:b<8)(h:(iL ms r s).testBit b=true):cE rs (s,(b:Int)) k:=by
 have ho:=hok r (fB hr);rcases(iZ ho hb).mp h with h1|⟨h1,q,hq,h2⟩
 .exact .here hr ((g7 ho hs).mpr h1)
 .have YT:=Row.ir ho q hq;have hqn:q.toNat<ms.length:=by rw[I.len];omega
  have e1:ms[q.toNat]?=some ms[q.toNat]:=fO hqn;rw[getD_at e1] at h2;have hl:=I.snd q.toNat _ b e1 hb h2;refine .on (q:=q.toNat) hr (λhg=>h1 ((fR ho hs (by omega)).mp hg)) ?_ hl;rw[Int.toNat_of_nonneg YT.1];exact hq
theorem tO.set(I:tO rs s ms){m:Nat}(hm:ms[k]?=some m)(hr:rs[k]?=some r):tO rs s (ms.set k (iL ms r s)):=by
 have hk:k<ms.length:=(fu hm).1;have get:∀(j:Nat)(x:Nat),(ms.set k (iL ms r s))[j]?=some x->(j=k/\x=iL ms r s)\/(j≠k/\ms[j]?=some x):=λj x e=>by
  rw[List.getElem?_set] at e;split at e
  .rename_i e1;exact .inl ⟨e1.symm,(Option.some.inj e).symm⟩
  .rename_i e1;exact .inr ⟨λz=>e1 z.symm,e⟩
 have mono:∀(r':Row),r'∈rs->∀b,b<8->(iL ms r' s).testBit b=true->(iL (ms.set k (iL ms r s)) r' s).testBit b=true:=λr' hr' b hb h=>by
  have ho:=hok r' hr';rcases(iZ ho hb).mp h with h1|⟨h1,q,hq,h2⟩
  .exact(iZ ho hb).mpr (.inl h1)
  .refine(iZ ho hb).mpr (.inr ⟨h1,q,hq,?_⟩);have YT:=Row.ir ho q hq;by_cases e:k=q.toNat
   .rw[mJ,List.getElem?_set,if_pos e,if_pos hk];rw[<- e,getD_at hm] at h2;exact I.inc k m r hm hr b hb h2
   .rw[mJ,List.getElem?_set,if_neg e,<- mJ];exact h2
 refine⟨by rw[eE];exact I.len,λx hx=>?_,λj x b e hb h=>?_,λj x r' e hr' b hb h=>?_⟩
 .obtain⟨j,hj⟩:=fW.mp hx;rcases get j x hj with⟨_,rfl⟩|⟨_,e⟩
  .exact JC I.lt (hok r (fB hr)) s
  .exact I.lt x (fB e)
 .rcases get j x e with⟨rfl,rfl⟩|⟨_,e⟩
  .exact I.sound hs hok hr hb h
  .exact I.snd j x b e hb h
 .rcases get j x e with⟨rfl,rfl⟩|⟨_,e⟩
  .rw[hr] at hr';cases hr';exact mono r (fB hr) b hb h
  .exact mono r' (fB hr') b hb (I.inc j x r' e hr' b hb h)
theorem tO.up(I:tO rs s ms)(hm:ms[k]?=some m)(hr:rs[k]?=some r):m<=iL ms r s:=by
 have e:m ||| iL ms r s=iL ms r s:=by
  refine Nat.eq_of_testBit_eq λi=>?_;rw[Nat.testBit_or];cases h:m.testBit i with
  | false=>rw[Bool.false_or]
  | true =>
   have hi:i<8:=by
    rcases aY i 8 with hl|hg
    .exact hl
    .rw[Nat.testBit_lt_two_pow (bS (show m<2 ^ 8 from I.lt m (fB hm)) (Nat.pow_le_pow_right (by decide) hg))] at h;cases h
   rw[I.inc k m r hm hr i hi h];rfl
 rw[<- e];exact Nat.left_le_or
theorem tO.done(I:tO rs s ms)(fx:∀(k:Nat)(r:Row)(m:Nat),rs[k]?=some r->ms[k]?=some m->iL ms r s=m){b:Nat}(hm:ms[k]?=some m)(hb:b<8):m.testBit b=true↔cE rs (s,(b:Int)) k:=by
 refine⟨I.snd k m b hm hb,λh=>?_⟩;have all:=jA (rs:=rs) (p:=(s,(b:Int))) (S:=λk=>∀m,ms[k]?=some m->m.testBit b=true) (λk r hr hp m hm=>?_) (λk q r hr hg hw ih m hm=>?_) k h
 .exact all m hm
 .have ho:=hok r (fB hr);rw[<- fx k r m hr hm];exact(iZ ho hb).mpr (.inl ((g7 ho hs).mp hp))
 .have ho:=hok r (fB hr);rw[<- fx k r m hr hm];refine(iZ ho hb).mpr (.inr ⟨λe=>hg ((fR ho hs (by omega)).mpr e),_,hw,?_⟩);have YT:=Row.ir ho _ hw;have hqn:q<ms.length:=by rw[I.len];omega
  have e1:ms[q]?=some ms[q]:=fO hqn;rw[gF,getD_at e1];exact ih _ e1
end
open HM in
def Row.ends(r:Row):fz->Bool
 | none=>uA (.str r.key) [.str "mark", .str "out", .str "back"]
 | some p=>uA (.str r.key) [.str "look", .str "out", .str "back"]&&decide (r.mS.headD 0=p.2)
open HM in
def LeftOf(r:Row):fz->fz->Prop
 | none,u=>r.ends none=false/\u=none
 | some p,u=>r.ends (some p)=false/\((u=some p/\r.gv p.1≠p.2)\/(u=some (p.1,r.gv p.1)/\0<=r.gv p.1/\p.2∈r.rd p.1))
open HM in
def fz.lv(rs:List Row)(k:Nat):fz->Prop
 | none=>True
 | some p=>p∈jB rs k
open HM in
def DX(rs:List Row)(r:Row)(t:fz)(z:bP):Prop:=z.1∈r.ways/\LeftOf r t z.2/\fz.lv rs z.1.toNat z.2
open HM in
def KS:fz->Prop
 | none=>True
 | some p=>(p.1=0\/p.1=1)/\0<=p.2/\p.2<8
theorem LeftOf.ok{n:Int}(h:r.ok n){u:HM.fz}(ht:KS t)(l:LeftOf r t u):KS u/\u.isSome=t.isSome:=by
 cases t with
 | none=>rw[l.2];exact⟨trivial,rfl⟩
 | some p =>
  rcases l.2 with⟨rfl,_⟩|⟨rfl,h0,_⟩
  .exact⟨ht,rfl⟩
  .exact⟨⟨ht.1,h0,N9 h _⟩,rfl⟩
theorem DY{α:Type}(f:α->Int):∀{xs ys:List α},xs.Pairwise (λp q=>f p<f q)->ys.Pairwise (λp q=>f p<f q)->(∀p,p∈xs↔p∈ys)->xs=ys
 | [],[],_,_,_=>rfl
 | [],y::ys,_,_,h=>absurd ((h y).mpr (by simp)) (by simp)
 | x::xs,[],_,_,h=>absurd ((h x).mp (by simp)) (by simp)
 | x::xs,y::ys,hx,hy,h=>by
  have h1:=pK.mp hx;have h2:=pK.mp hy;have e:x=y:=by
   rcases aI.mp ((h x).mp (by simp)) with e|e
   .exact e
   .rcases aI.mp ((h y).mpr (by simp)) with e'|e'
    .exact e'.symm
    .have:=h1.1 _ e';have:=h2.1 _ e;omega
  subst e;rw[DY f h1.2 h2.2 λp=>?_];constructor
  .intro hp;rcases aI.mp ((h p).mp (dg _ hp)) with e|e
   .rw[e] at hp;have:=h1.1 _ hp;omega
   .exact e
  .intro hp;rcases aI.mp ((h p).mpr (dg _ hp)) with e|e
   .rw[e] at hp;have:=h2.1 _ hp;omega
   .exact e
def d9(r:Row):HM.fz->List HM.fz
 | none=>if r.ends none then[] else[none]
 | some p=>if r.ends (some p) then[] else(if p∈bO r then[] else[some p])++if p∈dP r then((bO r).filter λq=>decide (q.1=p.1)).map some else[]
def FO(b:Int):(SN.fm [b]).length<=1:=by
 have h1:=SN.yU [b];have h2:∀n∈SN.fm [b],n=b:=λn hn=>by unfold SN.fm at hn;obtain⟨k,hk,rfl⟩:=aF.mp hn;have:=(dM.mp hk).2;simpa using this
 match h:SN.fm [b] with
 | []=>simp
 | [_]=>simp
 | x::y::l =>
  rw[h] at h1 h2;have e1:=h2 x (by simp);have e2:=h2 y (by simp);have:=(pK.mp h1).1 y (by simp);omega
def Ce(r:Row)(hs:s=0\/s=1):((bO r).filter λq=>decide (q.1=s)).length<=1:=by
 unfold bO;split
 .rename_i hd;have e:=tN hd;rw[e];unfold kN;have l1:=FO (r.mS.headD 0);generalize r.mS.headD 0=hd0 at l1 ⊢;have all:∀(s':Int),(((SN.fm [hd0]).map λb=>(s',b)).filter λq=>decide (q.1=s))=if s'=s then(SN.fm [hd0]).map λb=>(s',b) else[]:=λs'=>by
   split
   .rename_i e;rw[List.filter_eq_self];intro x hx;obtain⟨b,_,rfl⟩:=aF.mp hx;simpa using e
   .rename_i e;rw[List.filter_eq_nil_iff];intro x hx;obtain⟨b,_,rfl⟩:=aF.mp hx;simpa using e
  simp only[rO,List.flatMap_nil,i0,jF,aR];rcases hs with rfl|rfl
  .have a0:=all 0;have a1:=all 1;cases h0:gO r 0<;>cases h1:gO r 1<;>simp only[if_true,bV,if_false,a0,a1,List.filter_nil,mY]<;>simp<;>omega
  .have a0:=all 0;have a1:=all 1;cases h0:gO r 0<;>cases h1:gO r 1<;>simp only[if_true,bV,if_false,a0,a1,List.filter_nil,mY]<;>simp<;>omega
 .simp
def FP(r:Row):(bO r).length<=16:=by
 unfold bO;split
 .unfold kN;have h:=j4 (r.mS.take 1);simp only[rO,List.flatMap_nil,i0,aR];have e:∀s:Int,(if gO r s=true then(SN.fm (r.mS.take 1)).map λb=>(s,b) else[]).length<=8:=λs=>by split<;>simp[h]
  have h0:=e 0;have h1:=e 1;omega
 .simp
def tP(r:Row)(ht:KS t):(d9 r t).length<=2:=by
 cases t with
 | none=>unfold d9;dsimp only;split<;>simp
 | some p =>
  unfold d9;dsimp only;have:=Ce r (s:=p.1) ht.1;split
  .simp
  .rw[aR];have h1:(if p∈bO r then([]:List HM.fz) else[some p]).length<=1:=by split<;>simp
   have h2:(if p∈dP r then((bO r).filter λq=>decide (q.1=p.1)).map some else([]:List HM.fz)).length<=1:=by
    split
    .rw[av];exact this
    .simp
   omega
def FQ{n:Int}(h:r.ok n)(hg:(s,b)∈bO r):0<=b:=by
 unfold bO at hg;split at hg
 .have:=zY (λb hb=>lO h b (rX _ _ hb)) hg;have all:∀q∈cR,0<=q.2:=by decide
  exact all _ this
 .exact nomatch hg
def jl{n:Int}(h:r.ok n)(ht:KS t)(u:HM.fz):u∈d9 r t↔LeftOf r t u:=by
 cases t with
 | none =>
  unfold d9 LeftOf;dsimp only;cases r.ends none<;>simp
 | some p =>
  obtain⟨hs,hb0,KP⟩:=ht;obtain⟨s,b⟩:=p;dsimp only at hs hb0 KP;unfold d9 LeftOf;dsimp only;cases r.ends (some (s,b)) with
  | true=>simp
  | false =>
   simp only[bV,if_false,true_and];rw[aO];have e1:u∈(if(s,b)∈bO r then([]:List HM.fz) else[some (s,b)])↔(u=some (s,b)/\r.gv s≠b):=by
    have mg:=fR h hs hb0;split
    .rename_i e;simp[mg.mp e]
    .rename_i e;simp[show ¬r.gv s=b from λz=>e (mg.mpr z)]
   have e2:u∈(if(s,b)∈dP r then((bO r).filter λq=>decide (q.1=s)).map some else([]:List HM.fz))↔(u=some (s,r.gv s)/\0<=r.gv s/\b∈r.rd s):=by
    have mr:=g7 h hs (b:=b);split
    .rename_i e
     replace e:=mr.mp e
     rw[aF];constructor
     .rintro⟨⟨s',b'⟩,hq,rfl⟩;obtain⟨hg,hq2⟩:=dM.mp hq;have hq2:s'=s:=by simpa using hq2
      subst hq2;have hb':0<=b':=FQ h hg;have:=(fR h hs hb').mp hg;rw[this];exact⟨rfl,hb',e⟩
     .rintro⟨rfl,h0,_⟩;exact⟨(s,r.gv s),dM.mpr ⟨(fR h hs h0).mpr rfl,by simp⟩,rfl⟩
    .rename_i e;simp[show ¬b∈r.rd s from λz=>e (mr.mpr z)]
   rw[e1,e2]
def YU(rs:List Row)(k:Nat):HM.fz->Bool
 | none=>true
 | some p=>decide (p∈jB rs k)
def DZ:YU rs k t=true↔fz.lv rs k t:=by cases t<;>simp[YU,fz.lv]
def Mn(h:uA (.str r.key) [.str "look", .str "out", .str "back"]=true):nF r.vals 1=some (.int (r.mS.headD 0)):=by cases r<;>first|rfl|(exact absurd (show uA (.str "num") [.str "look", .str "out", .str "back"]=true from h) (by decide))|(exact absurd (show uA (.str "copy") [.str "look", .str "out", .str "back"]=true from h) (by decide))|(exact absurd (show uA (.str "op") [.str "look", .str "out", .str "back"]=true from h) (by decide))|(exact absurd (show uA (.str "mark") [.str "look", .str "out", .str "back"]=true from h) (by decide))
abbrev j6(H:Hp):List V->List HM.fz->Prop:=Paired λx t=>eY H t x
theorem j6.same{ts:List HM.fz}(h:j6 H vs ts)(e:aB H H'):j6 H' vs ts:=dH (λ_ _ x=>eY.same x e) h
section
variable {P:Program}{w:World}{K:aD}{mg:Str->Option Value}{base:Heap}
def JD:Sp:=λvs H Q _=>∃(a tk gv:Addr)(x:V)(r:Row)(n:Int)(t:HM.fz)(us ws:List V),vs=[.ref a,x,.ref tk,.ref gv]/\H a=some (.tup r.vals)/\r.ok n/\eY H t x/\KS t/\H tk=some (.lst us)/\bQ H us (dP r)/\H gv=some (.lst ws)/\bQ H ws (bO r) /\
 ∀(l:Addr)(xs:List V)(H':Hp),aB H H'->H l=none->H' l=some (.lst xs)->j6 H' xs (d9 r t)->Q (.ref l) H'
def qb(T:Txt w K mg):b7 P w K mg base gT 1 T.ie.f T.ie.d ["row", "thing", "taken", "given"] JD:=by
 refine T.ie.F.ok j0 (λvs H Q E h=>?_) (λcdv A outer s H vs Q E hr h=>?_)
 .obtain⟨a,tk,gv,x,r,n,t,us,ws,rfl,_⟩:=h;rfl
 obtain⟨a,tk,gv,x,r,n,t,us,ws,rfl,ha,hok,hx,ht,htk,pS,UJ,hws,q⟩:=h;have cm:=T.jO.q;have cs:=T.jP.q;refine⟨_,(ak (cN (aG (Bv hr.units) (pv 1) bz (aM _))
 (au (aJ (f7 (aG gW (aS cO (pv 0) af (λ_ _=>rfl)) (gj (v:=.ref T.jO.a) rfl T.jO.c rfl) (by with_unfolding_all rfl)) (dN ai) (dN (aa bz ai)))))
 bu)
 (ak (cN (PW.pt (kj (aG gW (aS cO (pv 0) af (λ_ _=>rfl)) (gj (v:=.ref T.jP.a) rfl T.jP.c rfl) (by with_unfolding_all rfl)) (jv (aG dW (aS cO (pv 0) af (λ_ _=>rfl)) (aS cO (pv 1) af (λ_ _=>rfl)) (aM _)))))
 (au (aJ (dN ai)))
 bu)
 (ak (aE (i:=4) j0.nd rfl (ao rfl) (f7 (aG (BJ hr.units) (pv 1) (pv 3) (by with_unfolding_all rfl)) (dN ai) (dN (aa (pv 1) ai))))
 (ak (cN (aG (BJ hr.units) (pv 1) (pv 2) (by with_unfolding_all rfl))
 (au (fk (jx dS nG nH jW (pv 4) (aa (cP (bD.caps (x := "spot") (fr:=["thing"]) (ix:=[1]) (nm:=["thing"]) rfl rfl (by decide +kernel) rfl (by decide +kernel) rfl (by decide +kernel) ⟨rfl,trivial⟩ rfl (by decide +kernel) rfl ⟨⟨rfl,rfl,rfl⟩,trivial⟩) (cI (pv 3)) (λ_ _ _ _=>(nq (aG dW (aS (nR (K:=K) rfl) (pv 0) af (λ_ _=>rfl)) (aS (nR (K:=K) rfl) (pv 1) af (λ_ _=>rfl)) (aM _)))) (λ_ _ _ _=>(pv 0))) ai))))
 bu)
 (au (aJ (pv 4))))))),?_⟩
 show(_:TS) (Ends.mk _ _ _ _) [_,_,_,_,_] H;walk_at "start";walk_at "go";refine NQ hx ?_;cases t with
 | none =>
  show wQ _ (.bl true) H;walk_at "go";split
  .rename_i he;walk_at "go";rename_i l H1 n1;refine q l [] H1 n1.same n1.1 n1.self ?_;unfold d9;dsimp only;rw[if_pos (show r.ends none=true from he)];exact .nil
  .rename_i he;walk_at "go";rename_i l H1 n1;refine q l _ H1 n1.same n1.1 n1.self ?_;unfold d9;dsimp only;rw[if_neg (show ¬r.ends none=true from he)];exact .cons rfl .nil
 | some p =>
  show wQ _ (.bl false) H;obtain⟨b,rfl,hb⟩:=hx;have hwl:=hws.length;have YR:(bO r).length<=16:=FP r;walk_at "go";have rest:r.ends (some p)=false->nx0 [some (.ref a),some (.ref b),some (.ref tk),some (.ref gv),none] H:=by
   intro he;have em:d9 r (some p)=(if p∈bO r then[] else[some p])++if p∈dP r then((bO r).filter λq=>decide (q.1=p.1)).map some else[]:=by unfold d9;dsimp only;rw[he];rfl
   refine YV _ _ ?_;walk_at "go";refine Dm hb (bE.of UJ) hws ?_;by_cases hg:p∈bO r
   case' pos =>
    rw[decide_eq_true hg];show wQ _ (.bl true) H;walk_at "go";rename_i f H1 n1;have bs:∃vs,H1 f=some (.lst vs)/\j6 H1 vs (if p∈bO r then[] else[some p])/\vs.length<=1:=⟨[],n1.self,by rw[if_pos hg];exact .nil,aH _⟩
   case' neg =>
    rw[decide_eq_false hg];show wQ _ (.bl false) H;walk_at "go";rename_i f H1 n1;have bs:∃vs,H1 f=some (.lst vs)/\j6 H1 vs (if p∈bO r then[] else[some p])/\vs.length<=1:=⟨[.ref b],n1.self,by rw[if_neg hg];exact .cons ⟨b,rfl,n1.keep hb⟩ .nil,az _⟩
   all_goals
    have s1:=n1.same;have ff:=n1.1;clear n1;obtain⟨vs,hf1,hvs,hvl⟩:=bs;have hb1:=s1 _ _ hb;have YW:=s1 _ _ htk;have YX:=s1 _ _ UJ;have YY:=bQ.same s1 pS;have YZ:=bQ.same s1 hws;refine Dm hb1 (bE.of YW) YY ?_;by_cases hr:p∈dP r
    .rw[decide_eq_true hr];show wQ _ (.bl true) H1;walk_at "go";refine gI (xs:=ws) (λk zs H'=>H'=H1/\j6 H1 zs ((((bO r).take k).filter λq=>decide (q.1=p.1)).map some)) ⟨rfl,.nil⟩ ?_ ?_ ?_
     .rintro k zs H' _ ⟨rfl,_⟩;exact bE.of YX
     .rintro k y zs H' hy ⟨rfl,hz⟩;obtain⟨t,QJ,c,rfl,hc⟩:=br YZ hy;have QK:=hz.length;rw[av] at QK;have hle:=i8 (λq:Int×Int=>decide (q.1=p.1)) ((bO r).take k);rw[cF] at hle;refine⟨bU (by omega),?_⟩;have et:(bO r).take (k+1)=(bO r).take k++[t]:=by rw[cB,QJ];rfl
      walk_at "go"
      .rename_i e;refine⟨rfl,?_⟩;rw[et,jF,bF,rN (by simpa using e)];exact cH hz ⟨c,rfl,hc⟩
      .rename_i e;refine⟨rfl,?_⟩;rw[et,jF,bF,rM (by simpa using e)];simpa using hz
     .rintro zs H' ⟨rfl,hz⟩ l H2 n2;rw[hwl,cG] at hz;have QK:=hz.length;rw[av] at QK;have hle:=i8 (λq:Int×Int=>decide (q.1=p.1)) (bO r);have hf2:=n2.keep hf1;have hl2:=n2.self;have s2:=n2.same;clear n2;walk_at "go";rename_i H3 p3;have s3:=p3.same (s1.trans s2) ff;have kp:∀{ys:List V}{ts:List HM.fz},j6 H' ys ts->j6 H3 ys ts:=λh=>dH (λv t x=>by
       cases t with
       | none=>exact x
       | some u=>obtain⟨c,e1,e2⟩:=x;exact⟨c,e1,p3.keep (by intro z;subst z;rw[hf1] at e2;cases e2) (s2 _ _ e2)⟩) h
      refine q f _ H3 s3 ff p3.self ?_;rw[em,if_pos hr];exact gZ (kp hvs) (kp hz)
    .rw[decide_eq_false hr];show wQ _ (.bl false) H1;walk_at "go";refine q f vs H1 s1 ff hf1 ?_;rw[em,if_neg hr,i0];exact hvs
  clear YV;cases he:uA (.str r.key) [.str "look", .str "out", .str "back"]
  .rw[if_neg (by decide),if_neg (by decide)];refine Jl _ (rest ?_);unfold Row.ends;dsimp only;rw[he];rfl
  .rw[if_pos rfl];walk_at "go";refine vc (cM.of ha) (Mn he) ?_;walk_at "go"
   .rename_i e l H1 n1;refine q l [] H1 n1.same n1.1 n1.self ?_;have:r.ends (some p)=true:=by unfold Row.ends;dsimp only;rw[he,decide_eq_true e];rfl
    unfold d9;dsimp only;rw[this];exact .nil
   .rename_i e;refine rest ?_;unfold Row.ends;dsimp only;rw[he,decide_eq_false e];rfl
def iM(rs:List Row)(r:Row)(t:HM.fz)(ks:List HM.bP):Prop:=ks.Pairwise (λx y=>HM.pY x<HM.pY y)/\∀z,z∈ks↔DX rs r t z
def JE:Sp:=λvs H Q _=>∃(o th lv:Addr)(ws:List Int)(xs:List V)(ts:List HM.fz)(as:List Addr)(rs:List Row),vs=[.ref o,.ref th,.ref lv]/\H o=some (.lst (ws.map V.int))/\ws.length<=2/\(∀q∈ws,0<=q/\q<rs.length)/\H th=some (.lst xs)/\j6 H xs ts/\ts.length<=2/\(∀t∈ts,KS t)/\(∀t∈ts,∀u∈ts,t.isSome=u.isSome)/\H lv=some (.lst (as.map V.ref))/\as.length=rs.length/\vS H as rs /\
 ∀(l:Addr)(vs:List V)(ks:List HM.bP)(H':Hp),aB H H'->H l=none->H' l=some (.lst vs)->bY H' vs ks->ks.Pairwise (λx y=>HM.pY x<HM.pY y)->(∀z,z∈ks↔z.1∈ws/\z.2∈ts/\fz.lv rs z.1.toNat z.2)->Q (.ref l) H'
def Cf(T:Txt w K mg):b7 P w K mg base gT 1 T.qS.f T.qS.d ["onward", "things", "lively"] JE:=by
 refine T.qS.F.ok nA (λvs H Q E h=>?_) (λcdv A outer s H vs Q E hr h=>?_)
 .obtain⟨o,th,lv,ws,xs,ts,as,rs,rfl,_⟩:=h;rfl
 obtain⟨o,th,lv,ws,xs,ts,as,rs,rfl,ho,hw2,hw,GA,hxs,KU,htk,hal,zf,yZ,hL,q⟩:=h;refine⟨_,(ak (aE (i:=3) nA.nd rfl (ao rfl) (dN ai))
 (ak (eK bX rfl (cI (pv 0)) (aX (i:=4) nA.nd rfl (cg rfl))
 (au (fk (jx dS nG nH jW (pv 3) (aa (cP (bD.caps (x := "thing") (fr:=["lively", "way"]) (ix:=[2,4]) (nm:=["way", "lively"]) rfl rfl (by decide +kernel) rfl (by decide +kernel) rfl (by decide +kernel) ⟨rfl,⟨rfl,trivial⟩⟩ rfl (by decide +kernel) rfl ⟨⟨rfl,rfl,rfl⟩,⟨⟨rfl,rfl,rfl⟩,trivial⟩⟩) (cI (pv 1)) (λ_ _ _ _=>(nq (PW.pt (rZ (aG ((Ls (K:=K) rfl) hr.units) (pv 0) bz (aM _)) (pN (aG ((Dl (K:=K) rfl) hr.units) (pv 0) (aS (gJ (K:=K) rfl) (pv 1) (pv 2) (λ_ _=>rfl)) (by with_unfolding_all rfl))))))) (λ_ _ _ _=>(bB (aa (pv 2) (aa (pv 0) ai))))) ai)))))
 (au (aJ (aT (BU hr.units rfl) rfl T.oS BT.nV (aa (dz (Fq hr.units rfl) rfl T.Je BT.CW (aa (pv 3) ai)) ai)))))),?_⟩
 show(_:TS) (Ends.mk _ _ _ _) [_,_,_,_,_] H;walk_at "start";walk_at "go";rename_i f H1 n1;have ff:=n1.1;have s1:=n1.same;have hf1:=n1.self;clear n1;refine f_list (xs:=ws.map V.int) (λi σ' H'=>(∃y,σ'=[some (.ref o),some (.ref th),some (.ref lv),some (.ref f),y])/\aB H H'/\∃(vs:List V)(ks:List HM.bP),H' f=some (.lst vs)/\bY H' vs ks/\ks.length<=2*i/\∀z,z∈ks↔z.1∈ws.take i/\z.2∈ts/\fz.lv rs z.1.toNat z.2) ?_ ?_ ?_ ?_
 .exact⟨⟨_,rfl⟩,s1,[],[],hf1,.nil,aH _,λz=>by simp⟩
 .rintro i σ' H' _ ⟨_,s',_⟩;exact bE.of (s' _ _ ho)
 .rintro i x σ' H2 hx ⟨⟨y0,rfl⟩,s2,vs,ks,hf2,hks,yf,hmem⟩;rw[bw] at hx;obtain⟨q0,RE,rfl⟩:=di.mp hx;obtain⟨hq0,hq1⟩:=hw q0 (fB RE);have hil:=(fu RE).1;obtain⟨j,rfl⟩:∃j:Nat,q0=(j:Int):=⟨q0.toNat,by omega⟩;obtain⟨a,ha⟩:∃a,as[j]?=some a:=⟨_,fO (by omega)⟩;obtain⟨us,pS,hps⟩:=hL j a ha;have Uk:=s2 _ _ pS;have JF:=hps.same s2;have QL:=s2 _ _ GA;have QM:=hxs.same s2;have Mp:=s2 _ _ zf;have NW:=hxs.length;have hnf:∀{b:Addr}{o:HO},H b=some o->b≠f:=λe z=>by rw[z,ff] at e;cases e
  walk_at "go";refine gI (xs:=xs) (λk zs H'=>aB H2 H'/\∃A0:List HM.bP,bY H' zs A0/\A0.length<=k/\∀z,z∈A0↔z.1=(j:Int)/\z.2∈ts.take k/\fz.lv rs j z.2) ⟨aB.refl _,[],.nil,aH _,λz=>by simp⟩ ?_ ?_ ?_
  .rintro k zs H' _ ⟨s',_⟩;exact bE.of (s' _ _ QL)
  .rintro k y zs H3 hy ⟨s3,A0,hk2,Y0,hm2⟩;obtain⟨t,QJ,hyt⟩:=br QM hy;have QN:=eY.same hyt s3;have hkb:=(fu hy).1;have QK:=hk2.length;refine⟨bU (by omega),?_⟩;walk_at "go";refine NQ QN ?_;have step:∀b:Bool,YU rs j t=b->(b=true->∀(u:Addr)(H4:Hp),fh H3 u (.tup [.int (j:Int),y]) H4->aB H2 H4/\∃A0:List HM.bP,bY H4 (zs++[.ref u]) A0/\A0.length<=k+1/\∀z,z∈A0↔z.1=(j:Int)/\z.2∈ts.take (k+1)/\fz.lv rs j z.2)/\(b=false->aB H2 H3/\∃A0:List HM.bP,bY H3 zs A0/\A0.length<=k+1/\∀z,z∈A0↔z.1=(j:Int)/\z.2∈ts.take (k+1)/\fz.lv rs j z.2):=by
    intro b hb;have et:ts.take (k+1)=ts.take k++[t]:=by rw[cB,QJ];rfl
    refine⟨λe u H4 n4=>⟨s3.trans n4.same,A0++[((j:Int),t)],cH (bY.same hk2 n4.same) ⟨u,y,rfl,n4.self,eY.same QN n4.same⟩,by simp;omega,λz=>?_⟩,λe=>⟨s3,A0,hk2,by omega,λz=>?_⟩⟩
    .rw[e] at hb;rw[aO,hm2 z,et,aO,aA,aA];constructor
     .rintro(⟨h1,h2,h3⟩|rfl)
      .exact⟨h1,.inl h2,h3⟩
      .exact⟨rfl,.inr rfl,DZ.mp hb⟩
     .rintro⟨h1,h2|h2,h3⟩
      .exact .inl ⟨h1,h2,h3⟩
      .exact .inr (Prod.ext h1 h2)
    .rw[e] at hb;rw[hm2 z,et,aO,aA];constructor
     .rintro⟨h1,h2,h3⟩;exact⟨h1,.inl h2,h3⟩
     .rintro⟨h1,h2|h2,h3⟩
      .exact⟨h1,h2,h3⟩
      .rw[h2] at h3;rw[DZ.mpr h3] at hb;cases hb
   cases t with
   | none =>
    show wQ _ (.bl true) H3;walk_at "go";rename_i u H4 n4;exact(step true rfl).1 rfl u H4 n4
   | some p =>
    show wQ _ (.bl false) H3;obtain⟨b,rfl,hb⟩:=QN;have QO:=s3 _ _ Mp;have FH:=s3 _ _ Uk;walk_at "go";refine cJ (bE.of QO) (v:=.ref a) (fP (by rw[bw,ha];rfl)) ?_;walk_at "go";refine Dm hb (bE.of FH) (bQ.same s3 JF) ?_;by_cases hm:p∈jB rs j
    .rw[decide_eq_true hm];show wQ _ (.bl true) H3;walk_at "go";rename_i u H4 n4;exact(step true (decide_eq_true hm)).1 rfl u H4 n4
    .rw[decide_eq_false hm];show wQ _ (.bl false) H3;walk_at "go";exact(step false (decide_eq_false hm)).2 rfl
  .rintro zs H3 ⟨s3,A0,hk2,Y0,hm2⟩ l H4 n4;have D3:=n4.keep (s3 _ _ hf2);have Y3:=bY.same (bY.same hks s3) n4.same;have QK:=hk2.length;have hvl:=hks.length;have hl4:=n4.self;have Wk:=bY.same hk2 n4.same;have s04:=(s2.trans s3).trans n4.same;clear n4;walk_at "go";rename_i H5 p5;have s5:=p5.same s04 ff;have sp:∀(v:V)(k:HM.bP),bq H4 v k->bq H5 v k:=λv k ⟨a1,u,e1,e2,e3⟩=>⟨a1,u,e1,p5.keep (by intro z;subst z;rw[D3] at e2;cases e2) e2,by
    revert e3
    generalize k.2=k2;intro e3;cases k2 with
    | none=>exact e3
    | some p=>obtain⟨b,e4,e5⟩:=e3;exact⟨b,e4,p5.keep (by intro z;subst z;rw[D3] at e5;cases e5) e5⟩⟩
   refine⟨⟨_,rfl⟩,s5,_,ks++A0,p5.self,gZ (dH sp Y3) (dH sp Wk),by simp;omega,λz=>?_⟩;rw[aO,hmem z,hm2 z,cB,RE,aO,NW,cG];simp only[lY,aA];constructor
   .rintro(⟨h1,h2,h3⟩|⟨h1,h2,h3⟩)
    .exact⟨.inl h1,h2,h3⟩
    .exact⟨.inr h1,h2,by rw[h1];exact h3⟩
   .rintro⟨h1|h1,h2,h3⟩
    .exact .inl ⟨h1,h2,h3⟩
    .exact .inr ⟨h1,h2,by rw[h1] at h3;exact h3⟩
 .rintro σ' H2 ⟨⟨y0,rfl⟩,s2,vs,ks,hf2,hks,yf,hmem⟩;rw[av] at yf hmem;walk_at "go";refine Qi (bE.of hf2) hks (by omega) ?_;intro p H3 zs n3 hz hzm;walk_at "go";have hin:∀z∈zs,z.1.2∈ts:=λz hz'=>((hmem z.1).mp ((hzm _).mp (aF.mpr ⟨z,hz',rfl⟩))).2.1;refine LN n3.self (λz hz'=>(hz z hz').same n3.same) (λz hz' p hp=>?_) (λz hz' y hy=>hal _ (hin z hz') _ (hin y hy)) ?_
  .have:=htk _ (hin z hz');rw[hp] at this;obtain⟨h1,h2,h3⟩:=this;omega
  .intro l H4 vs4 ks4 n4 h4 m4 u4;exact q l vs4 ks4 H4 ((s2.trans n3.same).trans n4.same) ((s2.trans n3.same).free n4.1) n4.self (bY.same h4 n4.same) u4 λz=>by rw[m4,hzm,hmem,cG]
end
def oY{rs:List Row}(h:Rows H us rs)(hr:rs[p]?=some r):∃a,nF us (p:Int)=some (.ref a)/\H a=some (.tup r.vals):=by have hp:p<rs.length:=(fu hr).1;have hl:=h.length;obtain⟨y,hy,a,e,ha⟩:=br h (i:=p) (x:=us[p]'(by omega)) (by simp[show p<us.length by omega]);rw[hr] at hy;cases hy;exact⟨a,fP (by rw[<- e];simp[show p<us.length by omega]),ha⟩
def JG(H0 H:Hp)(rs:List Row)(r:Row)(bs:List Addr)(ts:List HM.fz):Prop:=bs.length=ts.length/\∀(i:Nat)(b:Addr)(t:HM.fz),bs[i]?=some b->ts[i]?=some t->H0 b=none/\∃vs ks,H b=some (.lst vs)/\bY H vs ks/\iM rs r t ks
section
variable {P:Program}{w:World}{K:aD}{mg:Str->Option Value}{base:Heap}
def FT:Sp:=λvs H Q _=>∃(a th lv:Addr)(r:Row)(xs:List V)(ts:List HM.fz)(as:List Addr)(rs:List Row),vs=[.ref a,.ref th,.ref lv]/\H a=some (.tup r.vals)/\r.ok rs.length/\H th=some (.lst xs)/\j6 H xs ts/\ts.length<=20/\(∀t∈ts,KS t)/\H lv=some (.lst (as.map V.ref))/\as.length=rs.length/\vS H as rs /\
 ∀(l:Addr)(bs:List Addr)(H':Hp),aB H H'->H l=none->H' l=some (.lst (bs.map V.ref))->JG H H' rs r bs ts->Q (.ref l) H'
def z8(T:Txt w K mg):b7 P w K mg base gT 4 T.oQ.f T.oQ.d ["row", "things", "lively"] FT:=by
 refine T.oQ.F.ok jz (λvs H Q E h=>?_) (λcdv A outer s H vs Q E hr h=>?_)
 .obtain⟨a,th,lv,r,xs,ts,as,rs,rfl,_⟩:=h;rfl
 obtain⟨a,th,lv,r,xs,ts,as,rs,rfl,ha,hok,GA,hxs,htl,hts,zf,yZ,hL,q⟩:=h;refine⟨_,(ak (aE (i:=3) jz.nd rfl (cg rfl) (aP T.reads (zU T) hr (aa (pv 0) ai)))
 (ak (aE (i:=4) jz.nd rfl (cg rfl) (aP T.gives (zV T) hr (aa (pv 0) ai)))
 (ak (aE (i:=5) jz.nd rfl (cg rfl) (aP T.oO (tG T) hr (aa (pv 0) ai)))
 (au (aJ (cP (bD.caps (x := "thing") (fr:=["row", "lively", "taken", "given", "onward"]) (ix:=[0,2,3,4,5]) (nm:=["taken", "row", "onward", "lively", "given"]) rfl rfl (by decide +kernel) rfl (by decide +kernel) rfl (by decide +kernel) ⟨rfl,⟨rfl,⟨rfl,⟨rfl,⟨rfl,trivial⟩⟩⟩⟩⟩ rfl (by decide +kernel) rfl ⟨⟨rfl,rfl,rfl⟩,⟨⟨rfl,rfl,rfl⟩,⟨⟨rfl,rfl,rfl⟩,⟨⟨rfl,rfl,rfl⟩,⟨⟨rfl,rfl,rfl⟩,trivial⟩⟩⟩⟩⟩) (cI (pv 1)) (λ_ _ _ _=>cQ) (λ_ _ _ _=>(aP T.qS (Cf T) hr (aa (pv 5) (aa (aP T.ie (qb T) hr (aa (pv 1) (aa (pv 0) (aa (pv 3) (aa (pv 4) ai))))) (aa (pv 2) ai))))))))))),?_⟩
 show(_:TS) (Ends.mk _ _ _ _) [_,_,_,_,_,_] H;walk_at "start";walk_at "go";refine⟨a,r,rs.length,rfl,ha,hok,λtk us H1 s1 _ htk pS=>?_⟩;walk_at "go";refine⟨a,r,rs.length,rfl,s1 _ _ ha,hok,λgv ws H2 s2 _ UJ hws=>?_⟩;walk_at "go";refine⟨a,r,rfl,s2 _ _ (s1 _ _ ha),λwy H3 s3 _ hwy=>?_⟩;have xF:=s2.trans s3;have JH:=s1.trans xF;have Y4:=xF _ _ htk;have FH:=pS.same xF;have Y5:=s3 _ _ UJ;have Y6:=hws.same s3;have KW:=JH _ _ ha;have Y7:=JH _ _ GA;have UK:=hxs.same JH;have QO:=JH _ _ zf;have hL3:vS H3 as rs:=λk a e=>let⟨vs,h1,h2⟩:=hL k a e;⟨vs,JH _ _ h1,h2.same JH⟩;clear s1 s2 s3 xF htk pS UJ hws ha GA hxs zf hL;have NW:=UK.length;walk_at "go";refine gI (xs:=xs) (λi ys H'=>aB H3 H'/\∃bs:List Addr,ys=bs.map V.ref/\JG H H' rs r bs (ts.take i)) ⟨aB.refl _,[],rfl,by simp,λi b t h=>by simp at h⟩ ?_ ?_ ?_
 .rintro i ys H' _ ⟨s',_⟩;exact bE.of (s' _ _ Y7)
 .rintro i x ys H4 hx ⟨s4,bs,rfl,Ud,Cg⟩;obtain⟨t,hti,Y8⟩:=br UK hx;have hil:=(fu hx).1;rw[cF] at Ud;refine⟨bU (by rw[av];omega),?_⟩;have AZ:=hts t (fB hti);walk_at "go";refine⟨a,tk,gv,x,r,rs.length,t,us,ws,rfl,s4 _ _ KW,hok,eY.same Y8 s4,AZ,s4 _ _ Y4,FH.same s4,s4 _ _ Y5,Y6.same s4,λTZ xs2 H5 s5 _ QL QM=>?_⟩;walk_at "go";have KY:=s4.trans s5;refine⟨wy,TZ,lv,r.ways,xs2,d9 r t,as,rs,rfl,KY _ _ hwy,Row.oU r,λq hq=>?_,QL,QM,tP r AZ,λu hu=>((jl hok AZ u).mp hu |>.ok hok AZ).1,λu hu v hv=>?_,KY _ _ QO,yZ,λk a e=>let⟨vs,h1,h2⟩:=hL3 k a e;⟨vs,KY _ _ h1,h2.same KY⟩,λl vs6 ks6 H6 s6 fl Wl Y9 u6 m6=>?_⟩
  .exact Row.ir hok q hq
  .rw[((jl hok AZ u).mp hu |>.ok hok AZ).2,((jl hok AZ v).mp hv |>.ok hok AZ).2]
  .have Za:=KY.trans s6;refine⟨Za,bs++[l],by simp,by simp;omega,λj b t' hb ht'=>?_⟩;rcases aY j bs.length with hlt|hge
   .rw[i7 hlt] at hb;have hj:j<i:=by omega
    rw[rQ (by omega)] at ht';obtain⟨h0,vs,ks,h1,h2,h3⟩:=Cg j b t' hb (by rw[rQ hj];exact ht');exact⟨h0,vs,ks,(s5.trans s6) _ _ h1,bY.same h2 (s5.trans s6),h3⟩
   .rw[iF hge] at hb;have hj:j=i:=by have:=(fu hb).1;simp at this;omega
    subst hj;rw[rQ (by omega),hti] at ht';cases ht';rw[show j-bs.length=0 by omega] at hb;cases hb;refine⟨(JH.trans KY).free fl,vs6,ks6,Wl,Y9,u6,λz=>?_⟩;rw[m6 z,jl hok AZ];rfl
 .rintro ys H4 ⟨s4,bs,rfl,Cg⟩ l H5 n5;rw[NW,cG] at Cg;refine q l bs H5 ((JH.trans s4).trans n5.same) ((JH.trans s4).free n5.1) n5.self ⟨Cg.1,λi b t hb ht=>?_⟩;obtain⟨h0,vs,ks,h1,h2,h3⟩:=Cg.2 i b t hb ht;exact⟨h0,vs,ks,n5.keep h1,bY.same h2 n5.same,h3⟩
end
def ef(H:Hp)(rs:List Row)(kvs:f6):Prop:=∀x∈kvs,∃(a:Addr)(vs:List V)(ks:List HM.bP)(k:Nat)(r:Row),x.2.2=.ref a/\H a=some (.lst vs)/\bY H vs ks/\x.1.1=(k:Int)/\rs[k]?=some r/\iM rs r x.1.2 ks
def cz(rs:List Row)(k:Nat):List HM.fz:=(jB rs k).map some++[none]
def bR(rs:List Row)(n:Nat):List HM.bP:=(List.range n).flatMap λk=>(cz rs k).map λt=>((k:Int),t)
def eY.xH(h:eY H t v)(hf:H f=some (.ext φ))(p:pC H f o H'):eY H' t v:=by
 cases t with
 | none=>exact h
 | some p2=>obtain⟨b,e1,e2⟩:=h;exact⟨b,e1,p.keep (by intro z;subst z;rw[hf] at e2;cases e2) e2⟩
theorem bq.xH{k:HM.bP}(h:bq H v k)(hf:H f=some (.ext φ))(p:pC H f o H'):bq H' v k:=by obtain⟨a,u,e,h1,h2⟩:=h;exact⟨a,u,e,p.keep (by intro z;subst z;rw[hf] at h1;cases h1) h1,eY.xH h2 hf p⟩
theorem ef.same(h:ef H rs kvs)(s:aB H H'):ef H' rs kvs:=λx hx=>by obtain⟨a,vs,ks,k,r,h1,h2,h3,h4⟩:=h x hx;exact⟨a,vs,ks,k,r,h1,s _ _ h2,bY.same h3 s,h4⟩
theorem ef.xH(h:ef H rs kvs)(hf:H f=some (.ext φ))(p:pC H f o H'):ef H' rs kvs:=λx hx=>by obtain⟨a,vs,ks,k,r,h1,h2,h3,h4⟩:=h x hx;exact⟨a,vs,ks,k,r,h1,p.keep (by intro z;subst z;rw[hf] at h2;cases h2) h2,dH (λ_ _ x=>bq.xH x hf p) h3,h4⟩
def Ci(h:bQ H vs ps):j6 H vs (ps.map some):=by
 induction h with
 | nil=>exact .nil
 | cons h _ ih=>exact .cons h ih
def nB(rs:List Row)(k:Nat):(cz rs k).length<=17:=by have:=lP rs k;unfold cz;simp;omega
def vV(rs:List Row)(k:Nat):∀t∈cz rs k,KS t:=λt ht=>by
 unfold cz at ht;rcases aO.mp ht with ht|ht
 .obtain⟨p,hp,rfl⟩:=aF.mp ht;have all:∀t∈cR,(t.1=0\/t.1=1)/\0<=t.2/\t.2<8:=by decide
  exact all p (dM.mp hp).1
 .rw[aA.mp ht];trivial
def nC(rs:List Row)(n:Nat):bR rs (n+1)=bR rs n++(cz rs n).map λt=>((n:Int),t):=by unfold bR;rw[m9,List.flatMap_append];simp
theorem oZ(rs:List Row):∀n,(bR rs n).length<=17*n
 | 0=>by simp[bR]
 | n+1=>by have:=oZ rs n;have h:=nB rs n;rw[nC,aR,av];omega
def vW(rs:List Row)(k:Nat):(cz rs k).Nodup:=by
 unfold cz;rw[gq];refine⟨?_,by simp,λx hx y hy e=>?_⟩
 .have h:(jB rs k).Nodup:=(List.Pairwise.filter _ (show cR.Pairwise (· ≠ ·) by decide));exact lq.mpr (h.imp λh e=>h (Option.some.inj e))
 .obtain⟨p,_,rfl⟩:=aF.mp hx;rw[aA.mp hy] at e;cases e
def JI(h:(cz rs i)[j]?=some t):((i:Int),t)∉bR rs i++((cz rs i).take j).map (λt=>((i:Int),t)):=by
 intro hm;rcases aO.mp hm with hm|hm
 .unfold bR at hm;obtain⟨k,hk,hz⟩:=m8.mp hm;obtain⟨u,_,e⟩:=aF.mp hz;have e1:(k:Int)=(i:Int):=congrArg Prod.fst e;have:=fX.mp hk;omega
 .obtain⟨u,hu,e⟩:=aF.mp hm;have e2:u=t:=congrArg Prod.snd e;subst e2;obtain⟨m,hm,e3⟩:=List.mem_take_iff_getElem.mp hu;have hj:=(fu h);obtain⟨hjl,hje⟩:=hj;have:=(rR (vW rs i)).mp (e3.trans hje.symm);omega
section
variable {P:Program}{w:World}{K:aD}{mg:Str->Option Value}{base:Heap}
def FU(P:Program)(w:World):Sp:=λvs H Q _=>∃(c:Addr)(us:List V)(rs:List Row),vs=[.ref c]/\H c=some (.lst us)/\Rows H us rs/\(∀r∈rs,r.ok rs.length)/\rs.length<=200 /\
 ∀(d:Addr)(ep:Nat)(kvs:f6)(H':Hp),aB H H'->H d=none->H' d=some (.ext (dO P w d ep kvs))->cK H' kvs->kvs.map (·.1)=bR rs rs.length->ef H' rs kvs->Q (.ref d) H'
def Cj(T:Txt w K mg):b7 P w K mg base gT 5 T.qT.f T.qT.d ["code"] (FU P w):=by
 refine T.qT.F.ok fL (λvs H Q E h=>?_) (λcdv A outer s H vs Q E hr h=>?_)
 .obtain⟨c,us,rs,rfl,_⟩:=h;rfl
 obtain⟨c,us,rs,rfl,hc,hrs,hok,hn,q⟩:=h;refine⟨_,(ak (aE (i:=1) fL.nd rfl (ao rfl) (aP T.live (DT T) hr (aa (pv 0) ai)))
 (ak (aE (i:=2) fL.nd rfl (ao rfl) zl)
 (ak (eK bX rfl (kC rfl T.fM (aa (pv 0) ai)) (nj (n:=2) rfl (bG (aX (i:=3) fL.nd rfl (ao rfl)) (bG (aX (i:=4) fL.nd rfl (ao rfl)) gk)))
 (ak (aE (i:=5) fL.nd rfl (ao rfl) (ay su (aS bL (pv 1) (pv 3) (λ_ _=>rfl)) (dN (aa bz ai))))
 (au (eK bX rfl (Bu rfl T.Jg (aa (pv 5) (aa (aP T.oQ (z8 T) hr (aa (pv 4) (aa (pv 5) (aa (pv 1) ai)))) ai))) (nj (n:=2) rfl (bG (aX (i:=6) fL.nd rfl (ao rfl)) (bG (aX (i:=7) fL.nd rfl (ao rfl)) gk)))
 (au (zm hr.units (pv 2) (bB (aa (pv 3) (aa (pv 6) ai))) (pv 7) rfl))))))
 (au (aJ (pv 2)))))),?_⟩
 show(_:TS) (Ends.mk _ _ _ _) [_,_,_,_,_,_,_,_] H;walk_at "start";walk_at "go";refine⟨c,us,rs,rfl,hc,hrs,hok,hn,λlv as H1 s1 _ zf yZ _ _ _ hL=>?_⟩;walk_at "go";rename_i d ep H2 n2;have fd:=(show H d=none from s1.free n2.1);have s2:=s1.trans n2.same;have hd2:=n2.self;have Mp:=n2.keep zf;have Ny:vS H2 as rs:=λk a e=>let⟨vs,h1,h2⟩:=hL k a e;⟨vs,n2.keep h1,h2.same n2.same⟩;have fd1:=n2.1;have s12:=n2.same;clear n2;have qw:=hrs.length;refine sG (xs:=us) (λi σ' H'=>(∃y3 y4 y5 y6 y7,σ'=[some (.ref c),some (.ref lv),some (.ref d),y3,y4,y5,y6,y7])/\aB H1 H'/\∃ep kvs,H' d=some (.ext (dO P w d ep kvs))/\cK H' kvs/\kvs.map (·.1)=bR rs i/\ef H' rs kvs) ?_ ?_ ?_ ?_
 .exact⟨⟨_,_,_,_,_,rfl⟩,s12,ep,[],hd2,(λx hx=>nomatch hx),rfl,λx hx=>nomatch hx⟩
 .rintro i σ' H' _ ⟨_,s',_⟩;exact bE.of (s' _ _ (s1 _ _ hc))
 .rintro i x p σ' H3 H4 hx ⟨⟨y3,y4,y5,y6,y7,rfl⟩,s3,Zb,kvs,Jr,RA,em,hla⟩ n4;obtain⟨r,Mf,a,rfl,ha⟩:=br hrs hx;have Mq:=hok r (fB Mf);have Mr:aB H1 H4:=s3.trans n4.same;have Wm:=n4.keep Jr;have Wk:=RA.same n4.same;have UL:=ef.same hla n4.same;walk_at "go";have hil:=(fu Mf).1;obtain⟨al,hal⟩:∃a,as[i]?=some a:=⟨_,fO (by omega)⟩;obtain⟨ws,hws,hps⟩:=hL i al hal;have Zc:=Mr _ _ hws;have hwl:=hps.length;have RC:=lP rs i;clear n4 Jr RA hla;refine cJ (bE.of (Mr _ _ zf)) (v:=.ref al) (fP (by rw[bw,hal];rfl)) ?_;walk_at "go";rename_i mk H5 n5 tg H6 n6;have KZ:=n5.same.trans n6.same;have Ms:=Mr.trans KZ;have Wn:=n6.self;have hts:j6 H6 (ws++[.str "mark"]) (cz rs i):=gZ (Ci (hps.same Ms)) (.cons rfl .nil);have Ob:=KZ _ _ Wm;have Y9:=Wk.same KZ;have Zd:=ef.same UL KZ;clear n5 n6 KZ Wm Wk UL Zc;refine⟨a,tg,lv,r,_,cz rs i,as,rs,rfl,Ms _ _ (s1 _ _ ha),Mq,Wn,hts,bJ (nB rs i) (by decide),vV rs i,Ms _ _ zf,yZ,λk a e=>let⟨vs,h1,h2⟩:=hL k a e;⟨vs,Ms _ _ h1,h2.same Ms⟩,λl bs H7 s7 _ hl Cg=>?_⟩;walk_at "go";have JJ:=s7 _ _ Ob;have hk7:=Y9.same s7;have JK:=ef.same Zd s7;have Ze:=hts.same s7;have Zf:=s7 _ _ Wn;have Ud:=Cg.1;have htl:=hts.length;have yf:kvs.length<=17*rs.length:=by have h1:=congrArg List.length em;rw[av] at h1;have h2:=oZ rs i;have h3:17*i<=17*rs.length:=Nat.mul_le_mul_left _ (by omega);omega
  have hld:l≠d:=λz=>by rw[z,JJ] at hl;cases hl
  have htd:tg≠d:=λz=>by rw[z,Ob] at Wn;cases Wn
  have UM:=nB rs i;refine Tp (t1:=false) (t2:=false) (λj σ' H'=>(∃y6 y7,σ'=[some (.ref c),some (.ref lv),some (.ref d),some (.int (i:Int)),some (.ref a),some (.ref tg),y6,y7])/\(∀b o,b≠d->H7 b=some o->H' b=some o)/\∃ep kvs',H' d=some (.ext (dO P w d ep kvs'))/\cK H' kvs'/\kvs'.map (·.1)=bR rs i++((cz rs i).take j).map (λt=>((i:Int),t))/\ef H' rs kvs') ?_ ?_ ?_ ?_
  .exact⟨⟨_,_,rfl⟩,λb o _ e=>e,Zb,kvs,JJ,hk7,by simpa using em,JK⟩
  .rintro j σ' H' _ ⟨_,k',_⟩;exact⟨bE.of (k' _ _ htd Zf),bE.of (k' _ _ hld hl)⟩
  .rintro j x y p σ' H8 H9 hx hy ⟨⟨y6,y7,rfl⟩,k8,ep8,Mt,GC,Wo,RJ,QS⟩ n9;obtain⟨t,htj,Y8⟩:=br Ze hx;rw[bw] at hy;obtain⟨b,hbj,rfl⟩:=di.mp hy;obtain⟨h0b,bvs,bks,hb7,Zg,Zh⟩:=Cg.2 j b t hbj htj;walk_at "go";rename_i tu zZ D4;have hbd:b≠d:=λz=>by rw[z,Ob] at h0b;cases h0b
   have nd7:∀{c:Addr}{zs:List V},H7 c=some (.tup zs)->c≠d:=λe z=>by rw[z,JJ] at e;cases e
   have t8:∀{v:V}{u:HM.fz},eY H7 u v->eY H8 u v:=λ{v u} h=>by
    cases u with
    | none=>exact h
    | some q=>obtain⟨c,e1,e2⟩:=h;exact⟨c,e1,k8 _ _ (nd7 e2) e2⟩
   have h8:∀(v:V)(k:HM.bP),bq H7 v k->bq H8 v k:=λv k ⟨c,u,e1,e2,e3⟩=>⟨c,u,e1,k8 _ _ (nd7 e2) e2,t8 e3⟩;have z9:=n9.same.trans D4.same;have tQ:=z9 _ _ GC;have hkey:bq zZ (.ref tu) ((i:Int),t):=⟨tu,x,rfl,D4.self,eY.same (t8 Y8) z9⟩;have abr:Mt.length<=17*i+17:=by have h1:=congrArg List.length RJ;rw[av,aR,av,cF] at h1;have h2:=oZ rs i;omega
   refine IL tQ (Wo.same z9) hkey (by omega) ?_;intro qk z6 yg;have hnew:((i:Int),t)∉Mt.map (·.1):=by rw[RJ];exact JI htj
   rw[sS hnew] at yg;refine⟨⟨_,_,rfl⟩,λb o hb e=>yg.keep hb (z9 _ _ (k8 b o hb e)),qk,_,yg.self,λz hz=>?_,?_,λz hz=>?_⟩
   .rcases aO.mp hz with hz|hz
    .exact bq.xH ((Wo.same z9) z hz) tQ yg
    .rw[aA.mp hz];exact bq.xH hkey tQ yg
   .rw[bF,RJ,cB,htj,bF,mX];rfl
   .rcases aO.mp hz with hz|hz
    .exact ef.xH (ef.same QS z9) tQ yg z hz
    .rw[aA.mp hz];exact⟨b,bvs,bks,i,r,rfl,yg.keep hbd (z9 _ _ (k8 _ _ hbd hb7)),dH (λv k h=>bq.xH (bq.same (h8 v k h) z9) tQ yg) Zg,rfl,Mf,Zh⟩
  .rintro σ' H8 ⟨⟨y6,y7,rfl⟩,k8,ep8,Mt,GC,Wo,RJ,QS⟩;rw[av,Ud,htl,Nat.min_self,cG,<- nC] at RJ;refine Zi _ _ ?_;exact⟨⟨_,_,_,_,_,rfl⟩,λb o e=>k8 b o (λz=>by subst z;rw[fd1] at e;cases e) (s7 _ _ (Ms _ _ e)),ep8,Mt,GC,Wo,RJ,QS⟩
 .rintro σ' H3 ⟨⟨y3,y4,y5,y6,y7,rfl⟩,s3,Zb,kvs,Jr,RA,em,hla⟩;rw[qw] at em;walk_at "go";exact q d Zb kvs H3 (s1.trans s3) fd Jr RA em hla
end
section
variable {α:Type} [DecidableEq α]
def dD(L:α->List α)(ks:List α)(o:α):List α:=ks.flatMap λx=>((L x).filter λz=>decide (z=o)).map λ_=>x
def Oc(L:α->List α)(F:List (α×Int)):Prop:=∀x∈F,1<=x.2/\(∀o∈L x.1,∃m,(o,m)∈F/\m<x.2)/\(x.2=1/\L x.1=[]\/∃o∈L x.1,(o,x.2-1)∈F)
structure vX (ks:List α) (L:α->List α) (F:List (α×Int)):Prop where
 nd:(F.map (·.1)).Nodup
 sub:∀x∈F,x.1∈ks
 fin:Oc L F
 out:∀h∈ks,h∉F.map (·.1)->∃o∈L h,o∉F.map (·.1)
def mU(L:α->List α)(G:List α)(h:α):Nat:=((L h).filter λo=>decide (o∉G)).length
structure iu (ks:List α) (L:α->List α) (F:List (α×Int)) (w:α->Int) (R:List α):Prop where
 nd:(F.map (·.1)).Nodup
 sub:∀x∈F,x.1∈ks
 fin:Oc L F
 cnt:∀h∈ks,w h=mU L (F.map (·.1)) h
 QT:R.Nodup
 K0:∀h,h∈R↔h∈ks/\h∉F.map (·.1)/\w h=0
def FW{L:α->List α}{G:List α}{h:α}(e:mU L G h=0):∀o∈L h,o∈G:=λo ho=>rK λn=>by have:o∈(L h).filter λo=>decide (o∉G):=dM.mpr ⟨ho,decide_eq_true n⟩;rw[mU] at e;rw[List.length_eq_zero_iff.mp e] at this;exact nomatch this
def iu.done{ks:List α}{L:α->List α}{F:List (α×Int)}{w:α->Int}(v:iu ks L F w []):vX ks L F:=by
 refine⟨v.nd,v.sub,v.fin,λh hk hf=>rK λn=>?_⟩;have:h∈([]:List α):=(v.K0 h).mpr ⟨hk,hf,by
  rw[v.cnt h hk];have:(L h).filter (λo=>decide (o∉F.map (·.1)))=[]:=List.filter_eq_nil_iff.mpr λo ho e=>n ⟨o,ho,of_decide_eq_true e⟩;rw[mU,this];rfl⟩
 exact nomatch this
def iu.start{ks:List α}{L:α->List α}(nd:ks.Nodup):iu ks L [] (λh=>((L h).length:Int)) (ks.filter λh=>decide (((L h).length:Int)=0)):=by
 refine⟨.nil,(λx hx=>nomatch hx),(λx hx=>nomatch hx),λh _=>?_,List.Pairwise.filter _ nd,λh=>?_⟩
 .have:(L h).filter (λo=>decide (o∉List.map (·.1) ([]:List (α×Int))))=L h:=List.filter_eq_self.mpr λo _=>by simp
  rw[mU,this]
 .rw[dM];simp
def JL{L:α->List α}{o x:α}:∀{ks:List α},ks.Nodup->x∈ks->(dD L ks o).count x=(L x).count o:=by
 intro ks;have each:∀y,(((L y).filter λz=>decide (z=o)).map λ_=>y).count x=if y=x then(L x).count o else 0:=λy=>by
  generalize hn:((L y).filter λz=>decide (z=o))=l;have e:l.map (λ_=>y)=List.replicate l.length y:=List.map_const';rw[e,List.count_replicate];by_cases hy:y=x
  .subst hy;simp only[BEq.rfl,if_true];rw[<- hn,List.count_eq_length_filter];exact congrArg List.length (List.filter_congr λz _=>by by_cases hz:z=o<;>simp[hz])
  .rw[if_neg hy,if_neg (by simpa using hy)]
 induction ks with
 | nil=>intro _ h;exact nomatch h
 | cons y ks ih =>
  intro nd hx;have VZ:=iG.mp nd;rw[dD,rO,List.count_append,each];by_cases hy:y=x
  .subst hy;rw[if_pos rfl];have z:(ks.flatMap λx=>((L x).filter λz=>decide (z=o)).map λ_=>x).count y=0:=by rw[List.count_eq_zero];intro hm;obtain⟨a,ha,hb⟩:=m8.mp hm;obtain⟨_,_,rfl⟩:=aF.mp hb;exact VZ.1 ha
   rw[z];rfl
  .rw[if_neg hy,Nat.zero_add];exact ih VZ.2 ((aI.mp hx).resolve_left λe=>hy e.symm)
def JM{L:α->List α}{ks:List α}{o x:α}:x∈dD L ks o↔x∈ks/\o∈L x:=by
 unfold dD;rw[m8];constructor
 .rintro⟨y,hy,hx⟩;obtain⟨z,hz,rfl⟩:=aF.mp hx;obtain⟨h1,h2⟩:=dM.mp hz;rw[of_decide_eq_true h2] at h1;exact⟨hy,h1⟩
 .rintro⟨hx,ho⟩;exact⟨x,hx,aF.mpr ⟨o,dM.mpr ⟨ho,by simp⟩,rfl⟩⟩
def FY{L:α->List α}{G:List α}{h x:α}(hG:h∉G):mU L G x=mU L (G++[h]) x+(L x).count h:=by
 unfold mU;induction L x with
 | nil=>rfl
 | cons o l ih =>
  by_cases e:o=h
  .subst e;rw[rN (by simpa using hG),rM (by simp),List.count_cons_self,eB,ih];omega
  .rw[List.count_cons_of_ne e];by_cases g:o∈G
   .rw[rM (by simp[g]),rM (by simp[g]),ih]
   .rw[rN (by simp[g]),rN (by simp[g,e]),eB,eB,ih];omega
structure o4 (ks:List α) (L:α->List α) (G:List α) (E:List α) (j:Nat) (w:α->Int) (R:List α):Prop where
 cnt:∀x∈ks,w x=mU L G x+((E.drop j).count x:Nat)
 QT:R.Nodup
 K0:∀x,x∈R↔x∈ks/\x∉G/\w x=0
def iu.pop{ks:List α}{L:α->List α}{F:List (α×Int)}{w:α->Int}{R:List α}{h:α}(nd:ks.Nodup)(v:iu ks L F w (R++[h])):
  h∈ks/\h∉F.map (·.1)/\(∀o∈L h,o∈F.map (·.1))/\o4 ks L (F.map (·.1)++[h]) (dD L ks h) 0 w R:=by
 obtain⟨h1,h2,h3⟩:=(v.K0 h).mp (by simp);have h4:=v.cnt h h1;refine⟨h1,h2,FW (by omega),λx hx=>?_,(gq.mp v.QT).1,λx=>?_⟩
 .rw[v.cnt x hx,List.drop_zero,JL nd hx,FY h2];simp
 .have hR:h∉R:=λz=>(gq.mp v.QT).2.2 h z h (by simp) rfl;have:=v.K0 x;rw[aO,aA] at this ⊢;constructor
  .intro hx;obtain⟨a,b,c⟩:=this.mp (.inl hx);exact⟨a,λz=>z.elim b λe=>hR (e▸hx),c⟩
  .rintro⟨a,b,c⟩;exact(this.mpr ⟨a,λz=>b (.inl z),c⟩).resolve_right λe=>b (.inr e)
def tR(w:α->β)(x:α)(n:β):α->β:=λy=>if y=x then n else w y
def o4.next{ks:List α}{L:α->List α}{G:List α}{h:α}{w:α->Int}{R:List α}{x:α}(v:o4 ks L (G++[h]) (dD L ks h) j w R)
  (cl:∀y∈ks,y∈G->∀o∈L y,o∈G)(hG:h∉G)(hL:∀o∈L h,o∈G)(hx:(dD L ks h)[j]?=some x):
  1<=w x/\x∈ks/\(w x-1=0->o4 ks L (G++[h]) (dD L ks h) (j+1) (tR w x (w x-1)) (R++[x]))/\(w x-1≠0->o4 ks L (G++[h]) (dD L ks h) (j+1) (tR w x (w x-1)) R):=by
 obtain⟨hk,hh⟩:=JM.mp (fB hx);obtain⟨hj,ej⟩:=fu hx;have c:=v.cnt x hk;have ed:∀y,((dD L ks h).drop j).count y=((dD L ks h).drop (j+1)).count y+if x=y then 1 else 0:=λy=>by rw[List.drop_eq_getElem_cons hj,ej,List.count_cons];by_cases e:x=y<;>simp[e]
 have hw:1<=w x:=by have:=ed x;rw[if_pos rfl] at this;omega
 have xG:x∉G++[h]:=λz=>by
  rcases aO.mp z with z|z
  .exact hG (cl x hk z h hh)
  .rw[aA.mp z] at hh;exact hG (hL h hh)
 have cnt:∀y∈ks,tR w x (w x-1) y=mU L (G++[h]) y+(((dD L ks h).drop (j+1)).count y:Nat):=λy hy=>by
  have c:=v.cnt y hy;have e:=ed y;unfold tR;by_cases hyx:y=x
  .subst hyx;rw[if_pos rfl] at e ⊢;omega
  .rw[if_neg λz=>hyx z.symm] at e;rw[if_neg hyx];omega
 have xR:x∉R:=λz=>by have:=((v.K0 x).mp z).2.2;omega
 refine⟨hw,hk,λe0=>⟨cnt,?_,λy=>?_⟩,λe0=>⟨cnt,v.QT,λy=>?_⟩⟩
 .rw[gq];exact⟨v.QT,by simp,λa ha b hb e=>xR (by rw[aA.mp hb] at e;exact e▸ha)⟩
 .rw[aO,aA];unfold tR;by_cases hyx:y=x
  .subst hyx;rw[if_pos rfl];exact⟨λ_=>⟨hk,xG,e0⟩,λ_=>.inr rfl⟩
  .rw[if_neg hyx];exact⟨λz=>(v.K0 y).mp (z.resolve_right hyx),λz=>.inl ((v.K0 y).mpr z)⟩
 .unfold tR;by_cases hyx:y=x
  .subst hyx;rw[if_pos rfl];exact⟨λz=>absurd z xR,λz=>absurd z.2.2 e0⟩
  .rw[if_neg hyx];exact v.K0 y
def o4.end{ks:List α}{L:α->List α}{F:List (α×Int)}{h:α}{m:Int}{w0 w:α->Int}{R0 R E:List α}(v0:iu ks L F w0 R0)(v:o4 ks L (F.map (·.1)++[h]) E E.length w R)(hk:h∈ks)(hF:h∉F.map (·.1))(hL:∀o∈L h,o∈F.map (·.1))(e:n=1+m)
  (h0:L h=[]->m=0)(h1:L h≠[]->(∃o∈L h,(o,m)∈F)/\∀o∈L h,∀k,(o,k)∈F->k<=m):iu ks L (F++[(h,n)]) w R:=by
 have em:(F++[(h,n)]).map (·.1)=F.map (·.1)++[h]:=by simp
 have up:∀o k,(o,k)∈F->(o,k)∈F++[(h,n)]:=λo k z=>mZ _ z;refine⟨?_,λx hx=>?_,λx hx=>?_,λx hx=>?_,v.QT,?_⟩
 .rw[em,gq];exact⟨v0.nd,by simp,λa ha b hb z=>hF (by rw[aA.mp hb] at z;exact z▸ha)⟩
 .rcases aO.mp hx with z|z
  .exact v0.sub x z
  .rw[aA.mp z];exact hk
 .rcases aO.mp hx with z|z
  .obtain⟨a,b,c⟩:=v0.fin x z;refine⟨a,λo ho=>let⟨k,c,d⟩:=b o ho;⟨k,up _ _ c,d⟩,c.imp_right λ⟨o,ho,c⟩=>⟨o,ho,up _ _ c⟩⟩
  .rw[aA.mp z];dsimp only;by_cases hn:L h=[]
   .have:=h0 hn;rw[hn];exact⟨by omega,(λo ho=>nomatch ho),.inl ⟨by omega,rfl⟩⟩
   .obtain⟨⟨o,ho,hm⟩,hle⟩:=h1 hn;have:=(v0.fin _ hm).1;dsimp only at this;refine⟨by omega,λo ho=>?_,.inr ⟨o,ho,?_⟩⟩
    .obtain⟨⟨_,k⟩,hx,rfl⟩:=aF.mp (hL o ho);have:=hle _ ho k hx;exact⟨k,up _ _ hx,by omega⟩
    .rw[show n-1=m by omega];exact up _ _ hm
 .rw[em,v.cnt x hx,List.drop_length];simp
 .rw[em];exact v.K0
theorem o5{β:Type}:∀{F:List (α×β)}{o:α}{a b:β},(F.map (·.1)).Nodup->(o,a)∈F->(o,b)∈F->a=b
 | [],_,_,_,_,h,_=>nomatch h
 | x::F,o,a,b,nd,ha,hb=>by
  rw[cj,iG] at nd;rcases aI.mp ha with e1|h1<;>rcases aI.mp hb with e2|h2
  .exact congrArg Prod.snd (e1.trans e2.symm)
  .exact absurd (by rw[<- e1];exact aF.mpr ⟨_,h2,rfl⟩) nd.1
  .exact absurd (by rw[<- e2];exact aF.mpr ⟨_,h1,rfl⟩) nd.1
  .exact o5 nd.2 h1 h2
end
def uL(H H':Hp):Prop:=∀b vs,H b=some (.tup vs)->H' b=some (.tup vs)
def uL.trans{H1 H2:Hp}(a:uL H H1)(b:uL H1 H2):uL H H2:=λc vs h=>b c vs (a c vs h)
def tS{xs:List V}(hf:H f=some (.lst xs))(p:pC H f o H'):uL H H':=λb vs h=>p.keep (by intro z;subst z;rw[hf] at h;cases h) h
def tU(hf:H f=some (.ext φ))(p:pC H f o H'):uL H H':=λb vs h=>p.keep (by intro z;subst z;rw[hf] at h;cases h) h
def eY.tups(h:eY H t v)(s:uL H H'):eY H' t v:=by
 cases t with
 | none=>exact h
 | some p2=>obtain⟨b,e1,e2⟩:=h;exact⟨b,e1,s _ _ e2⟩
theorem bq.tups{k:HM.bP}(h:bq H v k)(s:uL H H'):bq H' v k:=by obtain⟨a,u,e,h1,h2⟩:=h;exact⟨a,u,e,s _ _ h1,eY.tups h2 s⟩
theorem bY.tups(h:bY H vs ks)(s:uL H H'):bY H' vs ks:=dH (λ_ _ x=>bq.tups x s) h
theorem cK.tups(h:cK H kvs)(s:uL H H'):cK H' kvs:=λx hx=>bq.tups (h x hx) s
def gn(H:Hp)(kvs:f6)(L:HM.bP->List HM.bP):Prop:=∀x∈kvs,∃a vs,x.2.2=V.ref a/\H a=some (.lst vs)/\bY H vs (L x.1)
theorem gn.same(h:gn H kvs L)(s:aB H H'):gn H' kvs L:=λx hx=>let⟨a,vs,h1,h2,h3⟩:=h x hx;⟨a,vs,h1,s _ _ h2,bY.same h3 s⟩
def gn.xH(h:gn H kvs L)(hf:H f=some (.ext φ))(p:pC H f o H'):gn H' kvs L:=λx hx=>let⟨a,vs,h1,h2,h3⟩:=h x hx;⟨a,vs,h1,p.keep (by intro z;subst z;rw[hf] at h2;cases h2) h2,bY.tups h3 (tU hf p)⟩
theorem tV:∀{kvs:f6}{x:HM.bP×Addr×V},(kvs.map (·.1)).Nodup->x∈kvs->kI kvs x.1=some x.2.2
 | [],_,_,hx=>nomatch hx
 | y::kvs,x,nd,hx=>by
  rw[cj,iG] at nd;unfold kI;rw[i6];rcases aI.mp hx with rfl|hx
  .simp
  .have ne:¬y.1=x.1:=λe=>nd.1 (e▸k9 hx);rw[decide_eq_false ne];exact tV nd.2 hx
def xJ{k:HM.bP}(nd:(kvs.map (·.1)).Nodup)(hk:k∈kvs.map (·.1)):∃x∈kvs,x.1=k/\kI kvs k=some x.2.2:=by obtain⟨x,hx,rfl⟩:=aF.mp hk;exact⟨x,hx,rfl,tV nd hx⟩
def iW(ks:List HM.bP)(L:HM.bP->List HM.bP):Prop:=ks.Nodup/\ks.length<=4000/\∀k∈ks,(L k).length<=4/\∀o∈L k,o∈ks
theorem Aa(L:HM.bP->List HM.bP)(o:HM.bP):∀ks:List HM.bP,(∀k∈ks,(L k).length<=4)->(dD L ks o).length<=4*ks.length
 | [],_=>by simp[dD]
 | k::ks,h=>by have h1:=Aa L o ks λk hk=>h k (dg _ hk);have h2:=h k (by simp);have h3:=i8 (λz=>decide (z=o)) (L k);unfold dD at h1 ⊢;rw[rO,aR,av,eB];omega
def Ck(H0 H:Hp)(kvs:f6)(L:HM.bP->List HM.bP):Prop:=(kvs.map (·.2.2)).Nodup/\∀x∈kvs,∃a vs,x.2.2=V.ref a/\H0 a=none/\H a=some (.lst vs)/\bY H vs (L x.1)
theorem Ck.same{H0:Hp}(h:Ck H0 H kvs L)(s:aB H H'):Ck H0 H' kvs L:=⟨h.1,λx hx=>let⟨a,vs,h1,h0,h2,h3⟩:=h.2 x hx;⟨a,vs,h1,h0,s _ _ h2,bY.same h3 s⟩⟩
theorem Cm:∀{kvs:f6}{x y:HM.bP×Addr×V},(kvs.map (·.2.2)).Nodup->x∈kvs->y∈kvs->x.2.2=y.2.2->x=y
 | [],_,_,_,hx,_,_=>nomatch hx
 | z::kvs,x,y,nd,hx,hy,e=>by
  rw[cj,iG] at nd;rcases aI.mp hx with e1|h1<;>rcases aI.mp hy with e2|h2
  .rw[e1,e2]
  .exact absurd (by rw[<- e1,e];exact k9 h2) nd.1
  .exact absurd (by rw[<- e2,<- e];exact k9 h1) nd.1
  .exact Cm nd.2 h1 h2 e
section
variable {P:Program}{w:World}{K:aD}{mg:Str->Option Value}{base:Heap}
def JN(P:Program)(w:World):Sp:=λvs H Q _=>∃(d:Addr)(ep:Nat)(kvs:f6)(L:HM.bP->List HM.bP),vs=[.ref d]/\H d=some (.ext (dO P w d ep kvs))/\cK H kvs/\gn H kvs L/\iW (kvs.map (·.1)) L /\
 ∀(d':Addr)(qk:Nat)(kvs':f6)(H':Hp),aB H H'->H d'=none->H' d'=some (.ext (dO P w d' qk kvs'))->cK H' kvs'->kvs'.map (·.1)=kvs.map (·.1)->gn H' kvs' (dD L (kvs.map (·.1)))->Q (.ref d') H'
def FZ(T:Txt w K mg):b7 P w K mg base gT 1 T.turned.f T.turned.d ["later"] (JN P w):=by
 refine T.turned.F.ok l9 (λvs H Q E h=>?_) (λcdv A outer s H vs Q E hr h=>?_)
 .obtain⟨d,ep,kvs,L,rfl,_⟩:=h;rfl
 obtain⟨d,ep,kvs,L,rfl,hd,hk,hl,⟨nd,hn,hL⟩,q⟩:=h;rw[av] at hn;refine⟨_,(ak (aE (i:=1) l9.nd rfl (ao rfl) (dz (sV hr.units rfl) rfl T.B7 BT.Bk (aa (cP (bD.plain rfl (by decide +kernel) (by decide +kernel) rfl (by decide +kernel) rfl) (oh (pv 0)) (λ_ _ _ _=>cQ) (λ_ _ _ _=>(bB (aa (pv 0) (aa (dN ai) ai))))) ai)))
 (ak (eK bX rfl (oh (pv 0)) (aX (i:=2) l9.nd rfl (ao rfl))
 (au (eK bX rfl (cI (jZ hr.units (pv 0) (pv 2) (λ_ _=>rfl))) (aX (i:=3) l9.nd rfl (ao rfl))
 (au (fk (jx dS jr jt gz (jZ hr.units (pv 1) (pv 3) (λ_ _=>rfl)) (aa (pv 2) ai)))))))
 (au (aJ (pv 1))))),?_⟩
 show(_:TS) (Ends.mk _ _ _ _) [_,_,_,_] H;walk_at "start";walk_at "go";refine w4 (kvs:=kvs) (λi ys H'=>aB H H'/\∃ps:f6,ps.map (·.1)=(kvs.take i).map (·.1)/\oj H' ys ps/\Ck H H' ps λ_=>[]) ⟨aB.refl _,[],by simp,.nil,.nil,λx hx=>nomatch hx⟩ ?_ ?_ ?_
 .rintro i ys H' _ ⟨s',_⟩;exact s' _ _ hd
 .rintro i e ys H1 he ⟨s1,ps,Od,hps,own⟩;have hil:=(fu he).1;have hpl:=hps.length;have h2:=congrArg List.length Od;rw[av,av,cF] at h2;refine⟨bU (by omega),?_⟩;walk_at "go";rename_i a H2 n2 t H3 n3;have s3:=n2.same.trans n3.same;refine⟨s1.trans s3,ps++[(e.1,e.2.1,.ref a)],?_,cH (dH (λu p ⟨t,h1,h2,h3⟩=>⟨t,h1,s3 _ _ h2,bq.same h3 s3⟩) hps) ⟨t,rfl,n3.self,bq.same (hk e (fB he)) (s1.trans s3)⟩,?_,λx hx=>?_⟩
  .rw[bF,Od,cB,he,bF];rfl
  .rw[bF,gq];refine⟨own.1,by simp,λx hx y hy e=>?_⟩;obtain⟨z,hz,rfl⟩:=aF.mp hx;obtain⟨b,vs,h1,_,h3,_⟩:=own.2 z hz;rw[List.map_singleton,aA] at hy;subst hy;rw[h1] at e;cases e;rw[n2.1] at h3;cases h3
  .rcases aO.mp hx with hx|hx
   .exact(Ck.same own s3).2 x hx
   .rw[aA.mp hx];exact⟨a,[],rfl,s1.free n2.1,n3.keep n2.self,.nil⟩
 rintro ys H1 ⟨s1,ps,Od,hps,own⟩ l H2 n2;rw[cG] at Od;walk_at "go";refine Du (bE.of n2.self) (dH (λu p ⟨t,h1,h2,h3⟩=>⟨t,h1,n2.keep h2,bq.same h3 n2.same⟩) hps) (by rw[Od];exact nd) ?_;intro f Fb H3 n3;have Wq:=n2.same.trans n3.same;have s3:=s1.trans Wq;have ff:H f=none:=(s1.trans n2.same).free n3.1;have hf:=n3.self;have Zj:=own.same Wq;have hpk:cK H3 ps:=λx hx=>by obtain⟨i,hi,rfl⟩:=pJ.mp hx;obtain⟨t,_,_,h⟩:=sU hps hi;rw[mJ,fO hi] at h;exact bq.same h Wq
 clear n2 n3 Wq own hps s1;have ndp:(ps.map (·.1)).Nodup:=by rw[Od];exact nd
 have e0:∀o,dD L [] o=[]:=λo=>rfl;walk_at "go";refine LO (λi σ' H'=>(∃y z,σ'=[some (.ref d),some (.ref f),y,z])/\aB H H'/\H' f=some (.ext (dO P w f Fb ps))/\cK H' ps/\Ck H H' ps (dD L ((kvs.map (·.1)).take i))) ?_ ?_ ?_ ?_
 .exact⟨⟨_,_,rfl⟩,s3,hf,hpk,by rw[List.take_zero];exact Zj⟩
 .rintro i σ' H' _ ⟨_,s',_⟩;exact s' _ _ hd
 .rintro i e σ' H4 he ⟨⟨y,z,rfl⟩,s4,D3,QU,Mu⟩;have hem:=fB he;obtain⟨a,vs,ea,ha,hvs⟩:=hl e hem;have hil:=(fu he).1;have hLe:=hL e.1 (k9 hem);have hvl:=hvs.length;walk_at "go";refine om (s4 _ _ hd) (hk.same s4) (bq.same (hk e hem) s4) ((tV nd hem).trans (congrArg some ea)) ?_;walk_at "go";refine f_list (xs:=vs) (λj σ' H'=>(∃z,σ'=[some (.ref d),some (.ref f),some (.ref e.2.1),z])/\aB H H'/\H' f=some (.ext (dO P w f Fb ps))/\cK H' ps/\Ck H H' ps (λo=>dD L ((kvs.map (·.1)).take i) o++(((L e.1).take j).filter λz=>decide (z=o)).map λ_=>e.1)) ?_ ?_ ?_ ?_
  .refine⟨⟨_,rfl⟩,s4,D3,QU,?_⟩;simpa using Mu
  .rintro j σ' H' _ ⟨_,s',_⟩;exact bE.of (s' _ _ ha)
  .rintro j x σ' H5 hx ⟨⟨z,rfl⟩,s5,Jq,Mv,Cn⟩;obtain⟨o,ho,hxo⟩:=br hvs hx;have hom:=hLe.2 o (fB ho);obtain⟨p,hp,rfl,Wr⟩:=xJ ndp (by rw[Od];exact hom);obtain⟨b,bs,eb,fb,hb,Cg⟩:=Cn.2 p hp;have Zk:=bq.same hxo s5;obtain⟨xa,xu,rfl,hxa,hxu⟩:=hxo;have Ud:bs.length<1000000:=by have h1:=Cg.length;have h2:=Aa L p.1 ((kvs.map (·.1)).take i) λk hk=>(hL k (rX _ _ hk)).1;have h3:=i8 (λz=>decide (z=p.1)) ((L e.1).take j);rw[aR,av] at h1;rw[cF,av] at h2;rw[cF] at h3;omega
   walk_at "go";refine om Jq Mv Zk (Wr.trans (congrArg some eb)) ?_;walk_at "go";rename_i H6 p6;have hfb:f≠b:=λz=>by rw[z,hb] at Jq;cases Jq
   have t6:=tS hb p6;refine⟨⟨_,rfl⟩,p6.same s5 fb,p6.keep hfb Jq,cK.tups Mv t6,Cn.1,λx hx=>?_⟩;by_cases Zl:x=p
   .subst Zl;refine⟨b,_,eb,fb,p6.self,?_⟩;dsimp only;rw[cB,ho,jF,bF,<- mX];have e1:List.filter (λz=>decide (z=x.1)) (some x.1).toList=[x.1]:=by simp
    rw[e1];exact cH (bY.tups Cg t6) (bq.tups (bq.same (hk e hem) s5) t6)
   .obtain⟨c,cs,ec,fc,hc,hcs⟩:=Cn.2 x hx;refine⟨c,cs,ec,fc,p6.keep (λz=>Zl (Cm Cn.1 hx hp (by rw[ec,eb,z]))) hc,?_⟩;have hne:¬p.1=x.1:=λz=>by have h1:=tV ndp hx;rw[<- z,Wr] at h1;exact Zl (Cm Cn.1 hx hp (Option.some.inj h1).symm)
    dsimp only;rw[cB,ho,jF,bF];have e1:List.filter (λz=>decide (z=x.1)) (some p.1).toList=[]:=by simp[hne]
    rw[e1,List.map_nil,i0];exact bY.tups hcs t6
  .rintro σ' H5 ⟨⟨z,rfl⟩,s5,Jq,Mv,Cn⟩;refine⟨⟨_,_,rfl⟩,s5,Jq,Mv,?_⟩;have e1:(λo=>dD L ((kvs.map (·.1)).take i) o++(((L e.1).take vs.length).filter λz=>decide (z=o)).map λ_=>e.1)=dD L ((kvs.map (·.1)).take (i+1)):=by
    funext o
    rw[hvl,cG,cB,bw,he];unfold dD;rw[List.flatMap_append];simp
   rw[<- e1];exact Cn
 .rintro σ' H4 ⟨⟨y,z,rfl⟩,s4,D3,QU,Mu⟩;rw[<- av (f:=λx:HM.bP×Addr×V=>x.1),cG] at Mu;walk_at "go";exact q f Fb ps H4 s4 ff D3 QU Od λx hx=>let⟨a,vs,h1,_,h2,h3⟩:=Mu.2 x hx;⟨a,vs,h1,h2,h3⟩
end
def jm(kvs:f6)(F:List (HM.bP×Int)):Prop:=kvs.map (λx=>(x.1,x.2.2))=F.map λp=>(p.1,V.int p.2)
def jm.keys(e:jm kvs F):kvs.map (·.1)=F.map (·.1):=by have h:=congrArg (List.map (·.1)) e;rw[fV,fV] at h;exact h
theorem Ab:∀{kvs:f6}{F:List (HM.bP×Int)},jm kvs F->∀{o:HM.bP},o∈F.map (·.1)->∃n,(o,n)∈F/\kI kvs o=some (.int n)
 | [],[],_,_,ho=>nomatch ho
 | [],_::_,e,_,_=>nomatch e
 | _::_,[],e,_,_=>nomatch e
 | x::kvs,y::F,e,o,ho=>by
  unfold jm at e;rw[cj,cj] at e;obtain⟨e1,e2⟩:=List.cons.inj e;have a1:x.1=y.1:=congrArg Prod.fst e1;have a2:x.2.2=V.int y.2:=congrArg Prod.snd e1;unfold kI;rw[i6];by_cases h:x.1=o
  .rw[decide_eq_true h];exact⟨y.2,by rw[<- h,a1];simp,congrArg some a2⟩
  .rw[decide_eq_false h];rw[cj] at ho;obtain⟨n,h1,h2⟩:=Ab (kvs:=kvs) (F:=F) e2 ((aI.mp ho).resolve_left λz=>h (a1.trans z.symm));exact⟨n,dg _ h1,h2⟩
def JO{k:HM.bP}(e:jm kvs F)(hk:k∉F.map (·.1)):jY kvs k a (.int n)=kvs++[(k,a,.int n)]/\jm (kvs++[(k,a,.int n)]) (F++[(k,n)]):=by refine⟨sS (by rw[e.keys];exact hk),?_⟩;unfold jm at e ⊢;rw[bF,bF,e];rfl
theorem o6:∀{kvs:f6}{k:HM.bP},k∈kvs.map (·.1)->(kI kvs k).isSome=true
 | [],_,h=>nomatch h
 | x::kvs,k,h=>by
  unfold kI;rw[i6];by_cases e:x.1=k
  .rw[decide_eq_true e];rfl
  .rw[decide_eq_false e];exact o6 (kvs:=kvs) ((aI.mp h).resolve_left λz=>e z.symm)
def FnAt(kvs:f6)(ks:List HM.bP)(g:HM.bP->Int):Prop:=kvs.map (·.1)=ks/\∀x∈kvs,x.2.2=V.int (g x.1)
def FnAt.val{g:HM.bP->Int}(h:FnAt kvs ks g){k:HM.bP}(hk:k∈ks):kI kvs k=some (.int (g k)):=by
 have:=o6 (kvs:=kvs) (k:=k) (by rw[h.1];exact hk);unfold kI at this ⊢;cases e:kvs.find? (λx=>decide (x.1=k)) with
 | none=>rw[e] at this;cases this
 | some x =>
  have h1:=h.2 x (List.mem_of_find?_eq_some e);have h2:=List.find?_some e;rw[of_decide_eq_true h2] at h1;exact congrArg some h1
def FnAt.put{g:HM.bP->Int}(h:FnAt kvs ks g){k:HM.bP}(hk:k∈ks):FnAt (jY kvs k a (.int n)) ks (tR g k n):=by
 unfold jY;rw[if_pos (o6 (by rw[h.1];exact hk))];constructor
 .rw[fV,<- h.1];apply List.map_congr_left;intro x _;show(if x.1=k then(x.1,x.2.1,V.int n) else x).1=x.1;split<;>rfl
 .intro y hy;obtain⟨x,hx,rfl⟩:=aF.mp hy;unfold tR;split
  .rfl
  .exact h.2 x hx
def JP{k:HM.bP}(h:cK H kvs)(hk:k∈kvs.map (·.1)):cK H (jY kvs k a v):=by
 unfold jY;rw[if_pos (o6 hk)];intro y hy;obtain⟨x,hx,rfl⟩:=aF.mp hy;split
 .exact h x hx
 .exact h x hx
theorem qy{α β:Type}{F:α->β->Prop}:∀{xs:List α}{ys:List β},Paired F xs ys->∀{i:Nat}{y:β},ys[i]?=some y->∃x,xs[i]?=some x/\F x y
 | _,_,.nil,i,x,h=>by simp at h
 | _,_,.cons a t,0,x,h=>by simp at h;subst h;exact⟨_,rfl,a⟩
 | _,_,.cons a t,i+1,x,h=>qy t (by simpa using h)
theorem qz{α β:Type}{F:α->β->Prop}:∀{xs:List α}{x:α}{ys:List β},Paired F (xs++[x]) ys->∃Ws y,ys=Ws++[y]/\Paired F xs Ws/\F x y
 | [],_,_,.cons h .nil=>⟨[],_,rfl,.nil,h⟩
 | _::_,_,_,.cons h t=>by obtain⟨Ws,y,rfl,h1,h2⟩:=qz t;exact⟨_::Ws,y,rfl,.cons h h1,h2⟩
section
variable {P:Program}{w:World}{K:aD}{mg:Str->Option Value}{base:Heap}
def Mw(P:Program)(w:World):Sp:=λvs H Q _=>∃(d:Addr)(ep:Nat)(kvs:f6)(L:HM.bP->List HM.bP),vs=[.ref d]/\H d=some (.ext (dO P w d ep kvs))/\cK H kvs/\gn H kvs L/\iW (kvs.map (·.1)) L /\
 ∀(d':Addr)(qk:Nat)(kvs':f6)(F:List (HM.bP×Int))(H':Hp),aB H H'->H d'=none->H' d'=some (.ext (dO P w d' qk kvs'))->cK H' kvs'->jm kvs' F->vX (kvs.map (·.1)) L F->Q (.ref d') H'
def JQ(T:Txt w K mg):b7 P w K mg base gT 2 T.ended.f T.ended.d ["later"] (Mw P w):=by
 refine T.ended.F.ok jh (λvs H Q E h=>?_) (λcdv A outer s H vs Q E hr h=>?_)
 .obtain⟨d,ep,kvs,L,rfl,_⟩:=h;rfl
 obtain⟨d,ep,kvs,L,rfl,hd,hk,hl,hok,q⟩:=h;refine⟨_,(ak (aE (i:=1) jh.nd rfl (ao rfl) (aP T.turned (FZ T) hr (aa (pv 0) ai)))
 (ak (aE (i:=2) jh.nd rfl (cg rfl) (dz (sV hr.units rfl) rfl T.B7 BT.Bk (aa (cP (bD.caps (x := "harm") (fr:=["later"]) (ix:=[0]) (nm:=["later"]) rfl rfl (by decide +kernel) rfl (by decide +kernel) rfl (by decide +kernel) ⟨rfl,trivial⟩ rfl (by decide +kernel) rfl ⟨⟨rfl,rfl,rfl⟩,trivial⟩) (oh (pv 0)) (λ_ _ _ _=>cQ) (λ_ _ _ _=>(bB (aa (pv 0) (aa (aT (kE (K:=K) rfl) rfl T.eS BT.eO (aa (pZ (P:=P) (w:=w) rfl rfl hr.units (pv 1) (pv 0) (λ_ _=>rfl)) ai)) ai))))) ai)))
 (ak (jy (i:=3) jh.nd rfl (ao rfl) (bD.caps (x := "harm") (fr:=["waiting"]) (ix:=[2]) (nm:=["waiting"]) rfl rfl (by decide +kernel) rfl (by decide +kernel) rfl (by decide +kernel) ⟨rfl,trivial⟩ rfl (by decide +kernel) rfl ⟨⟨rfl,rfl,rfl⟩,trivial⟩) (oh (pv 0)) (λ_ _ _ _=>(nq (aG dW (pZ (P:=P) (w:=w) rfl rfl hr.units (pv 1) (pv 0) (λ_ _=>rfl)) af (aM _)))) (λ_ _ _ _=>(pv 0)))
 (ak (aE (i:=4) jh.nd rfl (cg rfl) zl)
 (ak (jV bX (vg (pv 3) (λ_=>rfl))
 (ak (aE (i:=5) jh.nd rfl (ao rfl) (Bh dS PySem.F.slot_list_pop PySem.F.type_list_pop G3 (pv 3)))
 (ak (zm hr.units (pv 4) (pv 5) (ay aZ af (LU rfl rfl T.N2 (aa (cP (bD.caps (x := "other") (fr:=["found"]) (ix:=[4]) (nm:=["found"]) rfl rfl (by decide +kernel) rfl (by decide +kernel) rfl (by decide +kernel) ⟨rfl,trivial⟩ rfl (by decide +kernel) rfl ⟨⟨rfl,rfl,rfl⟩,trivial⟩) (cI (jZ hr.units (pv 0) (pv 5) (λ_ _=>rfl))) (λ_ _ _ _=>cQ) (λ_ _ _ _=>(pZ (P:=P) (w:=w) rfl rfl hr.units (pv 1) (pv 0) (λ_ _=>rfl)))) ai) af)) rfl)
 (au (eK bX rfl (cI (jZ hr.units (pv 1) (pv 5) (λ_ _=>rfl))) (aX (i:=6) jh.nd rfl (ao rfl))
 (ak (II hr.units (pv 2) (pv 6) af O3 (λ_ _ _=>rfl))
 (au (cN (aG dW (jZ hr.units (pv 2) (pv 6) (λ_ _=>rfl)) af (aM _))
 (au (fk (jx dS jr jt gz (pv 3) (aa (pv 6) ai))))
 bu))))))))
 (au (aJ (pv 4)))))))),?_⟩
 show(_:TS) (Ends.mk _ _ _ _) [_,_,_,_,_,_,_] H;walk_at "start";walk_at "go";refine⟨d,ep,kvs,L,rfl,hd,hk,hl,hok,λe epE Zm H1 s1 fe he hke eke hle=>?_⟩;obtain⟨nd,hn,hL⟩:=hok;generalize Mx:kvs.map (·.1)=ks at *;have hkn:kvs.length<=4000:=by rw[<- Mx,av] at hn;exact hn
 have hd1:=s1 _ _ hd;have hk1:=hk.same s1;have hl1:=gn.same hl s1;clear hd hk hl;walk_at "go";refine w4 (kvs:=kvs) (λi ys H'=>aB H1 H'/\oj H' ys ((kvs.take i).map λx=>(x.1,x.2.1,V.int (L x.1).length))) ⟨aB.refl _,by rw[List.take_zero];exact .nil⟩ ?_ ?_ ?_
 .rintro i ys H' _ ⟨s',_⟩;exact s' _ _ hd1
 .rintro i x ys H2 hx ⟨s2,hps⟩;have hil:=(fu hx).1;have hpl:=hps.length;rw[av,cF] at hpl;have My:=fB hx;obtain⟨a,vs,ea,ha,hvs⟩:=hl1 x My;have hvl:=hvs.length;refine⟨bU (by omega),?_⟩;walk_at "go";refine om (s2 _ _ hd1) (hk1.same s2) (bq.same (hk1 x My) s2) ((tV (by rw[Mx];exact nd) My).trans (congrArg some ea)) ?_;have ha2:=s2 _ _ ha;walk_at "go";rename_i t H3 n3;refine⟨s2.trans n3.same,?_⟩;rw[cB,hx,bF];exact cH (dH (λu p ⟨t,h1,h2,h3⟩=>⟨t,h1,n3.keep h2,bq.same h3 n3.same⟩) hps) ⟨t,rfl,by have z:=n3.self;rw[hvl] at z;exact z,bq.same (hk1 x My) (s2.trans n3.same)⟩
 rintro ys H2 ⟨s2,hps⟩ l H3 n3;rw[cG] at hps;walk_at "go";refine Du (bE.of n3.self) (dH (λu p ⟨t,h1,h2,h3⟩=>⟨t,h1,n3.keep h2,bq.same h3 n3.same⟩) hps) (by rw[fV];exact(show(kvs.map (·.1)).Nodup by rw[Mx];exact nd)) ?_;intro wt UN H4 n4;have s4:aB H1 H4:=(s2.trans n3.same).trans n4.same;have fwt:H1 wt=none:=(s2.trans n3.same).free n4.1;have Wt:=n4.self;have fn4:FnAt (kvs.map λx=>(x.1,x.2.1,V.int (L x.1).length)) ks λh=>((L h).length:Int):=⟨by rw[fV];exact Mx,λx hx=>by obtain⟨y,_,rfl⟩:=aF.mp hx;rfl⟩;have Zn:cK H4 (kvs.map λx=>(x.1,x.2.1,V.int (L x.1).length)):=λx hx=>by obtain⟨y,hy,rfl⟩:=aF.mp hx;exact bq.same (hk1 y hy) s4
 generalize (kvs.map λx=>(x.1,x.2.1,V.int (L x.1).length))=D5 at *;clear n3 n4 hps s2;walk_at "go";refine w4 (kvs:=kvs) (λi ys H'=>aB H4 H'/\bY H' ys ((ks.take i).filter λh=>decide (((L h).length:Int)=0))) ⟨aB.refl _,.nil⟩ ?_ ?_ ?_
 .rintro i ys H' _ ⟨s',_⟩;exact s' _ _ (s4 _ _ hd1)
 .rintro i x ys H5 hx ⟨s5,hys⟩;have hil:=(fu hx).1;have hyl:=hys.length;have hfl:=i8 (λh=>decide (((L h).length:Int)=0)) (ks.take i);rw[cF] at hfl;have My:=fB hx;have hxk:x.1∈ks:=by rw[<- Mx];exact k9 My
  have hxi:ks[i]?=some x.1:=by rw[<- Mx,bw,hx];rfl
  have hkx:=bq.same (hk1 x My) (s4.trans s5);refine⟨bU (by omega),?_⟩;walk_at "go";refine om (s5 _ _ Wt) (Zn.same s5) hkx (fn4.val hxk) ?_;walk_at "go"
  .rename_i h0;refine⟨s5,?_⟩;rw[cB,hxi,jF];have e1:List.filter (λh=>decide (((L h).length:Int)=0)) (some x.1).toList=[x.1]:=by simpa using h0
   rw[e1];exact cH hys hkx
  .rename_i h0;refine⟨s5,?_⟩;rw[cB,hxi,jF];have e1:List.filter (λh=>decide (((L h).length:Int)=0)) (some x.1).toList=[]:=by simpa using h0
   rw[e1,i0];exact hys
 rintro ys H5 ⟨s5,hys⟩ rd H6 n6;have ekl:kvs.length=ks.length:=by rw[<- Mx,av]
 rw[ekl,cG] at hys;have N5:=s5.trans n6.same;have s6:=s4.trans N5;have frd:H1 rd=none:=(s4.trans s5).free n6.1;have hrd:=n6.self;have UO:=bY.same hys n6.same;have Mz:=N5 _ _ Wt;have UP:=Zn.same N5;have QV:rd≠wt:=λz=>by rw[z] at n6;have:=s5 _ _ Wt;rw[n6.1] at this;cases this
 clear n6 hys Wt Zn N5 s5 s4;walk_at "go";rename_i f Oe H7 n7;have s7:=s6.trans n7.same;have ff:H1 f=none:=s6.free n7.1;have N4:=n7.self;have Mi:=n7.keep hrd;have Zo:=n7.keep Mz;have Qw:=bY.same UO n7.same;have Zp:=UP.same n7.same;have UQ:f≠wt:=λz=>by rw[z] at n7;rw[n7.1] at Mz;cases Mz
 have QW:f≠rd:=λz=>by rw[z] at n7;rw[n7.1] at hrd;cases hrd
 clear n7 hrd Mz UO UP s6;refine l8 (λm σ' H'=>(∃y5 y6,σ'=[some (.ref d),some (.ref e),some (.ref wt),some (.ref rd),some (.ref f),y5,y6])/\aB H1 H'/\∃vs R UN D5 g Oe A1 F,H' rd=some (.lst vs)/\bY H' vs R/\H' wt=some (.ext (dO P w wt UN D5))/\cK H' D5/\FnAt D5 ks g/\H' f=some (.ext (dO P w f Oe A1))/\cK H' A1/\jm A1 F/\iu ks L F g R/\m=ks.length-F.length) ?_ ?_
 .exact⟨_,⟨_,_,rfl⟩,s7,ys,_,UN,D5,_,Oe,[],[],Mi,Qw,Zo,Zp,fn4,N4,(λx hx=>nomatch hx),rfl,iu.start nd,rfl⟩
 rintro m σ' H8 ⟨⟨y5,y6,rfl⟩,s8,vs,R,Zq,Zr,g,Zt,A1,F,MA,Ac,UR,US,fn8,DU,QX,Wu,inv,rfl⟩;walk_at "go";have hFl:F.length<=ks.length:=by
  have:=j5 inv.nd (ys:=ks) λx hx=>by obtain⟨y,hy,rfl⟩:=aF.mp hx;exact inv.sub y hy
  rw[av] at this;exact this
 rcases List.eq_nil_or_concat vs with rfl|⟨vs0,v,rfl⟩
 .cases Ac;refine Po rfl ?_;walk_at "go";exact q f Zt A1 F H8 (s1.trans s8) (s1.free ff) DU QX Wu inv.done
 rw[List.concat_eq_append] at MA Ac ⊢;obtain⟨R0,h,rfl,UT,hvh⟩:=qz Ac;obtain⟨UU,Wv,Zu,Wh⟩:=inv.pop nd;refine Pn (by simp) ⟨_,λ_ _ x=>x,?_⟩;walk_at "go";refine s_pop MA (y:=v) (by simp) ?_;rw[List.dropLast_concat];intro H9 p9;have t9:=tS MA p9;have s9:=p9.same s8 frd;have Jw:=p9.self;have JR:=bY.tups UT t9;have MB:=bq.tups hvh t9;have UW:=p9.keep (bA QV) UR;have UX:=cK.tups US t9;have Jv:=p9.keep QW DU;have QY:=cK.tups QX t9;clear p9 t9 MA Ac UT hvh UR US DU QX s8;obtain⟨x,My,rfl,hxv⟩:=xJ (kvs:=kvs) (k:=h) (by rw[Mx];exact nd) (by rw[Mx];exact UU);obtain⟨a,as,ea,ha,has⟩:=hl1 x My;have hL4:=hL x.1 UU;have yZ:=has.length;have hv:=MB;obtain⟨vb,vu,rfl,_,_⟩:=hv;walk_at "go";refine om (s9 _ _ hd1) (hk1.same s9) MB (hxv.trans (congrArg some ea)) ?_;have QE:=s9 _ _ ha;have UY:=bY.same has s9;have hkF:=Wu.keys;walk_at "go";refine gI (xs:=as) (λj ys H'=>aB H9 H'/\∃ns:List Int,ys=ns.map V.int/\Paired (λn o=>(o,n)∈F) ns ((L x.1).take j)) ⟨aB.refl _,[],rfl,.nil⟩ ?_ ?_ ?_
 .rintro j ys H' _ ⟨s',_⟩;exact bE.of (s' _ _ QE)
 .rintro j y ys zZ hy ⟨iK,ns,rfl,hns⟩;obtain⟨o,ho,UZ⟩:=br UY hy;have hjl:=(fu hy).1;have hnl:=hns.length;rw[cF] at hnl;refine⟨bU (by rw[av];omega),?_⟩;obtain⟨n,hn1,hn2⟩:=Ab Wu (Zu o (fB ho));have Zv:=bq.same UZ iK;obtain⟨yb,yu,rfl,_,_⟩:=UZ;walk_at "go";refine om (iK _ _ Jv) (QY.same iK) Zv hn2 ?_;refine⟨iK,ns++[n],by simp,?_⟩;rw[cB,ho];exact cH hns hn1
 rintro ys zZ ⟨iK,ns,rfl,hns⟩ ml z6 gP;rw[yZ,cG] at hns;have xK:=iK.trans gP.same;have hml:=gP.self;have KR:=s9.trans xK;have Of:=xK _ _ Jw;have DV:=bY.same JR xK;have D6:=bq.same MB xK;have Og:=xK _ _ UW;have Oh:=UX.same xK;have JS:=xK _ _ Jv;have JT:=QY.same xK;clear gP iK xK Jw JR MB UW UX Jv QY s9 QE UY;walk_at "go";refine Ql (bE.of hml) λm hm0 hm1=>?_;walk_at "go";have adF:A1.length=F.length:=by have:=congrArg List.length hkF;rw[av,av] at this;exact this
 refine IL JS JT D6 (by omega) ?_;intro U0 FN qA;obtain⟨ep1,Zw⟩:=JO (a:=vb) (n:=1+m) Wu Wv;rw[ep1] at qA;have RK:=tU JS qA;have s12:=qA.same KR ff;have U1:=qA.self;have Oi:cK FN (A1++[(x.1,vb,.int (1+m))]):=λy hy=>by
  rcases aO.mp hy with hy|hy
  .exact bq.tups (JT y hy) RK
  .rw[aA.mp hy];exact bq.tups D6 RK
 have Oj:=qA.keep (bA QW) Of;have Ol:=bY.tups DV RK;have U3:=bq.tups D6 RK;have Om:=qA.keep (bA UQ) Og;have Oo:=cK.tups Oh RK;clear qA RK hml Of DV D6 Og Oh JS JT KR;obtain⟨pe,hpe,epx,Wr⟩:=xJ (kvs:=Zm) (k:=x.1) (by rw[eke];exact nd) (by rw[eke];exact UU);obtain⟨b,bs,eb,hb,Cg⟩:=hle pe hpe;rw[epx] at Cg;walk_at "go";refine om (s12 _ _ he) (hke.same s12) U3 (Wr.trans (congrArg some eb)) ?_;have Zx:=s12 _ _ hb;walk_at "go";have cl:∀y∈ks,y∈F.map (·.1)->∀o∈L y,o∈F.map (·.1):=λy _ hy o ho=>by obtain⟨z,hz,rfl⟩:=aF.mp hy;obtain⟨n,hn,_⟩:=(inv.fin z hz).2.1 o ho;exact aF.mpr ⟨_,hn,rfl⟩
 refine f_list (xs:=bs) (λj σ' H'=>(∃z,σ'=[some (.ref d),some (.ref e),some (.ref wt),some (.ref rd),some (.ref f),some (.ref vb),z])/\aB H1 H'/\∃vs R UN D5 g,H' rd=some (.lst vs)/\bY H' vs R/\H' wt=some (.ext (dO P w wt UN D5))/\cK H' D5/\FnAt D5 ks g/\H' f=some (.ext (dO P w f U0 (A1++[(x.1,vb,.int (1+m))])))/\cK H' (A1++[(x.1,vb,.int (1+m))])/\o4 ks L (F.map (·.1)++[x.1]) (dD L ks x.1) j g R) ?_ ?_ ?_ ?_
 .exact⟨⟨_,rfl⟩,s12,vs0,R0,Zq,Zr,g,Oj,Ol,Om,Oo,fn8,U1,Oi,Wh⟩
 .rintro j σ' H' _ ⟨_,s',_⟩;exact bE.of (s' _ _ hb)
 .rintro j y σ' GB hy ⟨⟨z0,rfl⟩,xF,vs,R,Oq,D5,g,D7,D8,vY,vZ,F0,MC,D9,F1⟩;clear Oj Ol Om Oo U1 Oi s12 Zx;obtain⟨o,ho,UZ⟩:=br Cg hy;obtain⟨hw1,hok,hyes,hno⟩:=F1.next cl Wv Zu ho;have Ea:=bq.same UZ xF;obtain⟨yb,yu,rfl,_,_⟩:=UZ;have hWl:D5.length=ks.length:=by rw[<- F0.1,av]
  walk_at "go";refine om vY vZ Ea (F0.val hok) ?_;walk_at "go";refine PM ?_;refine IL vY vZ Ea (by omega) ?_;intro Ot RH xD;have U4:=tU vY xD;have Mr:=xD.same xF fwt;have JU:=xD.self;have JV:=cK.tups (JP (a:=yb) (v:=.int (g o-1)) vZ (by rw[F0.1];exact hok)) U4;have QZ:FnAt (jY D5 o yb (.int (g o-1))) ks (tR g o (g o-1)):=F0.put hok;have Ou:=xD.keep QV D7;have JW:=bY.tups D8 U4;have Mj:=xD.keep UQ MC;have Ov:=cK.tups D9 U4;have Ow:=bq.tups Ea U4;clear xD U4 xF D7 D8 vY vZ MC D9 Ea;have hvl:=JW.length;have hRl:=j5 F1.QT (ys:=ks) λy hy=>((F1.K0 y).mp hy).1;walk_at "go";refine om JU JV Ow (QZ.val hok) ?_;have eg:tR g o (g o-1) o=g o-1:=by unfold tR;rw[if_pos rfl]
  rw[eg];walk_at "go"
  .rename_i h0 Wi Mk;have Ww:=tS Ou Mk;exact⟨⟨_,rfl⟩,Mk.same Mr frd,_,_,Ot,_,_,Mk.self,cH (bY.tups JW Ww) (bq.tups Ow Ww),Mk.keep (bA QV) JU,cK.tups JV Ww,QZ,Mk.keep QW Mj,cK.tups Ov Ww,hyes h0⟩
  .rename_i h0;exact⟨⟨_,rfl⟩,Mr,_,_,Ot,_,_,Ou,JW,JU,JV,QZ,Mj,Ov,hno h0⟩
 .rintro σ' GB ⟨⟨z0,rfl⟩,xF,vs,R,Oq,D5,g,D7,D8,vY,vZ,F0,MC,D9,F1⟩;rw[Cg.length] at F1;refine Zi _ _ ?_;have hlt:F.length+1<=ks.length:=by
   have h1:(F.map (·.1)++[x.1]).Nodup:=by rw[gq];exact⟨inv.nd,by simp,λa ha b hb z=>Wv (by rw[aA.mp hb] at z;exact z▸ha)⟩
   have:=j5 h1 (ys:=ks) λy hy=>by
    rcases aO.mp hy with hy|hy
    .obtain⟨z,hz,rfl⟩:=aF.mp hy;exact inv.sub z hz
    .rw[aA.mp hy];exact UU
   rw[aR,av] at this;exact this
  refine⟨ks.length-(F++[(x.1,1+m)]).length,by rw[aR];simp;omega,⟨_,_,rfl⟩,xF,vs,R,Oq,D5,g,U0,_,_,D7,D8,vY,vZ,F0,MC,D9,Zw,o4.end inv F1 UU Wv Zu rfl (λe0=>?_) (λe0=>?_),rfl⟩
  .rw[e0] at hns;cases hns;exact hm0 rfl
  .have hne:ns≠[]:=λz=>by rw[z] at hns;cases hL0:L x.1 with
    | nil=>exact e0 hL0
    | cons _ _=>rw[hL0] at hns;cases hns
   obtain⟨h1,h2⟩:=hm1 hne;obtain⟨i,hi,ei⟩:=pJ.mp h1;obtain⟨o,ho,hoF⟩:=br hns (i:=i) (x:=m) (by rw[fO hi,ei]);refine⟨⟨o,fB ho,hoF⟩,λo ho k hk=>?_⟩;obtain⟨j,hj,ej⟩:=pJ.mp ho;obtain⟨n,hn,hnF⟩:=qy hns (i:=j) (y:=o) (by rw[fO hj,ej]);rw[o5 inv.nd hk hnF];exact h2 n (fB hn)
end
section
variable {α:Type} [DecidableEq α]
theorem o7{ks:List α}{L:α->List α}{F G:List (α×Int)}(hF:vX ks L F)(hG:vX ks L G):∀(n:Nat)(h:α)(m:Int),m.toNat<=n->(h,m)∈F->(h,m)∈G
 | 0,h,m,hn,hm=>by have:=(hF.fin _ hm).1;dsimp only at this;omega
 | n+1,h,m,hn,hm=>by
  obtain⟨h1,h2,h3⟩:=hF.fin _ hm;dsimp only at h1 h2 h3;have ih:∀o∈L h,∀k,(o,k)∈F->(o,k)∈G:=λo ho k hk=>by obtain⟨k',hk',hlt⟩:=h2 o ho;have e:=o5 hF.nd hk hk';subst e;have:=(hF.fin _ hk).1;dsimp only at this;exact o7 hF hG n o k (by omega) hk
  have hin:h∈G.map (·.1):=rK λno=>by obtain⟨o,ho,hno⟩:=hG.out h (hF.sub _ hm) no;obtain⟨k,hk,_⟩:=h2 o ho;exact hno (aF.mpr ⟨_,ih o ho k hk,rfl⟩)
  obtain⟨⟨_,m'⟩,hm',rfl⟩:=aF.mp hin;obtain⟨g1,g2,g3⟩:=hG.fin _ hm';dsimp only at g1 g2 g3 h1 h2 h3 ih hm;have e:m'=m:=by
   rcases h3 with⟨e1,e2⟩|⟨o,ho,P8⟩
   .rcases g3 with⟨e3,_⟩|⟨o,ho,_⟩
    .omega
    .rw[e2] at ho;exact nomatch ho
   .rcases g3 with⟨_,e3⟩|⟨o',ho',ho2⟩
    .rw[e3] at ho;exact nomatch ho
    .obtain⟨k,hk,hlt⟩:=g2 o ho;have a:=o5 hG.nd hk (ih o ho _ P8);obtain⟨k',hk',hlt'⟩:=h2 o' ho';have b:=o5 hG.nd (ih o' ho' _ hk') ho2;omega
  rw[<- e];exact hm'
def gQ(ks:List α)(L:α->List α)(F:List (α×Int)):Prop:=vX ks L F/\F.length=ks.length
def MD{ks:List α}{L:α->List α}{F G:List (α×Int)}(nd:ks.Nodup)(hF:gQ ks L F)(hG:vX ks L G):G.length=ks.length:=by
 have h1:F.length<=G.length:=by
  have:=j5 hF.1.nd (ys:=G.map (·.1)) λx hx=>by obtain⟨⟨h,m⟩,hm,rfl⟩:=aF.mp hx;exact aF.mpr ⟨_,o7 hF.1 hG _ h m (az _) hm,rfl⟩
  rwa [av,av] at this
 have h2:G.length<=ks.length:=by
  have:=j5 hG.nd (ys:=ks) λx hx=>by obtain⟨y,hy,rfl⟩:=aF.mp hx;exact hG.sub y hy
  rwa [av] at this
 have:=hF.2;omega
def gQ.mem{ks:List α}{L:α->List α}{F:List (α×Int)}(nd:ks.Nodup)(h:gQ ks L F){x:α}(hx:x∈ks):∃n,(x,n)∈F:=by
 have:x∈F.map (·.1):=rK λno=>by
  have h1:(F.map (·.1)++[x]).Nodup:=by rw[gq];exact⟨h.1.nd,by simp,λa ha b hb z=>no (by rw[aA.mp hb] at z;exact z▸ha)⟩
  have:=j5 h1 (ys:=ks) λy hy=>by
   rcases aO.mp hy with hy|hy
   .obtain⟨z,hz,rfl⟩:=aF.mp hy;exact h.1.sub z hz
   .rw[aA.mp hy];exact hx
  rw[aR,av,h.2,jJ] at this;omega
 obtain⟨⟨_,n⟩,hn,rfl⟩:=aF.mp this;exact⟨n,hn⟩
def mE(ks:List α)(L:α->List α)(m:Int):Prop:=∃F,gQ ks L F/\(∃x∈F,x.2=m)/\∀x∈F,x.2<=m
def F2{ks:List α}{L:α->List α}{m:Int}(h:mE ks L m)(g:mE ks L n):m=n:=by obtain⟨F,hF,⟨x,hx,rfl⟩,h1⟩:=h;obtain⟨G,hG,⟨y,hy,rfl⟩,g1⟩:=g;have a:=h1 _ (o7 hG.1 hF.1 _ y.1 y.2 (az _) hy);have b:=g1 _ (o7 hF.1 hG.1 _ x.1 x.2 (az _) hx);dsimp only at a b;omega
end
def ME{ls:List HM.bP}(h:iM rs r t ks)(g:iM rs r t ls):ks=ls:=DY HM.pY h.1 g.1 λz=>(h.2 z).trans (g.2 z).symm
def JX{n:Int}(hok:r.ok n)(ht:KS t)(h:iM rs r t ks):ks.length<=4:=by
 have nd:ks.Nodup:=h.1.imp λh e=>by rw[e] at h;omega
 have h1:ks.length<=(r.ways.flatMap λq=>(d9 r t).map λu=>(q,u)).length:=j5 nd λz hz=>by obtain⟨a1,a2,_⟩:=(h.2 z).mp hz;exact m8.mpr ⟨z.1,a1,aF.mpr ⟨z.2,(jl hok ht _).mpr a2,rfl⟩⟩
 have h2:=Row.oU r;have h3:=tP r ht;have h4:∀ws:List Int,(ws.flatMap λq=>(d9 r t).map λu=>(q,u)).length=ws.length*(d9 r t).length:=λws=>by
  induction ws with
  | nil=>simp
  | cons w ws ih=>rw[rO,aR,ih,av,eB,Nat.succ_mul,Nat.add_comm]
 rw[h4] at h1;exact bJ h1 (Nat.mul_le_mul h2 h3)
open Classical in
def dI(rs:List Row)(h:HM.bP):List HM.bP:=if e:∃(ks:List HM.bP)(r:Row),rs[h.1.toNat]?=some r/\iM rs r h.2 ks then e.choose else[]
def Eb{h:HM.bP}(hr:rs[h.1.toNat]?=some r)(hl:iM rs r h.2 ks):dI rs h=ks:=by have e:∃(ks:List HM.bP)(r:Row),rs[h.1.toNat]?=some r/\iM rs r h.2 ks:=⟨ks,r,hr,hl⟩;unfold dI;rw[dif_pos e];obtain⟨r',hr',hl'⟩:=e.choose_spec;rw[hr] at hr';cases hr';exact ME hl' hl
def JY(h:ef H rs kvs):gn H kvs (dI rs):=λx hx=>by obtain⟨a,vs,ks,k,r,h1,h2,h3,h4,h5,h6⟩:=h x hx;refine⟨a,vs,h1,h2,?_⟩;rw[Eb (r:=r) (by rw[h4];exact h5) h6];exact h3
def iC{n:Nat}{z:HM.bP}:z∈bR rs n↔∃k:Nat,k<n/\z.1=(k:Int)/\z.2∈cz rs k:=by
 unfold bR;rw[m8];constructor
 .rintro⟨k,hk,hz⟩;obtain⟨t,ht,rfl⟩:=aF.mp hz;exact⟨k,fX.mp hk,rfl,ht⟩
 .rintro⟨k,hk,e,ht⟩;exact⟨k,fX.mpr hk,aF.mpr ⟨z.2,ht,Prod.ext e.symm rfl⟩⟩
def qc:t∈cz rs k↔fz.lv rs k t:=by
 unfold cz;cases t with
 | none=>simp[fz.lv]
 | some p=>simp[fz.lv]
theorem Ad(rs:List Row):∀n,(bR rs n).Nodup
 | 0=>.nil
 | n+1=>by rw[nC,gq];refine⟨Ad rs n,lq.mpr ((vW rs n).imp λh e=>h (congrArg Prod.snd e)),λx hx y hy e=>?_⟩;obtain⟨k,hk,e1,_⟩:=iC.mp hx;obtain⟨t,_,rfl⟩:=aF.mp hy;rw[e] at e1;have e1:(n:Int)=(k:Int):=e1;omega
def JZ(hok:∀r∈rs,r.ok rs.length)(hn:rs.length<=200)(em:kvs.map (·.1)=bR rs rs.length)(h:ef H rs kvs):
  iW (bR rs rs.length) (dI rs)/\∀k r t,rs[k]?=some r->t∈cz rs k->iM rs r t (dI rs ((k:Int),t)):=by
 have each:∀z∈bR rs rs.length,∃(k:Nat)(r:Row),z.1=(k:Int)/\rs[k]?=some r/\iM rs r z.2 (dI rs z)/\KS z.2:=λz hz=>by rw[<- em] at hz;obtain⟨x,hx,rfl⟩:=aF.mp hz;obtain⟨a,vs,ks,k,r,h1,h2,h3,h4,h5,h6⟩:=h x hx;obtain⟨k',_,e',ht⟩:=iC.mp (by rw[<- em];exact hz);refine⟨k,r,h4,h5,?_,vV rs k' _ ht⟩;rw[Eb (r:=r) (by rw[h4];exact h5) h6];exact h6
 refine⟨⟨Ad rs _,bJ (oZ rs _) (by omega),λz hz=>?_⟩,λk r t hr ht=>?_⟩
 .obtain⟨k,r,e,hr,hl,AZ⟩:=each z hz;have Mq:=hok r (fB hr);refine⟨JX Mq AZ hl,λo ho=>?_⟩;obtain⟨a1,a2,a3⟩:=(hl.2 o).mp ho;obtain⟨b1,b2⟩:=Row.ir Mq o.1 a1;exact iC.mpr ⟨o.1.toNat,by omega,by omega,qc.mpr a3⟩
 .have hk:=(fu hr).1;obtain⟨k',r',e,hr',hl,_⟩:=each ((k:Int),t) (iC.mpr ⟨k,hk,rfl,ht⟩);have e:(k:Int)=(k':Int):=e;have:k=k':=by omega
  subst this;rw[hr] at hr';cases hr';exact hl
section
variable {P:Program}{w:World}{K:aD}{mg:Str->Option Value}{base:Heap}
def F3(P:Program)(w:World):Sp:=λvs H Q _=>∃(d:Addr)(ep:Nat)(kvs:f6)(L:HM.bP->List HM.bP),vs=[.ref d]/\H d=some (.ext (dO P w d ep kvs))/\cK H kvs/\gn H kvs L/\iW (kvs.map (·.1)) L /\
 (∀H',aB H H'->(∀F,¬gQ (kvs.map (·.1)) L F)->Q .cY H')/\∀(d':Addr)(qk:Nat)(kvs':f6)(F:List (HM.bP×Int))(H':Hp),aB H H'->H d'=none->H' d'=some (.ext (dO P w d' qk kvs'))->cK H' kvs'->jm kvs' F->gQ (kvs.map (·.1)) L F->Q (.ref d') H'
def Co(T:Txt w K mg):b7 P w K mg base gT 3 T.qU.f T.qU.d ["later"] (F3 P w):=by
 refine T.qU.F.ok sY (λvs H Q E h=>?_) (λcdv A outer s H vs Q E hr h=>?_)
 .obtain⟨d,ep,kvs,L,rfl,_⟩:=h;rfl
 obtain⟨d,ep,kvs,L,rfl,hd,hk,hl,hok,q0,q⟩:=h;refine⟨_,(ak (aE (i:=1) sY.nd rfl (ao rfl) (aP T.ended (JQ T) hr (aa (pv 0) ai)))
 (au (aJ (f7 (aG dW (aT (vA) rfl T.eS BT.eO (aa (pv 1) ai)) (aT (vA) rfl T.eS BT.eO (aa (pv 0) ai)) (aM _)) (pv 1) nh)))),?_⟩
 show(_:TS) (Ends.mk _ _ _ _) [_,_] H;walk_at "start";walk_at "go";refine⟨d,ep,kvs,L,rfl,hd,hk,hl,hok,λf Oe A1 F H1 s1 ff hf Wx hF U5=>?_⟩;have hd1:=s1 _ _ hd;have hkF:A1.length=F.length:=by have:=congrArg List.length hF.keys;rw[av,av] at this;exact this
 walk_at "go"
 .rename_i e;exact q f Oe A1 F H1 s1 ff hf Wx hF ⟨U5,by rw[av];omega⟩
 .rename_i e;refine q0 H1 s1 λG hG=>e ?_;have:=MD hok.1 hG U5;rw[av] at this;omega
def J0(P:Program)(w:World):Sp:=λvs H Q _=>∃(c:Addr)(us:List V)(rs:List Row),vs=[.ref c]/\H c=some (.lst us)/\Rows H us rs/\(∀r∈rs,r.ok rs.length)/\rs.length<=200 /\
 (iW (bR rs rs.length) (dI rs)->(∀k r t,rs[k]?=some r->t∈cz rs k->iM rs r t (dI rs ((k:Int),t)))->(∀H',aB H H'->(∀F,¬gQ (bR rs rs.length) (dI rs) F)->Q .cY H')/\∀(d':Addr)(qk:Nat)(kvs':f6)(F:List (HM.bP×Int))(H':Hp),aB H H'->H d'=none->H' d'=some (.ext (dO P w d' qk kvs'))->cK H' kvs'->jm kvs' F->gQ (bR rs rs.length) (dI rs) F->Q (.ref d') H')
def F4(T:Txt w K mg):b7 P w K mg base gT 6 T.xo.f T.xo.d ["code"] (J0 P w):=by
 refine T.xo.F.ok FA (λvs H Q E h=>?_) (λcdv A outer s H vs Q E hr h=>?_)
 .obtain⟨c,us,rs,rfl,_⟩:=h;rfl
 obtain⟨c,us,rs,rfl,hc,hrs,hok,hn,q⟩:=h;refine⟨_,(au (aJ (aP T.qU (Co T) hr (aa (aP T.qT (Cj T) hr (aa (pv 0) ai)) ai)))),?_⟩;show(_:TS) (Ends.mk _ _ _ _) [_] H;walk_at "start";walk_at "go";refine⟨c,us,rs,rfl,hc,hrs,hok,hn,λd ep kvs H1 s1 fd hd hk em hla=>?_⟩;obtain⟨A2,o8⟩:=JZ hok hn em hla;obtain⟨q0,q1⟩:=q A2 o8;walk_at "go";refine⟨d,ep,kvs,dI rs,rfl,hd,hk,JY hla,by rw[em];exact A2,λH2 s2 no=>?_,λf Oe A1 F H2 s2 ff hf Wx hF e=>?_⟩
 .walk_at "go";rw[em] at no;exact q0 H2 (s1.trans s2) no
 .walk_at "go";rw[em] at e;exact q1 f Oe A1 F H2 (s1.trans s2) (s1.free ff) hf Wx hF e
def MF:Sp:=λvs H Q _=>∃(c:Addr)(us:List V)(rs:List Row),vs=[.ref c]/\H c=some (.lst us)/\Rows H us rs/\(∀r∈rs,r.ok rs.length)/\rs.length<=200/\rs≠[] /\
 (iW (bR rs rs.length) (dI rs)->(∀k r t,rs[k]?=some r->t∈cz rs k->iM rs r t (dI rs ((k:Int),t)))->(∀H',aB H H'->(∀F,¬gQ (bR rs rs.length) (dI rs) F)->Q .cY H')/\∀(m:Int)(H':Hp),aB H H'->mE (bR rs rs.length) (dI rs) m->Q (.int m) H')
def Ae(T:Txt w K mg):b7 P w K mg base gT 7 T.delay.f T.delay.d ["code"] MF:=by
 refine T.delay.F.ok zE (λvs H Q E h=>?_) (λcdv A outer s H vs Q E hr h=>?_)
 .obtain⟨c,us,rs,rfl,_⟩:=h;rfl
 obtain⟨c,us,rs,rfl,hc,hrs,hok,hn,hne,q⟩:=h;refine⟨_,(ak (aE (i:=1) zE.nd rfl (ao rfl) (aP T.xo (F4 T) hr (aa (pv 0) ai)))
 (au (aJ (f7 (aG C1 (pv 1) nh (aM _)) nh (aT (Fx rfl) rfl T.N2 BT.NG (aa (IQ (pv 1)) ai)))))),?_⟩
 show(_:TS) (Ends.mk _ _ _ _) [_,_] H;walk_at "start";walk_at "go";refine⟨c,us,rs,rfl,hc,hrs,hok,hn,λA2 o8=>⟨λH1 s1 no=>?_,λf Oe A1 F H1 s1 ff hf Wx hF e=>?_⟩⟩
 .walk_at "go";exact(q A2 o8).1 H1 s1 no
 .walk_at "go";rename_i v H2 n2;have ev:A1.map (·.2.2)=(F.map (·.2)).map V.int:=by have:=congrArg (List.map (·.2)) hF;rw[fV,fV] at this;rw[fV];exact this
  have Zy:F.map (·.2)≠[]:=λz=>by
   have h0:F.length=0:=by rw[<- av (f:=(·.2)),z];rfl
   have h1:=e.2;cases rs with
   | nil=>exact hne rfl
   | cons r rs =>
    have:((0:Int),none)∈bR (r::rs) (r::rs).length:=iC.mpr ⟨0,by simp,rfl,qc.mpr trivial⟩;rw[h0] at h1;rw[List.length_eq_zero_iff.mp h1.symm] at this;exact nomatch this
  refine Qk n2.self (n2.keep hf) ev Zy λm hm hle=>?_;walk_at "go";obtain⟨x,hx,rfl⟩:=aF.mp hm;exact(q A2 o8).2 _ H2 (s1.trans n2.same) ⟨F,e,⟨x,hx,rfl⟩,λy hy=>hle _ (k9 hy)⟩
end
section
variable {α:Type} [DecidableEq α]
def A3:List Int->Int
 | []=>0
 | x::l=>if x<=A3 l then A3 l else x
theorem Cp:∀{l:List Int}{x:Int},x∈l->x<=A3 l
 | y::l,x,h=>by
  unfold A3;rcases aI.mp h with rfl|h
  .split<;>omega
  .have:=Cp h;split<;>omega
theorem xM:∀l:List Int,(A3 l=0\/A3 l∈l)/\0<=A3 l\/(A3 l∈l)
 | []=>.inl ⟨.inl rfl,Int.le_refl _⟩
 | y::l=>by
  unfold A3;split
  .rcases xM l with⟨h|h,h0⟩|h
   .exact .inl ⟨.inl h,h0⟩
   .exact .inr (dg _ h)
   .exact .inr (dg _ h)
  .exact .inr (aI.mpr (.inl rfl))
def tW(L:α->List α):Nat->α->Int
 | 0,_=>1
 | n+1,h=>1+A3 ((L h).map (tW L n))
theorem v5{ks:List α}{L:α->List α}{rk:α->Nat}(hL:∀k∈ks,∀o∈L k,o∈ks)(hr:∀k∈ks,∀o∈L k,rk o<rk k):∀(n m:Nat)(h:α),h∈ks->rk h<n->rk h<m->tW L n h=tW L m h
 | 0,_,_,_,h1,_=>absurd h1 (gG _)
 | _,0,_,_,_,h2=>absurd h2 (gG _)
 | n+1,m+1,h,hk,h1,h2=>by
  unfold tW
  congr 2
  refine List.map_congr_left λo ho=>v5 hL hr n m o (hL h hk o ho) ?_ ?_
  .have:=hr h hk o ho;omega
  .have:=hr h hk o ho;omega
def J1{ks:List α}{L:α->List α}{rk:α->Nat}(nd:ks.Nodup)(hL:∀k∈ks,∀o∈L k,o∈ks)(hr:∀k∈ks,∀o∈L k,rk o<rk k):∃F,gQ ks L F:=by
 let G:α->Int:=λh=>tW L (rk h+1) h;have hG:∀h∈ks,G h=1+A3 ((L h).map G):=λh hk=>by
  show 1+A3 ((L h).map (tW L (rk h)))=_
  congr 2
  refine List.map_congr_left λo ho=>v5 hL hr _ _ o (hL h hk o ho) (hr h hk o ho) (g8 _)
 have pos:∀h,1<=G h:=λh=>by
  show 1<=1+A3 _;have:0<=A3 ((L h).map (tW L (rk h))):=by
   rcases xM ((L h).map (tW L (rk h))) with⟨_,h0⟩|hm
   .exact h0
   .have:∀(n:Nat)(x:α),0<=tW L n x:=λn=>by
     induction n with
     | zero=>intro x;show(0:Int)<=1;decide
     | succ n ih =>
      intro x;show 0<=1+A3 ((L x).map (tW L n));rcases xM ((L x).map (tW L n)) with⟨_,h0⟩|hm
      .omega
      .obtain⟨o,_,e⟩:=aF.mp hm;have:=ih o;omega
    obtain⟨o,_,e⟩:=aF.mp hm;rw[<- e];exact this _ _
  omega
 have em:(ks.map λh=>(h,G h)).map (·.1)=ks:=by rw[fV];exact List.map_id' _
 refine⟨ks.map λh=>(h,G h),⟨by rw[em];exact nd,λx hx=>?_,λx hx=>?_,λh hh no=>absurd (by rw[em];exact hh) no⟩,av _⟩
 .obtain⟨h,hh,rfl⟩:=aF.mp hx;exact hh
 .obtain⟨h,hh,rfl⟩:=aF.mp hx;dsimp only;have e:=hG h hh;refine⟨pos h,λo ho=>⟨G o,aF.mpr ⟨o,hL h hh o ho,rfl⟩,?_⟩,?_⟩
  .have:=Cp (k9 (f:=G) ho);omega
  .by_cases hn:L h=[]
   .left;rw[hn] at e;exact⟨e,hn⟩
   .right;have hm:A3 ((L h).map G)∈(L h).map G:=by
     rcases xM ((L h).map G) with⟨h0|h0,_⟩|h0
     .exfalso;obtain⟨o,ho⟩:=List.exists_mem_of_ne_nil _ hn;have h1:=Cp (k9 (f:=G) ho);have:=pos o;omega
     .exact h0
     .exact h0
    obtain⟨o,ho,eo⟩:=aF.mp hm;exact⟨o,ho,aF.mpr ⟨o,hL h hh o ho,by rw[eo,e];congr 1;omega⟩⟩
end
open Classical in
def dF(rs:List Row):Option Int:=if e:∃m,mE (bR rs rs.length) (dI rs) m then some e.choose else none
def qd{m:Int}(h:mE (bR rs rs.length) (dI rs) m):dF rs=some m:=by unfold dF;rw[dif_pos ⟨m,h⟩];exact congrArg some (F2 (Exists.choose_spec (⟨m,h⟩:∃m,mE (bR rs rs.length) (dI rs) m)) h)
def v7(h:∀F,¬gQ (bR rs rs.length) (dI rs) F):dF rs=none:=by unfold dF;rw[dif_neg];rintro⟨m,F,hF,_⟩;exact h F hF
def qB(hne:rs≠[])(h:gQ (bR rs rs.length) (dI rs) F):∃m,dF rs=some m/\1<=m:=by
 have hin:((0:Int),none)∈bR rs rs.length:=iC.mpr ⟨0,List.length_pos_iff.mpr hne,rfl,qc.mpr trivial⟩;have hF:F≠[]:=λz=>by have h1:=h.2;rw[z] at h1;rw[List.length_eq_zero_iff.mp h1.symm] at hin;exact nomatch hin
 have ex:∀l:List (HM.bP×Int),l≠[]->∃x∈l,∀y∈l,y.2<=x.2:=λl=>by
  induction l with
  | nil=>intro z;exact absurd rfl z
  | cons x l ih =>
   intro _;by_cases hl:l=[]
   .subst hl;exact⟨x,by simp,λy hy=>by rw[aA.mp hy];exact Int.le_refl _⟩
   .obtain⟨z,hz,hm⟩:=ih hl;by_cases hx:z.2<=x.2
    .exact⟨x,by simp,λy hy=>by
      rcases aI.mp hy with rfl|hy
      .exact Int.le_refl _
      .have:=hm y hy;omega⟩
    .exact⟨z,dg _ hz,λy hy=>by
      rcases aI.mp hy with rfl|hy
      .omega
      .exact hm y hy⟩
 obtain⟨x,hx,hm⟩:=ex F hF;exact⟨x.2,qd ⟨F,h,⟨x,hx,rfl⟩,hm⟩,(h.1.fin x hx).1⟩
def Ec(o8:∀k r t,rs[k]?=some r->t∈cz rs k->iM rs r t (dI rs ((k:Int),t))){z:HM.bP}(hz:z∈bR rs rs.length){o:HM.bP}(ho:o∈dI rs z):∃(p:Nat)(r:Row),z.1=(p:Int)/\p<rs.length/\rs[p]?=some r/\z.2∈cz rs p/\DX rs r z.2 o:=by obtain⟨p,hp,e,ht⟩:=iC.mp hz;obtain⟨zp,zt⟩:=z;dsimp only at e ht;subst e;exact⟨p,rs[p],rfl,hp,fO hp,ht,((o8 p _ zt (fO hp) ht).2 o).mp ho⟩
def MG(A2:iW (bR rs rs.length) (dI rs))(o8:∀k r t,rs[k]?=some r->t∈cz rs k->iM rs r t (dI rs ((k:Int),t)))(hf:∀(p:Nat)(r:Row),rs[p]?=some r->∀q∈r.ways,(p:Int)<q):∃F,gQ (bR rs rs.length) (dI rs) F:=by refine J1 (rk:=λz=>rs.length-z.1.toNat) A2.1 (λk hk o ho=>(A2.2.2 k hk).2 o ho) λz hz o ho=>?_;obtain⟨p,r,e,hp,hr,_,hl⟩:=Ec o8 hz ho;have h1:=hf p r hr _ hl.1;have h2:=(A2.2.2 z hz).2 o ho;obtain⟨q,hq,e2,_⟩:=iC.mp h2;show rs.length-o.1.toNat<rs.length-z.1.toNat;rw[e2] at h1;rw[e,e2];omega
def cL(rs:List Row)(p:Nat):List Int:=SN.fm ((jB rs p).map (·.2))
def c8(rs:List Row)(p:Nat):Nat:=if dQ rs p=true then(cL rs p).length+1 else 0
def Row.own(r:Row):Nat:=if r.gE=true then 2 else 1
def gc(rs:List Row)(p:Nat):Nat:=c8 rs p+(rs[p]?.map Row.own).getD 0
def firstM(rs:List Row):Nat->Nat
 | 0=>0
 | p+1=>firstM rs p+gc rs p
def gR(rs:List Row)(q:Int):Int:=(firstM rs q.toNat:Int)
def Row.dbl(at_:Int):Row->List Row
 | .num _ k v q=>[.num 0 k v (at_+1),.num 1 k v q]
 | .copy _ k i q=>[.copy 0 k i (at_+1),.copy 1 k i q]
 | .op _ s k i j q=>[.op 0 s k i j (at_+1),.op 1 s k i j q]
 | r=>[r]
def cu(f:Int):List Int->List Row
 | []=>[]
 | b::bs=>.look b (f+1)::cu (f+1) bs
theorem d7(f:Int):∀bs,(cu f bs).length=bs.length
 | []=>rfl
 | b::bs=>by rw[cu,eB,d7 (f+1) bs,eB]
theorem lR(b:Int):∀(f:Int)(bs:List Int),cu f (bs++[b])=cu f bs++[.look b (f+bs.length+1)]
 | f,[]=>by simp[cu]
 | f,c::bs=>by
  rw[List.cons_append,cu,lR b (f+1) bs,cu,List.cons_append,eB];have:f+1+(bs.length:Int)+1=f+((bs.length+1:Nat):Int)+1:=by omega
  rw[this]
def Af(rs:List Row)(p:Nat):List Row:=if dQ rs p=true then cu (firstM rs p) (cL rs p)++[.mark ((firstM rs p:Int)+(cL rs p).length+1)] else[]
def putAt(rs:List Row)(p:Nat)(r:Row):List Row:=Af rs p++(r.cU (gR rs)).dbl ((firstM rs p:Int)+c8 rs p)
def bW(rs:List Row):Nat->List Row
 | 0=>[]
 | p+1=>bW rs p++(rs[p]?.map (putAt rs p)).getD []
def tX(rs:List Row)(p:Nat):(Af rs p).length=c8 rs p:=by
 unfold Af c8;split
 .rw[aR,d7];rfl
 .rfl
def Ed(f:Int->Int)(a:Int)(r:Row):((r.cU f).dbl a).length=r.own:=by cases r<;>rfl
theorem d8{rs:List Row}:∀{p},p<=rs.length->(bW rs p).length=firstM rs p
 | 0,_=>rfl
 | p+1,h=>by have e:rs[p]?=some rs[p]:=fO h;rw[bW,firstM,aR,d8 (Nat.le_of_succ_le h)];unfold gc;rw[e];show _+(putAt rs p rs[p]).length=_;unfold putAt;rw[aR,tX,Ed];rfl
def F5(rs:List Row)(p:Nat):∀b∈cL rs p,0<=b/\b<8:=λb hb=>by unfold cL SN.fm at hb;obtain⟨k,hk,rfl⟩:=aF.mp hb;have:=fX.mp (dM.mp hk).1;omega
def tY(rs:List Row)(p:Nat):(cL rs p).length<=8:=j4 _
def xN(rs:List Row)(p:Nat):c8 rs p<=9:=by have:=tY rs p;unfold c8;split<;>omega
def qe(r:Row):r.own<=2:=by unfold Row.own;split<;>omega
def MH(rs:List Row)(p:Nat):gc rs p<=11:=by
 have:=xN rs p;unfold gc;cases rs[p]? with
 | none=>simp;omega
 | some r=>have:=qe r;simp;omega
theorem qf(rs:List Row):∀p,firstM rs p<=11*p
 | 0=>az _
 | p+1=>by have:=qf rs p;have:=MH rs p;rw[firstM];omega
theorem tZ{ks:Nat->Key}{vs:Nat->V}:∀{n:Nat},(∀i j,i<n->j<n->ks i=ks j->i=j)->∀i,i<n->e9 (gr ks vs n) (ks i)=some (vs i)
 | 0,_,i,h=>absurd h (gG _)
 | n+1,hn,i,h=>by
  rw[gr,yt];by_cases e:ks i=ks n
  .have:i=n:=hn i n h (g8 _) e;rw[if_pos e,this]
  .rw[if_neg e];refine tZ (λa b ha hb=>hn a b (by omega) (by omega)) i ?_;rcases aY i n with hl|hg
   .exact hl
   .exact absurd (by rw[show i=n by omega]) e
theorem kT{ks:Nat->Key}{vs:Nat->V}{k:Key}:∀{n:Nat},(∀i,i<n->ks i≠k)->e9 (gr ks vs n) k=none
 | 0,_=>rfl
 | n+1,h=>by rw[gr,yt,if_neg (λe=>h n (g8 _) e.symm)];exact kT λi hi=>h i (by omega)
def o9(H:Hp)(rs:List Row)(kvs:List (Key×V)):Prop:=∀j:Nat,j<rs.length->(dQ rs j=true->∃a,e9 kvs (.inl (j:Int))=some (.ref a)/\H a=some (.lst ((cL rs j).map V.int)))/\(¬dQ rs j=true->e9 kvs (.inl (j:Int))=none)
def o9.same{kvs:List (Key×V)}(e:aB H H')(h:o9 H rs kvs):o9 H' rs kvs:=λj hj=>⟨λhm=>let⟨a,h1,h2⟩:=(h j hj).1 hm;⟨a,h1,e _ _ h2⟩,(h j hj).2⟩
def Row.pl:Row->Prop
 | .num d _ _ _=>d=2|.copy d _ _ _=>d=2|.op d _ _ _ _ _=>d=2|.look _ _=>False|.mark _=>False|_=>True
inductive K1 (rs:List Row):Nat->Prop
 | zero:K1 rs 0
 | step {p q:Nat} {r:Row} (h:K1 rs p) (hr:rs[p]?=some r) (w:((q:Nat):Int)∈r.ways):K1 rs q
def cnt_cons(r:Row)(rs:List Row)(j:Nat):cnt (r::rs) j=r.ways.count (j:Int)+cnt rs j:=by unfold cnt;rw[cj,List.sum_cons]
theorem xO:∀{rs:List Row}{p j:Nat}{r:Row},rs[p]?=some r->((j:Nat):Int)∈r.ways->1<=cnt rs j
 | [],_,_,_,h,_=>by simp at h
 | x::rs,0,j,r,h,w=>by
  simp at h;subst h;have:=List.count_pos_iff.mpr w;rw[cnt_cons];omega
 | x::rs,p+1,j,r,h,w=>by have:=xO (rs:=rs) (p:=p) (by simpa using h) w;rw[cnt_cons];omega
def Ef{r':Row}(w:((j:Nat):Int)∈r.ways)(w':((j:Nat):Int)∈r'.ways)(rs:List Row):∀(p q:Nat),p<q->rs[p]?=some r->rs[q]?=some r'->2<=cnt rs j:=by
 induction rs with
 | nil=>intro p q _ h;simp at h
 | cons x rs ih =>
  intro p q hl h h';rw[cnt_cons];obtain⟨q,rfl⟩:∃i,q=i+1:=⟨q-1,by omega⟩;rw[rP] at h';rcases Nat.eq_zero_or_pos p with e|hp
  .subst e;rw[List.getElem?_cons_zero] at h;cases h;have h1:=List.count_pos_iff.mpr w;have h2:=xO h' w';omega
  .obtain⟨p,rfl⟩:∃i,p=i+1:=⟨p-1,by omega⟩;rw[rP] at h;have:=ih p q (by omega) h h';omega
def xP(hn:¬dQ rs j=true)(hr:rs[p]?=some r)(w:((j:Nat):Int)∈r.ways):j≠0/\∀(q:Nat)(r':Row),rs[q]?=some r'->((j:Nat):Int)∈r'.ways->q=p:=by
 have h1:=xO hr w;have hm:¬(if j=0 then 1 else 2)<=cnt rs j:=λz=>hn (decide_eq_true z);have hj:j≠0:=λz=>hm (by rw[if_pos z];exact h1);rw[if_neg hj] at hm;refine⟨hj,λq r' hq w'=>?_⟩;rcases lX p q with h|h|h
 .exact absurd (Ef w w' rs _ _ h hr hq) hm
 .exact h.symm
 .exact absurd (Ef w' w rs _ _ h hq hr) hm
inductive Eg (rs:List Row):Nat->Nat->Prop
 | top {j:Nat} (h:j=0\/dQ rs j=true):Eg rs j 0
 | on {p j d:Nat} {r:Row} (hr:rs[p]?=some r) (w:((j:Nat):Int)∈r.ways) (hn:¬dQ rs j=true) (h:Eg rs p d):Eg rs j (d+1)
def Q0(h:K1 rs j):∃d,Eg rs j d:=by
 induction h with
 | zero=>exact⟨0,.top (.inl rfl)⟩
 | step _ hr w ih =>
  rename_i p q r _;obtain⟨d,hd⟩:=ih;by_cases hm:dQ rs q=true
  .exact⟨0,.top (.inr hm)⟩
  .exact⟨d+1,.on hr w hm hd⟩
def Eh(h:Eg rs j d):∀{d':Nat},Eg rs j d'->d=d':=by
 induction h with
 | top h =>
  intro d' h';cases h' with
  | top _=>rfl
  | on hr w hn _=>exact absurd (h.resolve_left (xP hn hr w).1) hn
 | on hr w hn _ ih =>
  intro d' h';cases h' with
  | top h=>exact absurd (h.resolve_left (xP hn hr w).1) hn
  | on hr' w' _ h' =>
   obtain rfl:=(xP hn hr w).2 _ _ hr' w';rw[ih h']
def J2(h:Eg rs j d):j<rs.length->∃l:List Nat,l.length=d+1/\l.Nodup/\∀x∈l,x<rs.length/\∃i,i<=d/\Eg rs x i:=by
 induction h with
 | top h=>exact λhj=>⟨[_],rfl,by simp,λx hx=>by rw[aA.mp hx];exact⟨hj,0,az _,.top h⟩⟩
 | @on p j d r hr w hn hd ih =>
  intro hj;obtain⟨l,h1,h2,h3⟩:=ih (fu hr).1;refine⟨j::l,by rw[eB,h1],iG.mpr ⟨λhx=>?_,h2⟩,λx hx=>?_⟩
  .obtain⟨_,i,hi,hd'⟩:=h3 _ hx;have:=Eh (Eg.on hr w hn hd) hd';omega
  .rcases aI.mp hx with rfl|hx
   .exact⟨hj,_,az _,.on hr w hn hd⟩
   .obtain⟨h4,i,hi,hd'⟩:=h3 x hx;exact⟨h4,i,by omega,hd'⟩
def J3(h:Eg rs j d)(hj:j<rs.length):d<rs.length:=by obtain⟨l,h1,h2,h3⟩:=J2 h hj;have:=j5 h2 (ys:=List.range rs.length) λx hx=>fX.mpr (h3 x hx).1;rw[gU] at this;omega
open Classical in
def MI(rs:List Row)(j:Nat):Nat:=if e:∃d,Eg rs j d then e.choose else 0
def Ei(h:Eg rs j d):MI rs j=d:=by unfold MI;rw[dif_pos ⟨d,h⟩];exact Eh (Exists.choose_spec (⟨d,h⟩:∃d,Eg rs j d)) h
def iD(h:p<=q):firstM rs p<=firstM rs q:=by
 induction q with
 | zero=>rw[Nat.le_zero.mp h];exact az _
 | succ q ih =>
  rcases aY p (q+1) with h1|h1
  .have:=ih (by omega);show _<=firstM rs q+gc rs q;omega
  .rw[show p=q+1 by omega];exact az _
def J4(hr:rs[p]?=some r)(hk:k<gc rs p):∀m,p<m->m<=rs.length->(bW rs m)[firstM rs p+k]?=(putAt rs p r)[k]?:=by
 intro m;induction m with
 | zero=>intro h;exact absurd h (gG _)
 | succ m ih =>
  intro h1 h2;have hl:=d8 (rs:=rs) (p:=m) (by omega);show(bW rs m++_)[firstM rs p+k]?=_;rcases aY p m with h3|h3
  .have hm:=iD (rs:=rs) (p:=p+1) (q:=m) h3;have e:firstM rs (p+1)=firstM rs p+gc rs p:=rfl;rw[i7 (by omega),ih h3 (by omega)]
  .obtain rfl:p=m:=by omega
   rw[iF (by omega),hl,show firstM rs p+k-firstM rs p=k by omega,hr];rfl
theorem uc{rs:List Row}:∀{m x:Nat},x<firstM rs m->m<=rs.length->∃p k,p<m/\k<gc rs p/\x=firstM rs p+k
 | 0,x,h,_=>absurd h (gG _)
 | m+1,x,h,hm=>by
  rcases aY x (firstM rs m) with h1|h1
  .obtain⟨p,k,h2,h3,h4⟩:=uc h1 (by omega);exact⟨p,k,by omega,h3,h4⟩
  .have h:x<firstM rs m+gc rs m:=h;exact⟨m,x-firstM rs m,by omega,by omega,by omega⟩
def qg(hk:k<gc rs p)(hj:j<gc rs q)(e:firstM rs p+k=firstM rs q+j):p=q/\k=j:=by
 rcases lX p q with h|h|h
 .have h1:=iD (rs:=rs) (p:=p+1) (q:=q) h;have h1:firstM rs p+gc rs p<=firstM rs q:=h1;omega
 .subst h;exact⟨rfl,by omega⟩
 .have h1:=iD (rs:=rs) (p:=q+1) (q:=p) h;have h1:firstM rs q+gc rs q<=firstM rs p:=h1;omega
theorem mV:∀(f:Int)(bs:List Int)(k:Nat),(cu f bs)[k]?=bs[k]?.map λb=>Row.look b (f+k+1)
 | _,[],_=>by simp[cu]
 | f,b::bs,0=>by simp[cu]
 | f,b::bs,k+1=>by rw[cu,rP,rP,mV (f+1) bs k,show f+1+(k:Int)+1=f+((k+1:Nat):Int)+1 by omega]
inductive Cq (rs:List Row) (p:Nat) (r:Row) (x:Int):Nat->Row->Prop
 | look {k:Nat} {b:Int} (hm:dQ rs p=true) (hb:(cL rs p)[k]?=some b):Cq rs p r x k (.look b (x+1))
 | mark {k:Nat} (hm:dQ rs p=true) (e:k=(cL rs p).length):Cq rs p r x k (.mark (x+1))
 | own {k:Nat} (hd:r.gE=false) (e:k=c8 rs p):Cq rs p r x k (r.cU (gR rs))
 | one {k:Nat} {R:Row} (hd:r.gE=true) (e:k=c8 rs p) (h1:R.gE=true) (h2:R.sd=0) (h3:R.mS=r.mS) (h4:R.ways=[x+1]) (h5:∀n n':Int,r.ok n->jQ n' (x+1)->R.ok n'):Cq rs p r x k R
 | two {k:Nat} {R:Row} (hd:r.gE=true) (e:k=c8 rs p+1) (h1:R.gE=true) (h2:R.sd=1) (h3:R.mS=r.mS) (h4:R.ways=r.ways.map (gR rs)) (h5:∀n n':Int,r.ok n->(∀q,jQ n q->jQ n' (gR rs q))->R.ok n'):Cq rs p r x k R
def Zz(h:(putAt rs p r)[k]?=some R):Cq rs p r ((firstM rs p:Int)+k) k R:=by
 have hl:=tX rs p;unfold putAt at h;rcases aY k (c8 rs p) with h1|h1
 .rw[i7 (by omega)] at h;unfold c8 at h1;by_cases hm:dQ rs p=true
  .rw[if_pos hm] at h1;unfold Af at h;rw[if_pos hm] at h;rcases aY k (cL rs p).length with h2|h2
   .rw[i7 (by rw[d7];exact h2),mV] at h;obtain⟨b,hb,rfl⟩:=di.mp h;exact .look hm hb
   .obtain rfl:k=(cL rs p).length:=by omega
    rw[iF (by rw[d7];exact az _),d7,Nat.sub_self] at h;cases h;exact .mark hm rfl
  .rw[if_neg hm] at h1;exact absurd h1 (gG _)
 .rw[iF (by omega),hl] at h;have e2:k=c8 rs p+(k-c8 rs p):=by omega
  generalize k-c8 rs p=i at h e2;subst e2;have ex:(firstM rs p:Int)+c8 rs p+1=(firstM rs p:Int)+((c8 rs p+0:Nat):Int)+1:=by omega
  cases r with
  | num d a v q =>
   match i,h with
   | 0,h=>cases h;exact .one rfl rfl rfl rfl rfl (by show[_]=_;rw[ex]) (λn n' h hx=>by rw[<- ex] at hx;exact⟨⟨by decide,by decide⟩,h.2.1,h.2.2.1,hx⟩)
   | 1,h=>cases h;exact .two rfl rfl rfl rfl rfl rfl (λn n' h hf=>⟨⟨by decide,by decide⟩,h.2.1,h.2.2.1,hf _ h.2.2.2⟩)
   | i+2,h=>cases h
  | copy d a b q =>
   match i,h with
   | 0,h=>cases h;exact .one rfl rfl rfl rfl rfl (by show[_]=_;rw[ex]) (λn n' h hx=>by rw[<- ex] at hx;exact⟨⟨by decide,by decide⟩,h.2.1,h.2.2.1,hx⟩)
   | 1,h=>cases h;exact .two rfl rfl rfl rfl rfl rfl (λn n' h hf=>⟨⟨by decide,by decide⟩,h.2.1,h.2.2.1,hf _ h.2.2.2⟩)
   | i+2,h=>cases h
  | op d s a b c q =>
   match i,h with
   | 0,h=>cases h;exact .one rfl rfl rfl rfl rfl (by show[_]=_;rw[ex]) (λn n' h hx=>by rw[<- ex] at hx;exact⟨⟨by decide,by decide⟩,h.2.1,h.2.2.1,h.2.2.2.1,h.2.2.2.2.1,hx⟩)
   | 1,h=>cases h;exact .two rfl rfl rfl rfl rfl rfl (λn n' h hf=>⟨⟨by decide,by decide⟩,h.2.1,h.2.2.1,h.2.2.2.1,h.2.2.2.2.1,hf _ h.2.2.2.2.2⟩)
   | i+2,h=>cases h
  | out a q =>
   match i,h with
   | 0,h=>cases h;exact .own rfl rfl
   | i+1,h=>cases h
  | fork a q q2 =>
   match i,h with
   | 0,h=>cases h;exact .own rfl rfl
   | i+1,h=>cases h
  | look a q =>
   match i,h with
   | 0,h=>cases h;exact .own rfl rfl
   | i+1,h=>cases h
  | mark q =>
   match i,h with
   | 0,h=>cases h;exact .own rfl rfl
   | i+1,h=>cases h
  | back a =>
   match i,h with
   | 0,h=>cases h;exact .own rfl rfl
   | i+1,h=>cases h
section
variable {rs:List Row}
def Ag(h:r.pl)(s s':Int):r.gv s=r.gv s'/\r.rd s=r.rd s':=by
 unfold Row.gv Row.rd;cases r with
 | num d _ _ _=>have h:d=2:=h;subst h;simp[Row.sd,Row.gE]
 | copy d _ _ _=>have h:d=2:=h;subst h;simp[Row.sd,Row.gE]
 | op d _ _ _ _ _=>have h:d=2:=h;subst h;simp[Row.sd,Row.gE]
 | _=>exact⟨rfl,rfl⟩
def Ah(hok:∀r∈rs,r.ok rs.length)(hpl:∀r∈rs,r.pl){s':Int}(hs:s=0\/s=1)(hs':s'=0\/s'=1)(hb:0<=b)(h:cE rs (s,b) p):cE rs (s',b) p:=by
 refine jA (S:=cE rs (s',b)) (λk r hr hm=>?_) (λk q r hr hm w hq=>?_) p h
 .have hm':=fB hr;rw[g7 (hok r hm') hs,(Ag (hpl r hm') s s').2] at hm;exact .here hr ((g7 (hok r hm') hs').mpr hm)
 .have hm':=fB hr;rw[fR (hok r hm') hs hb,(Ag (hpl r hm') s s').1] at hm;exact .on hr (λz=>hm ((fR (hok r hm') hs' hb).mp z)) w hq
def rf(r:Row):1<=r.own:=by unfold Row.own;split<;>omega
def pq(hp:p<rs.length):firstM rs p<firstM rs rs.length/\c8 rs p<gc rs p:=by
 have h1:=iD (rs:=rs) (p:=p+1) (q:=rs.length) hp;have h1:firstM rs p+gc rs p<=_:=h1;have e:gc rs p=c8 rs p+(rs[p]).own:=by unfold gc;rw[fO hp];rfl
 have:=rf rs[p];omega
def nD:gR rs (q:Int)=(firstM rs q:Int):=by unfold gR;rw[gF]
def rg{x:Nat}(h:(bW rs rs.length)[x]?=some R):∃(p k:Nat)(r:Row),rs[p]?=some r/\k<gc rs p/\x=firstM rs p+k/\Cq rs p r (x:Int) k R:=by have hx:=(fu h).1;rw[d8 (az _)] at hx;obtain⟨p,k,h1,h2,rfl⟩:=uc hx (az _);have hr:rs[p]?=some rs[p]:=fO h1;rw[J4 hr h2 _ h1 (az _)] at h;have:=Zz h;exact⟨p,k,_,hr,h2,rfl,by rw[show((firstM rs p+k:Nat):Int)=(firstM rs p:Int)+k by omega];exact this⟩
def lS(hr:rs[p]?=some r):gc rs p=c8 rs p+r.own:=by unfold gc;rw[hr];rfl
def jC(f:Int->Int)(r:Row):(r.cU f).gE=r.gE/\(r.cU f).sd=r.sd/\(r.cU f).mS=r.mS/\(r.cU f).ways=r.ways.map f:=by cases r<;>exact⟨rfl,rfl,rfl,rfl⟩
def Ai(f:Int->Int)(r:Row)(s:Int):(r.cU f).gv s=r.gv s/\(r.cU f).rd s=r.rd s:=by obtain⟨h1,h2,h3,_⟩:=jC f r;unfold Row.gv Row.rd Row.FI;rw[h1,h2,h3];exact⟨rfl,rfl⟩
def rj{d:Int}(hpl:r.pl)(hd:r.gE=true)(h1:R.gE=true)(h2:R.sd=d)(h3:R.mS=r.mS)(qq:d=0\/d=1)(s:Int):(s=d->R.gv s=r.gv s/\R.rd s=r.rd s)/\(s≠d->s=0\/s=1->R.gv s = -1/\R.rd s=[]):=by
 have e2:r.sd=2:=by
  cases r with
  | num d _ _ _=>exact hpl
  | copy d _ _ _=>exact hpl
  | op d _ _ _ _ _=>exact hpl
  | _=>cases hd
 unfold Row.gv Row.rd Row.FI;rw[h1,h2,h3,hd,e2];constructor
 .intro e;subst e;simp
 .intro e hs;have e1:¬d=s:=λz=>e z.symm;have e3:¬d=2:=by omega
  simp[e1,e3]
def F6(hok:∀r∈rs,r.ok rs.length)(hpl:∀r∈rs,r.pl)(MJ:∀r∈bW rs rs.length,r.ok (bW rs rs.length).length)(hs:s=0\/s=1)(hb:0<=b/\b<8){x:Nat}(h:cE (bW rs rs.length) (s,b) x):
  ∀(p k:Nat)(r:Row),rs[p]?=some r->k<gc rs p->x=firstM rs p+k->(k<=c8 rs p\/s=1->cE rs (s,b) p)/\(c8 rs p<k->s=0->∃q:Nat,((q:Nat):Int)∈r.ways/\cE rs (s,b) q):=by
 refine jA (S:=λx=>∀(p k:Nat)(r:Row),rs[p]?=some r->k<gc rs p->x=firstM rs p+k->(k<=c8 rs p\/s=1->cE rs (s,b) p)/\(c8 rs p<k->s=0->∃q:Nat,((q:Nat):Int)∈r.ways/\cE rs (s,b) q)) (λy R hR hm=>?_) (λy q R hR hm w hq=>?_) x h
 .intro p k r hr hk ey;obtain⟨p',k',r',hr',hk',ey',hw⟩:=rg hR;obtain⟨rfl,rfl⟩:=qg hk hk' (by omega);rw[hr] at hr';cases hr';have hmem:=fB hr;have J5:=hok r hmem;rw[g7 (MJ R (fB hR)) hs] at hm;have hso:=lS hr;have yc:=qe r;have here:b∈r.rd s->cE rs (s,b) p:=λz=>.here hr ((g7 J5 hs).mpr z);cases hw with
  | look hm' hb' =>
   have:b∈cL rs p:=by have hm:b∈[_]:=hm;rw[aA.mp hm];exact fB hb'
   obtain⟨z,hz,ez⟩:∃z∈jB rs p,z.2=b:=by
    unfold cL at this;rw[SN.iY λn hn=>?_] at this
    .obtain⟨z,hz,ez⟩:=aF.mp this;exact⟨z,hz,ez⟩
    .obtain⟨z,hz,rfl⟩:=aF.mp hn;have all:∀t∈cR,0<=t.2/\t.2<8:=by decide
     exact all z (dM.mp hz).1
   obtain⟨hz1,hz2⟩:=dM.mp hz;have all:∀t∈cR,t.1=0\/t.1=1:=by decide
   obtain⟨zs,zb⟩:=z;dsimp only at ez;subst ez;refine⟨λ_=>Ah hok hpl (all _ hz1) hs hb.1 (g6.mp hz2),λh=>?_⟩;have:=(fu hb').1;unfold c8 at h;rw[if_pos hm'] at h;omega
  | mark _ _=>exact nomatch (show b∈([]:List Int) from hm)
  | own hd e =>
   rw[(Ai _ r s).2] at hm;exact⟨λ_=>here hm,λh=>by omega⟩
  | one hd e h1 h2 h3 h4 _ =>
   refine⟨λ_=>?_,λh=>by omega⟩;have hg:=rj (hpl r hmem) hd h1 h2 h3 (.inl rfl) s;by_cases e0:s=0
   .rw[(hg.1 e0).2] at hm;exact here hm
   .rw[(hg.2 e0 hs).2] at hm;exact nomatch hm
  | two hd e h1 h2 h3 h4 _ =>
   have hg:=rj (hpl r hmem) hd h1 h2 h3 (.inr rfl) s;by_cases e0:s=1
   .rw[(hg.1 e0).2] at hm;exact⟨λ_=>here hm,λ_ h=>by omega⟩
   .rw[(hg.2 e0 hs).2] at hm;exact nomatch hm
 .intro p k r hr hk ey;obtain⟨p',k',r',hr',hk',ey',hw⟩:=rg hR;obtain⟨rfl,rfl⟩:=qg hk hk' (by omega);rw[hr] at hr';cases hr';have hmem:=fB hr;have J5:=hok r hmem;rw[fR (MJ R (fB hR)) hs hb.1] at hm;have hso:=lS hr;have yc:=qe r;have hop:=rf r;have next:∀{j:Nat},(q:Int)=(y:Int)+1->k+1=j->j<gc rs p->_:=λ{j} e1 e2 e3=>hq p j r hr e3 (by omega);have J6:(q:Int)∈r.ways.map (gR rs)->∃q':Nat,((q':Nat):Int)∈r.ways/\cE rs (s,b) q':=λw=>by
   obtain⟨z,hz,ez⟩:=aF.mp w;obtain⟨h1,h2⟩:=Row.ir J5 z hz;obtain⟨q',rfl⟩:∃q':Nat,z=(q':Int):=⟨z.toNat,by omega⟩;rw[nD] at ez;have hq':q'<rs.length:=by omega
   exact⟨q',hz,(hq q' 0 rs[q'] (fO hq') (by have:=(pq hq').2;omega) (by omega)).1 (.inl (aH _))⟩
  have ZA:r.gv s≠b->(∃q':Nat,((q':Nat):Int)∈r.ways/\cE rs (s,b) q')->cE rs (s,b) p:=λh ⟨q',h1,h2⟩=>.on hr (λz=>h ((fR J5 hs hb.1).mp z)) h1 h2;cases hw with
  | look hm' hb' =>
   have yf:=(fu hb').1;have em:c8 rs p=(cL rs p).length+1:=by unfold c8;rw[if_pos hm']
   have w:(q:Int)=(y:Int)+1:=aA.mp w;exact⟨λ_=>(next (j:=k+1) w rfl (by omega)).1 (.inl (by omega)),λh=>by omega⟩
  | mark hm' e =>
   have em:c8 rs p=(cL rs p).length+1:=by unfold c8;rw[if_pos hm']
   have w:(q:Int)=(y:Int)+1:=aA.mp w;exact⟨λ_=>(next (j:=k+1) w rfl (by omega)).1 (.inl (by omega)),λh=>by omega⟩
  | own hd e =>
   rw[(jC (gR rs) r).2.2.2] at w;rw[(Ai _ r s).1] at hm;exact⟨λ_=>ZA hm (J6 w),λh=>by omega⟩
  | one hd e h1 h2 h3 h4 _ =>
   rw[h4] at w;have w:(q:Int)=(y:Int)+1:=aA.mp w;have ho:r.own=2:=by unfold Row.own;rw[if_pos hd]
   have hn:=next (j:=k+1) w rfl (by omega);refine⟨λ_=>?_,λh=>by omega⟩;by_cases e0:s=1
   .exact hn.1 (.inr e0)
   .have e1:s=0:=hs.resolve_right e0;have hg:=(rj (hpl r hmem) hd h1 h2 h3 (.inl rfl) s).1 e1;rw[hg.1] at hm;exact ZA hm (hn.2 (by omega) e1)
  | two hd e h1 h2 h3 h4 _ =>
   rw[h4] at w;refine⟨λh=>?_,λ_ _=>J6 w⟩;have e1:s=1:=h.resolve_left (by omega);have hg:=(rj (hpl r hmem) hd h1 h2 h3 (.inr rfl) s).1 e1;rw[hg.1] at hm;exact ZA hm (J6 w)
def pA{n':Int}{f:Int->Int}(h:r.ok n)(hf:∀q,jQ n q->jQ n' (f q)):(r.cU f).ok n':=by
 cases r with
 | num d k v q=>exact⟨h.1,h.2.1,h.2.2.1,hf _ h.2.2.2⟩
 | copy d k i q=>exact⟨h.1,h.2.1,h.2.2.1,hf _ h.2.2.2⟩
 | op d s k i j q=>exact⟨h.1,h.2.1,h.2.2.1,h.2.2.2.1,h.2.2.2.2.1,hf _ h.2.2.2.2.2⟩
 | out i q=>exact⟨h.1,hf _ h.2⟩
 | fork i q p=>exact⟨h.1,hf _ h.2.1,hf _ h.2.2⟩
 | look i q=>exact⟨h.1,hf _ h.2⟩
 | mark q=>exact hf _ h
 | back i=>exact h
def Ej(hok:∀r∈rs,r.ok rs.length):∀R∈bW rs rs.length,R.ok (bW rs rs.length).length:=λR hR=>by
 obtain⟨x,hx⟩:=fW.mp hR;obtain⟨p,k,r,hr,hk,ex,hw⟩:=rg hx;have hp:=(fu hr).1;have J5:=hok r (fB hr);have hso:=lS hr;have hop:=rf r;rw[d8 (az _)];have hm:=iD (rs:=rs) (p:=p+1) (q:=rs.length) hp;have hm:firstM rs p+gc rs p<=_:=hm;have hf:∀q,jQ rs.length q->jQ (firstM rs rs.length) (gR rs q):=λq hq=>by obtain⟨q',rfl⟩:∃q':Nat,q=(q':Int):=⟨q.toNat,by have:=hq.1;omega⟩;rw[nD];have h1:=hq.2;have:=(pq (rs:=rs) (p:=q') (by omega)).1;exact⟨by omega,by omega⟩
 have nx:k+1<gc rs p->jQ (firstM rs rs.length) ((x:Int)+1):=λh=>⟨by omega,by omega⟩;cases hw with
 | look hm' hb' =>
  have yf:=(fu hb').1;have em:c8 rs p=(cL rs p).length+1:=by unfold c8;rw[if_pos hm']
  exact⟨F5 rs p _ (fB hb'),nx (by omega)⟩
 | mark hm' e =>
  have em:c8 rs p=(cL rs p).length+1:=by unfold c8;rw[if_pos hm']
  exact nx (by omega)
 | own hd e=>exact pA J5 hf
 | one hd e _ _ _ _ h5 =>
  have ho:r.own=2:=by unfold Row.own;rw[if_pos hd]
  exact h5 _ _ J5 (nx (by omega))
 | two hd e _ _ _ _ h5=>exact h5 _ _ J5 hf
def kO(rs:List Row)(p k:Nat)(t:HM.fz):Prop:=k<c8 rs p/\(t=none\/∃s b i,t=some (s,b)/\k<=i/\(cL rs p)[i]?=some b)
open Classical in
def Aj(rs:List Row)(p k:Nat)(t:HM.fz):Nat:=if kO rs p k t then c8 rs p-k else 12*(rs.length+1-MI rs p)+(gc rs p-k)
def xQ(h:kO rs p k t):Aj rs p k t=c8 rs p-k:=by unfold Aj;rw[if_pos h]
def lU(h:¬kO rs p k t):Aj rs p k t=12*(rs.length+1-MI rs p)+(gc rs p-k):=by unfold Aj;rw[if_neg h]
open Classical in
def U6(rs:List Row)(z:HM.bP):Nat:=if e:∃a:Nat×Nat,a.2<gc rs a.1/\z.1=((firstM rs a.1+a.2:Nat):Int) then Aj rs e.choose.1 e.choose.2 z.2 else 0
def Cr{z:Int}(hk:k<gc rs p)(hz:z=((firstM rs p+k:Nat):Int)):U6 rs (z,t)=Aj rs p k t:=by have e:∃a:Nat×Nat,a.2<gc rs a.1/\(z,t).1=((firstM rs a.1+a.2:Nat):Int):=⟨(p,k),hk,hz⟩;unfold U6;rw[dif_pos e];have h:=e.choose_spec;have h2:z=((firstM rs e.choose.1+e.choose.2:Nat):Int):=h.2;obtain⟨h1,h3⟩:=qg h.1 hk (by omega);rw[h1,h3]
def J7(hok:∀r∈rs,r.ok rs.length)(hpl:∀r∈rs,r.pl)(RL:∀p,p<rs.length->K1 rs p)(A2:iW (bR (bW rs rs.length) (bW rs rs.length).length) (dI (bW rs rs.length)))
  (o8:∀k r t,(bW rs rs.length)[k]?=some r->t∈cz (bW rs rs.length) k->iM (bW rs rs.length) r t (dI (bW rs rs.length) ((k:Int),t))):∃F,gQ (bR (bW rs rs.length) (bW rs rs.length).length) (dI (bW rs rs.length)) F:=by
 have MJ:=Ej hok;refine J1 (rk:=U6 rs) A2.1 (λk hk o ho=>(A2.2.2 k hk).2 o ho) λz hz o ho=>?_;obtain⟨x,R,ez,hx,hR,GA,hl⟩:=Ec o8 hz ho;obtain⟨p,k,r,hr,hk,ex,hw⟩:=rg hR;have hp:=(fu hr).1;obtain⟨zp,t⟩:=z;obtain⟨op,u⟩:=o;dsimp only at ez hl GA;rw[Cr (z:=zp) (t:=t) hk (by rw[ez,ex])];have hso:=lS hr;have hop:=rf r;have yc:=qe r;obtain⟨d,hd⟩:=Q0 (RL p hp);have hdl:=J3 hd hp;have hdm:=Ei hd;obtain⟨w,lf,lv⟩:=hl;dsimp only at w lf lv;have next:k+1<gc rs p->op=(x:Int)+1->U6 rs (op,u)=Aj rs p (k+1) u:=λh e=>Cr h (by rw[e,ex];omega);have J6:¬kO rs p k t->op∈r.ways.map (gR rs)->U6 rs (op,u)<Aj rs p k t:=λhne w=>by
  rw[lU hne,hdm];obtain⟨q,hq,eq⟩:=aF.mp w;obtain⟨g1,g2⟩:=Row.ir (hok r (fB hr)) q hq;obtain⟨q',rfl⟩:∃q':Nat,q=(q':Int):=⟨q.toNat,by omega⟩;rw[nD] at eq;have hq':q'<rs.length:=by omega
  have hfl:=pq hq';rw[Cr (p:=q') (k:=0) (by omega) (by rw[<- eq];simp)];by_cases hm:dQ rs q'=true
  .have em:c8 rs q'=(cL rs q').length+1:=by unfold c8;rw[if_pos hm]
   have hen:kO rs q' 0 u:=by
    refine⟨by omega,?_⟩;cases u with
    | none=>exact .inl rfl
    | some y =>
     right;obtain⟨s,b⟩:=y;have lv:(s,b)∈jB (bW rs rs.length) op.toNat:=lv;obtain⟨l1,l2⟩:=dM.mp lv;have all:∀t∈cR,(t.1=0\/t.1=1)/\0<=t.2/\t.2<8:=by decide
     have KN:=all _ l1;have zf:=(F6 hok hpl MJ KN.1 KN.2 (g6.mp l2) q' 0 rs[q'] (fO hq') (by omega) (by rw[<- eq];simp)).1 (.inl (aH _));have hin:b∈cL rs q':=by
      unfold cL;rw[SN.iY λn hn=>?_]
      .exact aF.mpr ⟨(s,b),dM.mpr ⟨l1,g6.mpr zf⟩,rfl⟩
      .obtain⟨z,hz,rfl⟩:=aF.mp hn;exact(all z (dM.mp hz).1).2
     obtain⟨i,hi,e⟩:=pJ.mp hin;exact⟨s,b,i,rfl,aH _,by rw[fO hi,e]⟩
   rw[xQ hen];have:=xN rs q';omega
  .have e0:c8 rs q'=0:=by unfold c8;rw[if_neg hm]
   have hd':=Eg.on hr hq hm hd;rw[lU (λz=>by have:=z.1;omega),Ei hd'];have:=J3 hd' hq';have h1:=lS (fO hq');have h2:=qe rs[q'];omega
 have stay:∀{R:Row},R.gv=(λ_=>-1)->LeftOf R t u->u=t:=λ{R} hg l=>by
  cases t with
  | none=>exact l.2
  | some y =>
   rcases l.2 with⟨h,_⟩|⟨_,h,_⟩
   .exact h
   .rw[hg] at h;exact absurd (show(0:Int) <= -1 from h) (by decide)
 cases hw with
 | @look bb hm' hb' =>
  have yf:=(fu hb').1;have em:c8 rs p=(cL rs p).length+1:=by unfold c8;rw[if_pos hm']
  rw[next (by omega) (aA.mp w)];have eu:=stay rfl lf;subst eu;by_cases he:kO rs p k u
  .have he':kO rs p (k+1) u:=by
    refine⟨by omega,he.2.imp_right ?_⟩;rintro⟨s,b',i,rfl,hi,hib⟩;refine⟨s,b',i,rfl,?_,hib⟩;rcases aY k i with h|h
    .exact h
    .exfalso;obtain rfl:i=k:=by omega
     rw[hb'] at hib;cases hib;have h1:=lf.1;unfold Row.ends at h1;dsimp only at h1;rw[show uA (.str (Row.look bb ((x:Int)+1)).key) [.str "look", .str "out", .str "back"]=true from by show uA (.str "look") _=true;decide,show(Row.look bb ((x:Int)+1)).mS.headD 0=bb from rfl,decide_eq_true rfl] at h1;cases h1
   rw[xQ he,xQ he'];omega
  .have he':¬kO rs p (k+1) u:=λz=>he ⟨by omega,z.2.imp_right λ⟨s,b',i,h1,h2,h3⟩=>⟨s,b',i,h1,by omega,h3⟩⟩;rw[lU he,lU he'];omega
 | mark hm' e =>
  have em:c8 rs p=(cL rs p).length+1:=by unfold c8;rw[if_pos hm']
  rw[next (by omega) (aA.mp w)];have eu:=stay rfl lf;subst eu;have hne:¬kO rs p k u:=by
   rintro⟨_,h⟩;rcases h with rfl|⟨s,b',i,rfl,hi,hib⟩
   .have h1:=lf.1;rw[show(Row.mark ((x:Int)+1)).ends none=true from by show uA (.str "mark") _=true;decide] at h1;cases h1
   .have:=(fu hib).1;omega
  rw[lU hne,lU (λz=>by have:=z.1;omega)];omega
 | own hd' e =>
  rw[(jC (gR rs) r).2.2.2] at w;exact J6 (λz=>by have:=z.1;omega) w
 | one hd' e h1 h2 h3 h4 _ =>
  have ho:r.own=2:=by unfold Row.own;rw[if_pos hd']
  rw[h4] at w;rw[next (by omega) (aA.mp w),lU (λz=>by have:=z.1;omega),lU (λz=>by have:=z.1;omega)];omega
 | two hd' e h1 h2 h3 h4 _ =>
  rw[h4] at w;exact J6 (λz=>by have:=z.1;omega) w
end
section
variable {P:Program}{w:World}{K:aD}{mg:Str->Option Value}{base:Heap}
def Row.iN(p:Int):Row->Bool
 | .look _ q=>decide (q=p+1)|.mark q=>decide (q=p+1)|_=>false
def Ek(K:aD):Sp:=λvs H Q _=>∃(c:Addr)(p:Nat)(us:List V)(rs:List Row)(r:Row),vs=[.ref c,.int p]/\H c=some (.lst us)/\Rows H us rs/\rs[p]?=some r/\∀H',aB H H'->Q (.bl (r.iN p)) H'
def F7(T:Txt w K mg):b7 P w K mg base gT 1 T.xq.f T.xq.d ["code", "place"] (Ek K):=by
 refine T.xq.F.ok vN (λvs H Q E h=>?_) (λcdv A outer s H vs Q E hr h=>?_)
 .obtain⟨c,p,us,rs,r,rfl,_⟩:=h;rfl
 obtain⟨c,p,us,rs,r,rfl,hc,hrs,hr',q⟩:=h;refine⟨_,(nP (cN (wD (GS CJ iz af (pv 1) (aT bI rfl T.eS BT.eO (aa (pv 0) ai))))
 (au (aJ yj))
 bu)
 (ak (aE (i:=2) vN.nd rfl (ao rfl) (aS bL (pv 0) (pv 1) (λ_ _=>rfl)))
 (au (aJ (A5 (gH gW (aS cO (pv 2) af (λ_ _=>rfl)) (bB (aa bz (aa bz ai))) (by with_unfolding_all rfl)) (r6 (gH dW (aS cO (pv 2) (lC jc af) (λ_ _=>rfl)) (ay aZ (pv 1) af) (aM _)))))))),?_⟩
 show(_:TS) (Ends.mk _ _ _ _) [_,_,_] H;have hl:=hrs.length;have hp:p<rs.length:=(fu hr').1;obtain⟨ra,hat,tH⟩:=oY hrs hr';walk_at "start";walk_at "go";refine cJ (bE.of hc) hat ?_;cases r
 all_goals simp only[Row.vals,Row.key,Row.rest] at tH
 all_goals simp only[Row.iN] at q
 all_goals walk_at "go"
 all_goals exact q _ (by walk_at "same")
def xS(p x:Int):Int:=if p<x then x-1 else x
def qG(rs:List Row)(n:Nat)(lo hi:Option Int):List Row:=(rs.drop (HT.dB n 0 lo)).take (HT.dB n n hi-HT.dB n 0 lo)
theorem Paired.take'{F:α->β->Prop}:∀{xs:List α}{ys:List β}(n:Nat),Paired F xs ys->Paired F (xs.take n) (ys.take n)
 | _,_,0,_=>.nil
 | _,_,_+1,.nil=>.nil
 | _,_,n+1,.cons h t=>.cons h (Paired.take' n t)
theorem Paired.drop'{F:α->β->Prop}:∀{xs:List α}{ys:List β}(n:Nat),Paired F xs ys->Paired F (xs.drop n) (ys.drop n)
 | _,_,0,h=>h
 | _,_,_+1,.nil=>.nil
 | _,_,n+1,.cons _ t=>Paired.drop' n t
theorem Paired.app'{F:α->β->Prop}:∀{xs xs':List α}{ys ys':List β},Paired F xs ys->Paired F xs' ys'->Paired F (xs++xs') (ys++ys')
 | _,_,_,_,.nil,h=>h
 | _,_,_,_,.cons a t,h=>.cons a (Paired.app' t h)
def pB(h:Rows H us rs)(lo hi:Option Int):Rows H (iP us lo hi) (qG rs us.length lo hi):=Paired.take' _ (Paired.drop' _ h)
def J8{n:Nat}{lo hi:Option Int}(h:r∈qG rs n lo hi):r∈rs:=List.mem_of_mem_drop (List.mem_of_mem_take h)
def iJ(rs:List Row)(p:Int):List Row:=(qG rs rs.length none (some p)++qG rs rs.length (some (p+1)) none).map (Row.cU (xS p))
def v8(K:aD):Sp:=λvs H Q _=>∃(c:Addr)(p:Nat)(us:List V)(rs:List Row),vs=[.ref c,.int p]/\H c=some (.lst us)/\Rows H us rs/\rs.length<=1000/\(∀r∈rs,r.ok rs.length) /\
 ∀c' us' H1 H',aB H H1->fh H1 c' (.lst us') H'->Rows H' us' (iJ rs p)->Q (.ref c') H'
def ud(T:Txt w K mg):b7 P w K mg base gT 2 T.without.f T.without.d ["code", "place"] (v8 K):=by
 refine T.without.F.ok sZ (λvs H Q E h=>?_) (λcdv A outer s H vs Q E hr h=>?_)
 .obtain⟨c,p,us,rs,rfl,_⟩:=h;rfl
 obtain⟨c,p,us,rs,rfl,hc,hrs,hl,hok,q⟩:=h;refine⟨_,(ak (aE (i:=2) sZ.nd rfl (cg rfl) (cP (bD.caps (x := "other") (fr:=["place"]) (ix:=[1]) (nm:=["place"]) rfl rfl (by decide +kernel) rfl (by decide +kernel) rfl (by decide +kernel) ⟨rfl,trivial⟩ rfl (by decide +kernel) rfl ⟨⟨rfl,rfl,rfl⟩,trivial⟩) (dw rfl T.eW (aa (aT bI rfl T.eS BT.eO (aa (pv 0) ai)) ai)) (λ_ _ _ _=>cQ) (λ_ _ _ _=>(f7 (aG yl (pv 0) (pv 1) (aM _)) (ay iI (pv 0) af) (pv 0)))))
 (au (aJ (cP (bD.caps (x := "row") (fr:=["moved"]) (ix:=[2]) (nm:=["moved"]) rfl rfl (by decide +kernel) rfl (by decide +kernel) rfl (by decide +kernel) ⟨rfl,trivial⟩ rfl (by decide +kernel) rfl ⟨⟨rfl,rfl,rfl⟩,trivial⟩) (cI (ay su (c7 kr (pv 0) eV (dX (pv 1))) (c7 kr (pv 0) (dX (ay aZ (pv 1) af)) eV))) (λ_ _ _ _=>cQ) (λ_ _ _ _=>(aP T.j3 (oX T) hr (aa (pv 0) (aa (pv 1) ai)))))))),?_⟩
 show(_:TS) (Ends.mk _ _ _ _) [_,_,_] H;have qw:=hrs.length;walk_at "start";walk_at "go";refine ia (λi ys H'=>H'=H/\ys=((List.range i).map λj:Nat=>V.int (xS p j))) ⟨rfl,rfl⟩ ?_ ?_
 .rintro i ys H' hi ⟨rfl,rfl⟩;refine⟨bU (by rw[av,gU];omega),?_⟩;have e:∀z:Int,z=xS p i->(List.range i).map (λj:Nat=>V.int (xS p j))++[.int z]=(List.range (i+1)).map (λj:Nat=>V.int (xS p j)):=λz e=>by rw[m9,bF,e];rfl
  walk_at "go"
  .rename_i h;exact⟨rfl,e _ (by rw[xS,if_pos (by omega)];omega)⟩
  .rename_i h;exact⟨rfl,e _ (by rw[xS,if_neg (by omega)];omega)⟩
 rintro ys H' ⟨rfl,rfl⟩ m H2 n2;have hc2:=n2.keep hc;have c1:=fG us none (some (p:Int));have c2:=fG us (some ((p:Int)+1)) none;walk_at "go";rename_i l3 H3 n3 l4 H4 n4 l5 H5 n5;have U7:aB H' H5:=by walk_at "same"
 have gB:=hrs.same U7;refine DP (rs:=qG rs rs.length none (some p)++qG rs rs.length (some (p+1)) none) (Row.cU (xS p)) (bE.of n5.self) ?_ (by rw[aR];omega) ?_ ?_
 .have k1:=pB gB none (some (p:Int));have k2:=pB gB (some ((p:Int)+1)) none;rw[qw] at k1 k2;exact Paired.app' k1 k2
 .intro r hr' ra H6 s6 tH Q h;have hr':r∈rs:=by rcases aO.mp hr' with h|h<;>exact J8 h
  have hm:H6 m=some (.lst ((List.range (us.length:Int).toNat).map λj:Nat=>V.int (xS p j))):=s6 _ _ (by walk_at "look");walk_at "go";refine⟨ra,m,r,_,xS p,rfl,tH,hm,λz hz=>?_,λt H7 s7 ht=>h t H7 s7 ht⟩;have hz:=Row.ir (hok r hr') z hz;have e:z=((z.toNat:Nat):Int):=by omega
  rw[e];refine fP ?_;rw[bw,pG (by omega)];rfl
 .intro us' p' H6 H7 s6 n7 ue;exact q p' us' H6 H7 (U7.trans s6) n7 ue
end
def J9(hp:p<rs.length):iJ rs (p:Int)=(rs.take p++rs.drop (p+1)).map (Row.cU (xS p)):=by
 have e1:qG rs rs.length none (some (p:Int))=rs.take p:=by unfold qG;rw[show HT.dB rs.length 0 none=0 from rfl,show HT.dB rs.length rs.length (some (p:Int))=p by rw[HT.qI];omega];rfl
 have e2:qG rs rs.length (some ((p:Int)+1)) none=rs.drop (p+1):=by unfold qG;rw[show HT.dB rs.length rs.length none=rs.length from rfl,show HT.dB rs.length 0 (some ((p:Int)+1))=p+1 by rw[show(p:Int)+1=((p+1:Nat):Int) by omega,HT.qI];omega];rw[List.take_of_length_le (by rw[rT];exact az _)]
 unfold iJ;rw[e1,e2]
def rm(hp:p<rs.length):(iJ rs (p:Int)).length=rs.length-1:=by rw[J9 hp,av,aR,cF,rT];omega
structure xT (rs:List Row) (n:Nat):Prop where
 ok:∀r∈rs,r.ok rs.length
 ne:rs≠[]
 len:rs.length<=n
def Q2(hok:∀r∈rs,r.ok rs.length)(hr:rs[p]?=some r)(hc:r.iN p=true):p+1<rs.length:=by
 have J5:=hok r (fB hr);cases r with
 | look i q =>
  have e:q=(p:Int)+1:=of_decide_eq_true hc;have:=J5.2.2;omega
 | mark q =>
  have e:q=(p:Int)+1:=of_decide_eq_true hc;have:=J5.2;omega
 | _=>cases hc
def xT.out{n:Nat}{r:Row}(h:xT rs n)(hr:rs[p]?=some r)(hc:r.iN p=true):xT (iJ rs (p:Int)) n:=by
 have hp:=Q2 h.ok hr hc;have hl:=rm (rs:=rs) (p:=p) (by omega);refine⟨λR hR=>?_,λz=>by rw[z] at hl;have:0=rs.length-1:=hl;omega,by have:=h.len;omega⟩;rw[hl];rw[J9 (by omega)] at hR;obtain⟨r',hr',rfl⟩:=aF.mp hR;have hm:r'∈rs:=by
  rcases aO.mp hr' with h|h
  .exact rX _ _ h
  .exact List.drop_subset _ _ h
 refine pA (h.ok r' hm) λq hq=>?_;have h1:=hq.1;have h2:=hq.2;unfold xS;split<;>exact⟨by omega,by omega⟩
def gS(m:Option Int)(n:Int):Bool:=match m with
 | none=>false
 | some d=>decide (d<=n)
def Ak(n:Int):Nat->List Row->Nat->List Row
 | 0,rs,_=>rs
 | k+1,rs,p=>match rs[p]? with
  | none=>rs
  | some r=>if r.iN p&&gS (dF (iJ rs (p:Int))) n then Ak n k (iJ rs (p:Int)) p else Ak n k rs (p+1)
def xU(hr:rs[p]?=some r):Ak n (k+1) rs p=if r.iN p&&gS (dF (iJ rs (p:Int))) n then Ak n k (iJ rs (p:Int)) p else Ak n k rs (p+1):=by show(match rs[p]? with|none=>rs|some r=>if r.iN p&&gS (dF (iJ rs (p:Int))) n then Ak n k (iJ rs (p:Int)) p else Ak n k rs (p+1))=_;rw[hr]
def Cs(hp:rs.length<=p):Ak n k rs p=rs:=by
 cases k with
 | zero=>rfl
 | succ k =>
  show(match rs[p]? with|none=>rs|some r=>if r.iN p&&gS (dF (iJ rs (p:Int))) n then Ak n k (iJ rs (p:Int)) p else Ak n k rs (p+1))=_;rw[jH hp]
def dJ(n:Int)(rs:List Row):List Row:=Ak n rs.length rs 0
def qh(n:Int)(rs:List Row):Prop:=gS (dF rs) n=true
def Al:∀(k:Nat)(rs:List Row)(p:Nat),xT rs m->qh n rs->xT (Ak n k rs p) m/\qh n (Ak n k rs p)/\(Ak n k rs p).length<=rs.length:=by
 intro k;induction k with
 | zero=>intro rs p h hs;exact⟨h,hs,az _⟩
 | succ k ih =>
  intro rs p h hs;rcases aY p rs.length with hp|hp
  .have hr:rs[p]?=some rs[p]:=fO hp;rw[xU hr];by_cases hc:(rs[p].iN p&&gS (dF (iJ rs (p:Int))) n)=true
   .rw[if_pos hc];have hc2:=Bool.and_eq_true_iff.mp hc;have hl:=rm (rs:=rs) (p:=p) hp;obtain⟨a,b,c⟩:=ih (iJ rs (p:Int)) p (h.out hr hc2.1) hc2.2;exact⟨a,b,by omega⟩
   .rw[if_neg hc];exact ih rs (p+1) h hs
  .rw[Cs hp];exact⟨h,hs,az _⟩
def e8(n:Int):Nat->List Row->List Row
 | 0,rs=>dJ n rs
 | k+1,rs=>if(dJ n rs).length<rs.length then e8 n k (dJ n rs) else dJ n rs
def MK:∀(k:Nat)(rs:List Row),xT rs m->qh n rs->xT (e8 n k rs) m/\qh n (e8 n k rs)/\(e8 n k rs).length<=rs.length:=by
 intro k;induction k with
 | zero=>intro rs h hs;exact Al _ rs 0 h hs
 | succ k ih =>
  intro rs h hs;obtain⟨a,b,c⟩:=Al (n:=n) rs.length rs 0 h hs;have e:e8 n (k+1) rs=if(dJ n rs).length<rs.length then e8 n k (dJ n rs) else dJ n rs:=rfl
  rw[e];by_cases hl:(dJ n rs).length<rs.length
  .rw[if_pos hl];obtain⟨a',b',c'⟩:=ih (dJ n rs) a b;exact⟨a',b',by omega⟩
  .rw[if_neg hl];exact⟨a,b,c⟩
def oV:Option Int->V
 | none=>.cY
 | some m=>.int m
section
variable {P:Program}{w:World}{K:aD}{mg:Str->Option Value}{base:Heap}
def Ka:Sp:=λvs H Q _=>∃(c:Addr)(us:List V)(rs:List Row),vs=[.ref c]/\H c=some (.lst us)/\Rows H us rs/\(∀r∈rs,r.ok rs.length)/\rs.length<=200/\rs≠[]/\∀H',aB H H'->Q (oV (dF rs)) H'
def qi(T:Txt w K mg):b7 P w K mg base gT 7 T.delay.f T.delay.d ["code"] Ka :=
 (Ae (P:=P) (w:=w) (base:=base) T).imp λvs H Q E ⟨c,us,rs,h1,h2,h3,h4,h5,h6,q⟩=>⟨c,us,rs,h1,h2,h3,h4,h5,h6,λ_ _=>⟨λH' s no=>by have:=q H' s;rw[v7 no] at this;exact this,λm H' s d=>by have:=q H' s;rw[qd d] at this;exact this⟩⟩
def Q3:Sp:=λvs H Q _=>∃(m:Option Int)(n:Int),vs=[oV m,.int n]/\Q (.bl (gS m n)) H
def uf(T:Txt w K mg):b7 P w K mg base gT 1 T.oR.f T.oR.d ["found", "number"] Q3:=by
 refine T.oR.F.ok B4 (λvs H Q E h=>?_) (λcdv A outer s H vs Q E hr h=>?_)
 .obtain⟨m,n,rfl,_⟩:=h;rfl
 obtain⟨m,n,rfl,q⟩:=h;refine⟨_,(au (aJ (A5 (gH yE (pv 0) nh (aM _)) (r6 (gH CJ (pv 0) (pv 1) (aM _)))))),?_⟩;cases m with
 | none =>
  show(_:TS) (Ends.mk _ _ _ _) [some V.cY,some (V.int n)] H;walk_at "start";walk_at "go";exact q
 | some d =>
  show(_:TS) (Ends.mk _ _ _ _) [some (V.int d),some (V.int n)] H;walk_at "start";walk_at "go";exact q
def Q4:Sp:=λvs H Q _=>∃(c:Addr)(us:List V)(rs:List Row)(n:Int),vs=[.ref c,.int n]/\H c=some (.lst us)/\Rows H us rs/\xT rs 200 /\
 ∀(g:Addr)(vs:List V)(H':Hp),aB H H'->H g=none->H' g=some (.lst vs)->Rows H' vs (dJ n rs)->Q (.ref g) H'
def kU(T:Txt w K mg):b7 P w K mg base gT 9 T.gK.f T.gK.d ["code", "number"] Q4:=by
 refine T.gK.F.ok eZ (λvs H Q E h=>?_) (λcdv A outer s H vs Q E hr h=>?_)
 .obtain⟨c,us,rs,n,rfl,_⟩:=h;rfl
 obtain⟨c,us,rs,n,rfl,hc,rows,ht,q⟩:=h;refine⟨_,(ak (aE (i:=2) eZ.nd rfl (ao rfl) (dz nu rfl T.tD BT.sD (aa (pv 0) ai)))
 (ak (aE (i:=3) eZ.nd rfl (ao rfl) af)
 (ak (jV bX (aG iz (pv 3) (aT bI rfl T.eS BT.eO (aa (pv 2) ai)) (aM _))
 (au (Ht (PW.pt (kj (rY (aP T.xq (F7 T) hr (aa (pv 2) (aa (pv 3) ai)))) (jv (rY (aP T.oR (uf T) hr (aa (aP T.delay (qi T) hr (aa (aP T.without (ud T) hr (aa (pv 2) (aa (pv 3) ai))) ai)) (aa (pv 1) ai)))))))
 (au (aE (i:=2) eZ.nd rfl (ao rfl) (aP T.without (ud T) hr (aa (pv 2) (aa (pv 3) ai)))))
 (au (A6 (i:=3) eZ.nd rfl (ao rfl) af A7)))))
 (au (aJ (pv 2)))))),?_⟩
 show(_:TS) (Ends.mk _ _ _ _) [_,_,_,_] H;walk_at "start";walk_at "go";rename_i l H1 n1;refine l8 (λk σ' H'=>∃l vs rs' p,σ'=[some (.ref c),some (.int n),some (.ref l),some (.int ((p:Nat):Int))]/\aB H H'/\H l=none/\H' l=some (.lst vs)/\Rows H' vs rs'/\xT rs' 200/\p<=rs'.length/\Ak n (rs'.length-p) rs' p=dJ n rs/\k=rs'.length-p) ?_ ?_
 .exact⟨_,l,us,rs,0,rfl,n1.same,n1.1,n1.self,rows.same n1.same,ht,aH _,rfl,rfl⟩
 clear n1;rintro k σ' H2 ⟨l,vs,rs',p,rfl,s2,fl,hl2,gC,KU,hp2,hg,rfl⟩;have hvl:=gC.length;have hln:=KU.len;walk_at "go"
 .rename_i hlt;have hp:p<rs'.length:=by omega
  obtain⟨r,hr'⟩:∃r,rs'[p]?=some r:=⟨_,fO hp⟩;obtain⟨k,ek⟩:∃k,rs'.length-p=k+1:=⟨rs'.length-p-1,by omega⟩;rw[ek,xU hr'] at hg;refine NB (λH'=>aB H2 H'/\(r.iN p&&gS (dF (iJ rs' (p:Int))) n)=true) (λH'=>aB H2 H'/\¬(r.iN p&&gS (dF (iJ rs' (p:Int))) n)=true) ?_ ?_ ?_
  .walk_at "go";refine⟨l,p,vs,rs',r,rfl,hl2,gC,hr',λH3 s3=>?_⟩;have hl3:=s3 _ _ hl2;have fN:=gC.same s3;cases hcg:r.iN p with
   | false =>
    walk_at "go";exact⟨s3,by simp⟩
   | true =>
    have ho:=KU.out hr' hcg;have yc:=ho.len;walk_at "go";refine⟨l,p,vs,rs',rfl,hl3,fN,by omega,KU.ok,λc' us' H4 H5 s4 n5 gB=>?_⟩;have KY:=s4.trans n5.same;have hc5:=n5.self;clear n5 s4;walk_at "go";refine⟨c',us',iJ rs' (p:Int),rfl,hc5,gB,ho.ok,yc,ho.ne,λH6 s6=>?_⟩;walk_at "go";refine⟨_,n,rfl,?_⟩;have s26:=(s3.trans KY).trans s6;cases U8:gS (dF (iJ rs' (p:Int))) n with
    | false =>
     show wQ _ (.bl false) H6;walk_at "go";exact⟨s26,by simp⟩
    | true =>
     show wQ _ (.bl true) H6;walk_at "go";exact⟨s26,by simp⟩
  .rintro H3 ⟨s3,hc⟩;rw[if_pos hc] at hg;have hcg:=(Bool.and_eq_true_iff.mp hc).1;have ho:=KU.out hr' hcg;have yc:=rm (rs:=rs') (p:=p) hp;have hl3:=s3 _ _ hl2;have fN:=gC.same s3;walk_at "go";refine⟨l,p,vs,rs',rfl,hl3,fN,by omega,KU.ok,λc' us' H4 H5 s4 n5 gB=>?_⟩;have Mg:=(s2.trans s3).trans s4;refine⟨_,?_,c',us',iJ rs' (p:Int),p,rfl,Mg.trans n5.same,Mg.free n5.1,n5.self,gB,ho,by omega,?_,rfl⟩
   .omega
   .rw[<- hg,show(iJ rs' (p:Int)).length-p=k by omega]
  .rintro H3 ⟨s3,hc⟩;rw[if_neg hc] at hg;walk_at "go";refine⟨_,?_,l,vs,rs',p+1,by simp,s2.trans s3,fl,s3 _ _ hl2,gC.same s3,KU,hp,?_,rfl⟩
   .omega
   .rw[<- hg,show rs'.length-(p+1)=k by omega]
 .rename_i hge;rw[Cs (by omega)] at hg;exact q l vs H2 s2 fl hl2 (by rw[<- hg];exact gC)
def Q5:Sp:=λvs H Q _=>∃(c:Addr)(us:List V)(rs:List Row)(n:Int),vs=[.ref c,.int n]/\H c=some (.lst us)/\Rows H us rs/\xT rs 200/\qh n rs /\
 ∀(g:Addr)(vs:List V)(H':Hp),aB H H'->H g=none->H' g=some (.lst vs)->Rows H' vs (e8 n rs.length rs)->Q (.ref g) H'
def El(T:Txt w K mg):b7 P w K mg base gT 10 T.Jd.f T.Jd.d ["code", "number"] Q5:=by
 refine T.Jd.F.ok mh (λvs H Q E h=>?_) (λcdv A outer s H vs Q E hr h=>?_)
 .obtain⟨c,us,rs,n,rfl,_⟩:=h;rfl
 obtain⟨c,us,rs,n,rfl,hc,rows,ht,U8,q⟩:=h;refine⟨_,(ak (aE (i:=2) mh.nd rfl (ao rfl) (aP T.delay (qi T) hr (aa (pv 0) ai)))
 (ak (cN (wD (rY (aP T.oR (uf T) hr (aa (pv 2) (aa (pv 1) ai)))))
 (au GI)
 bu)
 (ak (aE (i:=3) mh.nd rfl (ao rfl) (pv 0))
 (ak (aE (i:=4) mh.nd rfl (ao rfl) (aP T.gK (kU T) hr (aa (pv 3) (aa (pv 1) ai))))
 (ak (jV bX (aG iz (aT bI rfl T.eS BT.eO (aa (pv 4) ai)) (aT bI rfl T.eS BT.eO (aa (pv 3) ai)) (aM _))
 (ak (aE (i:=3) mh.nd rfl (ao rfl) (pv 4))
 (au (aE (i:=4) mh.nd rfl (ao rfl) (aP T.gK (kU T) hr (aa (pv 3) (aa (pv 1) ai)))))))
 (au (aJ (pv 4)))))))),?_⟩
 show(_:TS) (Ends.mk _ _ _ _) [_,_,_,_,_] H;walk_at "start";walk_at "go";refine⟨c,us,rs,rfl,hc,rows,ht.ok,ht.len,ht.ne,λH1 s1=>?_⟩;have hc1:=s1 _ _ hc;have gD:=rows.same s1;walk_at "go";refine⟨_,n,rfl,?_⟩;rw[show gS (dF rs) n=true from U8];show wQ _ (.bl true) H1;walk_at "go";refine⟨c,us,rs,n,rfl,hc1,gD,ht,λg vs H2 s2 fg hg gC=>?_⟩;have hc2:=s2 _ _ hc1;have Q6:=s1.trans s2;have fg0:=s1.free fg;obtain⟨t2,sn2,l2⟩:=Al (n:=n) rs.length rs 0 ht U8;walk_at "go";refine l8 (λk σ' H'=>∃y l vs gl ws ls fs,σ'=[some (.ref c),some (.int n),y,some (.ref l),some (.ref gl)]/\aB H H'/\H' l=some (.lst vs)/\vs.length=ls.length/\H gl=none/\H' gl=some (.lst ws)/\Rows H' ws fs/\fs=dJ n ls/\xT fs 200/\qh n fs/\fs.length<=ls.length/\ls.length<=200/\e8 n k ls=e8 n rs.length rs/\ls.length<=k/\ls≠[]) ?_ ?_
 .exact⟨rs.length,_,c,us,g,vs,rs,dJ n rs,rfl,Q6,hc2,rows.length,fg0,hg,gC,rfl,t2,sn2,l2,ht.len,rfl,az _,ht.ne⟩
 clear Q6 hc2 fg0 t2 sn2 l2 hg gC s2 hc1 gD s1;rintro k σ' H3 ⟨y,l,vs,gl,ws,ls,fs,rfl,s3,hl3,hvl,fgl,Q7,fN,Wy,t3,sn3,hle,abF,GA,yf,ZC⟩;have hwl:=fN.length;walk_at "go"
 .rename_i hlt;refine⟨gl,ws,fs,n,rfl,Q7,fN,t3,λg2 Q8 H4 s4 Ox Rz j7=>?_⟩;obtain⟨t4,Oz,l4⟩:=Al (n:=n) fs.length fs 0 t3 sn3;have hlp:=List.length_pos_iff.mpr ZC;obtain⟨k',rfl⟩:∃i,k=i+1:=⟨k-1,by omega⟩;have hlt':(dJ n ls).length<ls.length:=by rw[<- Wy];omega
  have e1:e8 n (k'+1) ls=e8 n k' fs:=by show(if(dJ n ls).length<ls.length then e8 n k' (dJ n ls) else dJ n ls)=_;rw[if_pos hlt',Wy]
  walk_at "go";exact⟨k',by omega,_,gl,ws,g2,Q8,fs,dJ n fs,rfl,s3.trans s4,s4 _ _ Q7,hwl,s3.free Ox,Rz,j7,rfl,t4,Oz,l4,t3.len,by rw[<- e1];exact GA,by omega,t3.ne⟩
 .rename_i hge;refine q gl ws H3 s3 fgl Q7 ?_;rw[<- GA];have hnl:¬(dJ n ls).length<ls.length:=by rw[<- Wy];omega
  have e1:e8 n k ls=dJ n ls:=by
   cases k with
   | zero=>rfl
   | succ k =>
    show(if(dJ n ls).length<ls.length then e8 n k (dJ n ls) else dJ n ls)=_;rw[if_neg hnl]
  rw[e1,<- Wy];exact fN
def ML:Sp:=λvs H Q _=>∃(p:Addr)(us:List V)(rs:List Row),vs=[.ref p]/\H p=some (.lst us)/\Rows H us rs/\(∀r∈rs,r.ok rs.length)/\rs.length<=200 /\
 ∀(d:Addr)(kvs:List (Key×V))(H':Hp),aB H H'->H d=none->H' d=some (.dK kvs)->o9 H' rs kvs->Q (.ref d) H'
def Kc(T:Txt w K mg):b7 P w K mg base gT 5 T.looks.f T.looks.d ["code"] ML:=by
 refine T.looks.F.ok zF (λvs H Q E h=>?_) (λcdv A outer s H vs Q E hr h=>?_)
 .obtain⟨p,us,rs,rfl,_⟩:=h;rfl
 obtain⟨p,us,rs,rfl,hp,hrs,hok,hn,q⟩:=h;refine⟨_,(ak (aE (i:=1) zF.nd rfl (cg rfl) (aP T.live (DT T) hr (aa (pv 0) ai)))
 (au (aJ (dz (yM rfl) rfl T.B7 BT.Bk (aa (cP (bD.caps (x := "place") (fr:=["lively"]) (ix:=[1]) (nm:=["lively"]) rfl rfl (by decide +kernel) rfl (by decide +kernel) rfl (by decide +kernel) ⟨rfl,trivial⟩ rfl (by decide +kernel) rfl ⟨⟨rfl,rfl,rfl⟩,trivial⟩) (cI (aP T.meets (Jz T) hr (aa (pv 0) ai))) (λ_ _ _ _=>cQ) (λ_ _ _ _=>(bB (aa (pv 0) (aa (aT (y9 (w:=w) rfl rfl) rfl T.oS BT.nV (aa (dz (BN (K:=K) (w:=w) rfl rfl rfl) rfl T.Je BT.CW (aa (cP (bD.plain rfl (by decide +kernel) (by decide +kernel) rfl (by decide +kernel) rfl) (HN (K:=K) rfl (aS (gJ (K:=K) rfl) (pv 1) (pv 0) (λ_ _=>rfl))) (λ_ _ _ _=>cQ) (λ_ _ _ _=>(aS (nR (K:=K) rfl) (pv 0) af (λ_ _=>rfl)))) ai)) ai)) ai))))) ai))))),?_⟩
 show(_:TS) (Ends.mk _ _ _ _) [_,_] H;walk_at "start";walk_at "go";refine⟨p,us,rs,rfl,hp,hrs,hok,hn,λlv as H1 s1 flv zf hal _ _ _ hL=>?_⟩;walk_at "go";refine⟨p,us,rs,rfl,s1 _ _ hp,hrs.same s1,hok,by omega,λmt H2 s2 _ hmt=>?_⟩;have Mp:=s2 _ _ zf;have Ny:vS H2 as rs:=λk a e=>let⟨vs,h1,h2⟩:=hL k a e;⟨vs,s2 _ _ h1,h2.same s2⟩;have s12:=s1.trans s2;clear s1 s2 zf hL;have mem:∀x∈fQ rs,∃j:Nat,x=(j:Int)/\j<rs.length/\dQ rs j=true:=λx hx=>by unfold fQ at hx;obtain⟨j,hj,rfl⟩:=aF.mp hx;obtain⟨h1,h2⟩:=dM.mp hj;exact⟨j,rfl,fX.mp h1,h2⟩
 have adQ:(fQ rs).length<=rs.length:=by unfold fQ;rw[av];exact bJ (i8 _ _) (by rw[gU];exact az _)
 walk_at "go";refine gI (xs:=(fQ rs).map V.int) (λi ys H'=>aB H2 H'/\∃ps:List (Key×V),sI H' ys ps/\ps.length=i/\∀(k:Nat)(x:Int),k<i->(fQ rs)[k]?=some x->∃b,ps[k]?=some (.inl x,.ref b)/\H' b=some (.lst ((cL rs x.toNat).map V.int))) ⟨aB.refl _,[],.nil,rfl,λk x h=>absurd h (gG _)⟩ ?_ ?_ ?_
 .rintro i ys H' _ ⟨s',_⟩;exact bE.of (s' _ _ hmt)
 .rintro i x ys H3 hx ⟨s3,ps,hP,hpl,hps⟩;rw[bw] at hx;obtain⟨x,hxi,rfl⟩:=di.mp hx;obtain⟨j,rfl,hj,hmj⟩:=mem x (fB hxi);have hil:=(fu hxi).1;have hyl:=g9 hP;refine⟨bU (by omega),?_⟩;obtain⟨a,ha⟩:∃a,as[j]?=some a:=⟨_,fO (by omega)⟩;obtain⟨vs,hvs,JF⟩:=Ny j a ha;have ZD:=s3 _ _ hvs;have ZE:=JF.same s3;have hvl:vs.length<=16:=by rw[JF.length];exact lP ..
  walk_at "go";refine cJ (bE.of (s3 _ _ Mp)) (v:=.ref a) (fP (by rw[bw,ha];rfl)) ?_;walk_at "go";refine gI (xs:=vs) (λk zs H'=>H'=H3/\zs=(((jB rs j).take k).map (·.2)).map V.int) ⟨rfl,rfl⟩ ?_ ?_ ?_
  .rintro k zs H' _ ⟨rfl,_⟩;exact bE.of ZD
  .rintro k y zs H' hy ⟨rfl,rfl⟩;obtain⟨t,htk,b,rfl,hb⟩:=br ZE hy;have RC:=lP rs j;refine⟨bU (by simp;omega),?_⟩;walk_at "go";refine⟨rfl,?_⟩;rw[cB,htk,bF,bF];rfl
  .rintro zs H' ⟨rfl,rfl⟩ l H4 n4;rw[JF.length,cG] at n4;have KP:∀b∈(jB rs j).map (·.2),0<=b/\b<8:=λb hb=>by
    obtain⟨t,ht,rfl⟩:=aF.mp hb;have all:∀t∈cR,0<=t.2/\t.2<8:=by decide
    exact all t (dM.mp ht).1
   have hl:=lP rs j;walk_at "go";refine P1 (bE.of n4.self) (by rw[av];omega) ?_;intro st H5 n5;walk_at "go";refine De n5.self KP ?_;intro so H6 n6;have hso:=n6.self;have Za:=(n4.same.trans n5.same).trans n6.same;clear n4 n5 n6;walk_at "go";rename_i tu H7 n7;have Qv:=Za.trans n7.same;refine⟨s3.trans Qv,ps++[(.inl (j:Int),.ref so)],?_,by simp[hpl],λk y hk hy=>?_⟩
   .refine cH (dH (λ_ _ ⟨t,e1,e2⟩=>⟨t,e1,Qv _ _ e2⟩) hP) ⟨tu,rfl,n7.self⟩
   .rcases aY k i with hlt|hge
    .obtain⟨b,h1,h2⟩:=hps k y hlt hy;exact⟨b,by rw[i7 (by omega)];exact h1,Qv _ _ h2⟩
    .have ek:k=i:=by omega
     subst ek;rw[hxi] at hy;cases hy;refine⟨so,?_,n7.keep hso⟩;rw[iF (by omega),hpl,Nat.sub_self];rfl
 .rintro ys H3 ⟨s3,ps,hP,hpl,hps⟩ l H4 n4;rw[av] at hpl hps;have hP4:sI H4 ys ps:=dH (λ_ _ ⟨t,e1,e2⟩=>⟨t,e1,n4.keep e2⟩) hP;walk_at "go";refine TJ (bE.of n4.self) hP4 ?_;intro d H5 n5;have s25:=(s3.trans n4.same).trans n5.same;walk_at "go";refine q d _ H5 (s12.trans s25) (s12.free ((s3.trans n4.same).free n5.1)) n5.self λj hj=>⟨λhm=>?_,λhm=>?_⟩
  all_goals
   have up:(fQ rs).Pairwise (· < ·):=by unfold fQ;rw[lq];exact List.Pairwise.imp (λh=>Int.ofNat_lt.mpr h) (List.Pairwise.sublist List.filter_sublist wu)
   have key:∀i,i<ps.length->∃x,(fQ rs)[i]?=some x/\(ps.getD i (.inl 0,.cY)).1=(.inl x:Key)/\∃b,(ps.getD i (.inl 0,.cY)).2=.ref b/\H3 b=some (.lst ((cL rs x.toNat).map V.int)):=λi hi=>by obtain⟨x,hx⟩:∃x,(fQ rs)[i]?=some x:=⟨_,fO (by omega)⟩;obtain⟨b,h1,h2⟩:=hps i x (by omega) hx;exact⟨x,hx,by rw[getD_at h1],b,by rw[getD_at h1],h2⟩
  .have hin:(j:Int)∈fQ rs:=by unfold fQ;exact aF.mpr ⟨j,dM.mpr ⟨fX.mpr hj,hm⟩,rfl⟩
   obtain⟨i,hi⟩:=fW.mp hin;have hil:=(fu hi).1;obtain⟨x,hx,hk,b,hb,hHb⟩:=key i (by omega);rw[hi] at hx;cases hx;rw[gF] at hHb;refine⟨b,?_,((n4.same.trans n5.same) _ _ hHb)⟩;have:=tZ (ks:=λi=>(ps.getD i (.inl 0,.cY)).1) (vs:=λi=>(ps.getD i (.inl 0,.cY)).2) (n:=ps.length) (λa c ha hc e=>?_) i (by omega)
   .rw[<- hk,<- hb];exact this
   .obtain⟨x1,h1,k1,_⟩:=key a ha;obtain⟨x2,h2,k2,_⟩:=key c hc;have e':(Sum.inl x1:Key)=Sum.inl x2:=k1.symm.trans (e.trans k2);cases e';exact qa (up.imp λh=>by omega) h1 h2
  .refine kT λi hi e=>hm ?_;obtain⟨x1,h1,k1,_⟩:=key i hi;have e':(Sum.inl x1:Key)=Sum.inl (j:Int):=k1.symm.trans e;cases e';obtain⟨j',e1,_,hm'⟩:=mem _ (fB h1);have:j'=j:=by omega
   rw[<- this];exact hm'
def MM:Sp:=λvs H Q _=>∃(p d:Addr)(us:List V)(rs:List Row)(kvs:List (Key×V)),vs=[.ref p,.ref d]/\H p=some (.lst us)/\Rows H us rs/\rs.length<=200/\H d=some (.dK kvs)/\o9 H rs kvs /\
 ∀(f:Addr)(H':Hp),aB H H'->H f=none->H' f=some (.lst ((List.range rs.length).map λp=>V.int (firstM rs p)))->Q (.ref f) H'
def qH(T:Txt w K mg):b7 P w K mg base gT 1 T.iV.f T.iV.d ["code", "looked"] MM:=by
 refine T.iV.F.ok cV (λvs H Q E h=>?_) (λcdv A outer s H vs Q E hr h=>?_)
 .obtain⟨p,d,us,rs,kvs,rfl,_⟩:=h;rfl
 obtain⟨p,d,us,rs,kvs,rfl,hp,hrs,hn,hd,hL,q⟩:=h;have cD:=T.jj.q;have cS:=T.vO.q;refine⟨_,(ak (aE (i:=2) cV.nd rfl (ao rfl) (dN ai))
 (ak (aE (i:=3) cV.nd rfl (ao rfl) af)
 (ak (eK bX rfl (kC rfl T.fM (aa (pv 0) ai)) (nj (n:=2) rfl (bG (aX (i:=4) cV.nd rfl (ao rfl)) (bG (aX (i:=5) cV.nd rfl (ao rfl)) gk)))
 (ak (fk (jx dS jr jt gz (pv 2) (aa (pv 3) ai)))
 (iR (cN (A4 (G9 (sC hr) (pv 4) (pv 1)))
 (au (A6 (i:=3) cV.nd rfl (ao rfl) (ay aZ (aT bI rfl T.eS BT.eO (aa (Li (sC hr) (pv 1) (pv 4) (λ_ _=>rfl)) ai)) af) A7))
 bu)
 (au (A6 (i:=3) cV.nd rfl (ao rfl) (f7 (aG gW (aS cO (pv 5) af (λ_ _=>rfl)) (gj (v:=.ref T.jj.a) rfl T.jj.c rfl) (by with_unfolding_all rfl)) (aT bI rfl T.eS BT.eO (aa (gj (v:=.ref T.vO.a) rfl T.vO.c rfl) ai)) af) A7)))))
 (au (aJ (pv 2)))))),?_⟩
 have qw:=hrs.length;show(_:TS) (Ends.mk _ _ _ _) [_,_,_,_,_,_] H;walk_at "start";walk_at "go";rename_i f H1 n1;have ff:=n1.1;have s1:=n1.same;have hf1:=n1.self;clear n1;refine sG (xs:=us) (λi σ' H'=>(∃x y,σ'=[some (.ref p),some (.ref d),some (.ref f),some (.int (firstM rs i)),x,y])/\aB H H'/\H' f=some (.lst ((List.range i).map λp=>V.int (firstM rs p)))) ?_ ?_ ?_ ?_
 .exact⟨⟨_,_,rfl⟩,s1,hf1⟩
 .rintro i σ' H' _ ⟨_,s',_⟩;exact bE.of (s' _ _ hp)
 .rintro i x t σ' H2 H3 hx ⟨⟨x0,y0,rfl⟩,s2,hf2⟩ n3;have hi:i<us.length:=(fu hx).1;obtain⟨r,hr',ra,rfl,tH⟩:=br hrs hx;have s3:=s2.trans n3.same;have K2:=n3.keep hf2;have Jr:=s3 _ _ hd;have Me:=s3 _ _ tH;have ht3:=n3.self;have hfl:((List.range i).map λp=>V.int (firstM rs p)).length=i:=by simp
  have hdf:d≠f:=aW hd ff;have ZF:ra≠f:=aW tH ff;clear n3 s2 hf2;obtain⟨Pz,Ny⟩:=hL i (by omega);walk_at "go";rename_i H4 p4;have s4:=p4.same s3 ff;have D3:H4 f=some (.lst ((List.range (i+1)).map λp=>V.int (firstM rs p))):=by rw[p4.self,m9,bF];rfl
  have Wm:=p4.keep hdf Jr;have adU:=p4.keep ZF Me;clear p4 Jr Me K2 s3 ht3;refine ql (λσ' H'=>H'=H4/\σ'=[some (.ref p),some (.ref d),some (.ref f),some (.int ((firstM rs i:Int)+c8 rs i)),some (.int (i:Int)),some (.ref ra)]) ?_ ?_
  .walk_at "go";by_cases hm:dQ rs i=true
   .obtain⟨a,e1,e2⟩:=Pz hm;have Uc:=s4 _ _ e2;rw[e1,if_pos (show(some (V.ref a)).isSome=true from rfl)];walk_at "go";refine Tr Wm e1 ?_;walk_at "go";refine⟨rfl,?_⟩;unfold c8;rw[if_pos hm,av];have:(firstM rs i:Int)+((cL rs i).length+1:Int)=(firstM rs i:Int)+(((cL rs i).length+1:Nat):Int):=by omega
    rw[this]
   .rw[Ny hm,if_neg (by decide)];walk_at "go";refine⟨rfl,?_⟩;unfold c8;rw[if_neg hm];simp
  rintro _ _ ⟨rfl,rfl⟩;have hdi:=qX r;have eN:firstM rs (i+1)=firstM rs i+(c8 rs i+r.own):=by rw[firstM];unfold gc;rw[hr'];rfl
  walk_at "go";rw[hdi];cases qq:r.gE with
  | true =>
   rw[if_pos rfl];walk_at "go";refine⟨⟨some (.int (i:Int)),some (.ref ra),?_⟩,s4,D3⟩;have:(firstM rs (i+1):Int)=(firstM rs i:Int)+(c8 rs i:Int)+2:=by rw[eN];unfold Row.own;rw[qq,if_pos rfl];omega
   rw[this]
   first|rfl|skip
  | false =>
   rw[if_neg (by decide)];walk_at "go";refine⟨⟨some (.int (i:Int)),some (.ref ra),?_⟩,s4,D3⟩;have:(firstM rs (i+1):Int)=(firstM rs i:Int)+(c8 rs i:Int)+1:=by rw[eN];unfold Row.own;rw[qq,if_neg (by decide)];omega
   rw[this]
 .rintro σ' H2 ⟨⟨x0,y0,rfl⟩,s2,hf2⟩;walk_at "go";rw[qw] at hf2;exact q f H2 s2 ff hf2
def F8:Sp:=λvs H Q _=>∃(a:Addr)(r:Row)(q:Int),vs=[.ref a,.int q]/\H a=some (.tup r.vals)/\∀(l:Addr)(us:List V)(H':Hp),aB H H'->H l=none->H' l=some (.lst us)->Rows H' us (r.dbl q)->Q (.ref l) H'
def Ct(T:Txt w K mg):b7 P w K mg base gT 1 T.doubled.f T.doubled.d ["row", "place"] F8:=by
 refine T.doubled.F.ok B5 (λvs H Q E h=>?_) (λcdv A outer s H vs Q E hr h=>?_)
 .obtain⟨a,r,q,rfl,_⟩:=h;rfl
 obtain⟨a,r,q1,rfl,ha,q⟩:=h;have cD:=T.jj.q;refine⟨_,(ak (cN (aG nM (aS cO (pv 0) af (λ_ _=>rfl)) (gj (v:=.ref T.jj.a) rfl T.jj.c rfl) (by with_unfolding_all rfl))
 (au (aJ (dN (aa (pv 0) ai))))
 bu)
 (au (aJ (dN (aa (ay jw (ay jw (ay jw (c7 kq (pv 0) eV (dX af)) (bB (aa af ai))) (c7 kq (pv 0) (dX af) (dX (lC jc af)))) (bB (aa (ay aZ (pv 1) af) ai))) (aa (ay jw (ay jw (c7 kq (pv 0) eV (dX af)) (bB (aa af ai))) (c7 kq (pv 0) (dX af) eV)) ai)))))),?_⟩
 show(_:TS) (Ends.mk _ _ _ _) [_,_] H;walk_at "start";cases r with
 | num d k v p =>
  simp only[Row.vals,Row.key,Row.rest] at ha;walk_at "go";refine je (cM.of ha) (by show ¬(HT.dB 5 0 none=0/\HT.dB 5 5 (some 1)=5);decide) ?_;intro p1 H1 n1
  replace n1:fh H p1 (.tup [.str "num"]) H1:=n1
  walk_at "go";rename_i p2 H2 n2;refine fj (cM.of (n2.keep n1.self)) (cM.of n2.self) (by simp) (by simp) (eU rfl) ?_;intro p3 H3 n3;have s3:=(n1.same.trans n2.same).trans n3.same;have KW:=s3 _ _ ha;walk_at "go";refine je (cM.of KW) (by show ¬(HT.dB 5 0 (some 2)=0/\HT.dB 5 5 (some (-1))=5);decide) ?_;intro p4 H4 n4
  replace n4:fh H3 p4 (.tup [.int k,.int v]) H4:=n4
  refine fj (cM.of (n4.keep n3.self)) (cM.of n4.self) (by simp) (by simp) (eU rfl) ?_;intro p5 H5 n5;have s5:=(s3.trans n4.same).trans n5.same;have MN:=s5 _ _ ha;have h5:=n5.self;clear n1 n2 n3 n4 n5 KW s3;walk_at "go";rename_i p6 H6 n6;refine fj (cM.of (n6.keep h5)) (cM.of n6.self) (by simp) (by simp) (eU rfl) ?_;intro p7 H7 n7;have s7:=(s5.trans n6.same).trans n7.same;have OA:=s7 _ _ ha;have h7:H7 p7=some (.tup (.num 0 k v (q1+1):Row).vals):=n7.self;clear n6 n7 h5 MN s5;walk_at "go";refine je (cM.of OA) (by show ¬(HT.dB 5 0 none=0/\HT.dB 5 5 (some 1)=5);decide) ?_;intro p8 H8 n8
  replace n8:fh H7 p8 (.tup [.str "num"]) H8:=n8
  walk_at "go";rename_i p9 H9 n9;refine fj (cM.of (n9.keep n8.self)) (cM.of n9.self) (by simp) (by simp) (eU rfl) ?_;intro Cu zZ D4;have iK:=(n8.same.trans n9.same).trans D4.same;have qF:=iK _ _ OA;walk_at "go";refine je (cM.of qF) (by show ¬(HT.dB 5 0 (some 2)=0/\HT.dB 5 5 none=5);decide) ?_;intro yg z6 gP
  replace gP:fh zZ yg (.tup [.int k,.int v,.int p]) z6:=gP
  refine fj (cM.of (gP.keep D4.self)) (cM.of gP.self) (by simp) (by simp) (eU rfl) ?_;intro qA FN tM;have s12:=(iK.trans gP.same).trans tM.same;have h12:FN qA=some (.tup (.num 1 k v p:Row).vals):=tM.self;have U9:=s12 _ _ h7;clear n8 n9 D4 gP tM qF;walk_at "go";rename_i l GB nE;have xF:=(s7.trans s12).trans nE.same;exact q l _ GB xF ((s7.trans s12).free nE.1) nE.self (.cons ⟨p7,rfl,nE.keep U9⟩ (.cons ⟨qA,rfl,nE.keep h12⟩ .nil))
 | copy d k i p =>
  simp only[Row.vals,Row.key,Row.rest] at ha;walk_at "go";refine je (cM.of ha) (by show ¬(HT.dB 5 0 none=0/\HT.dB 5 5 (some 1)=5);decide) ?_;intro p1 H1 n1
  replace n1:fh H p1 (.tup [.str "copy"]) H1:=n1
  walk_at "go";rename_i p2 H2 n2;refine fj (cM.of (n2.keep n1.self)) (cM.of n2.self) (by simp) (by simp) (eU rfl) ?_;intro p3 H3 n3;have s3:=(n1.same.trans n2.same).trans n3.same;have KW:=s3 _ _ ha;walk_at "go";refine je (cM.of KW) (by show ¬(HT.dB 5 0 (some 2)=0/\HT.dB 5 5 (some (-1))=5);decide) ?_;intro p4 H4 n4
  replace n4:fh H3 p4 (.tup [.int k,.int i]) H4:=n4
  refine fj (cM.of (n4.keep n3.self)) (cM.of n4.self) (by simp) (by simp) (eU rfl) ?_;intro p5 H5 n5;have s5:=(s3.trans n4.same).trans n5.same;have MN:=s5 _ _ ha;have h5:=n5.self;clear n1 n2 n3 n4 n5 KW s3;walk_at "go";rename_i p6 H6 n6;refine fj (cM.of (n6.keep h5)) (cM.of n6.self) (by simp) (by simp) (eU rfl) ?_;intro p7 H7 n7;have s7:=(s5.trans n6.same).trans n7.same;have OA:=s7 _ _ ha;have h7:H7 p7=some (.tup (.copy 0 k i (q1+1):Row).vals):=n7.self;clear n6 n7 h5 MN s5;walk_at "go";refine je (cM.of OA) (by show ¬(HT.dB 5 0 none=0/\HT.dB 5 5 (some 1)=5);decide) ?_;intro p8 H8 n8
  replace n8:fh H7 p8 (.tup [.str "copy"]) H8:=n8
  walk_at "go";rename_i p9 H9 n9;refine fj (cM.of (n9.keep n8.self)) (cM.of n9.self) (by simp) (by simp) (eU rfl) ?_;intro Cu zZ D4;have iK:=(n8.same.trans n9.same).trans D4.same;have qF:=iK _ _ OA;walk_at "go";refine je (cM.of qF) (by show ¬(HT.dB 5 0 (some 2)=0/\HT.dB 5 5 none=5);decide) ?_;intro yg z6 gP
  replace gP:fh zZ yg (.tup [.int k,.int i,.int p]) z6:=gP
  refine fj (cM.of (gP.keep D4.self)) (cM.of gP.self) (by simp) (by simp) (eU rfl) ?_;intro qA FN tM;have s12:=(iK.trans gP.same).trans tM.same;have h12:FN qA=some (.tup (.copy 1 k i p:Row).vals):=tM.self;have U9:=s12 _ _ h7;clear n8 n9 D4 gP tM qF;walk_at "go";rename_i l GB nE;have xF:=(s7.trans s12).trans nE.same;exact q l _ GB xF ((s7.trans s12).free nE.1) nE.self (.cons ⟨p7,rfl,nE.keep U9⟩ (.cons ⟨qA,rfl,nE.keep h12⟩ .nil))
 | op d o k i j p =>
  simp only[Row.vals,Row.key,Row.rest] at ha;walk_at "go";refine je (cM.of ha) (by show ¬(HT.dB 7 0 none=0/\HT.dB 7 7 (some 1)=7);decide) ?_;intro p1 H1 n1
  replace n1:fh H p1 (.tup [.str "op"]) H1:=n1
  walk_at "go";rename_i p2 H2 n2;refine fj (cM.of (n2.keep n1.self)) (cM.of n2.self) (by simp) (by simp) (eU rfl) ?_;intro p3 H3 n3;have s3:=(n1.same.trans n2.same).trans n3.same;have KW:=s3 _ _ ha;walk_at "go";refine je (cM.of KW) (by show ¬(HT.dB 7 0 (some 2)=0/\HT.dB 7 7 (some (-1))=7);decide) ?_;intro p4 H4 n4
  replace n4:fh H3 p4 (.tup [.str o,.int k,.int i,.int j]) H4:=n4
  refine fj (cM.of (n4.keep n3.self)) (cM.of n4.self) (by simp) (by simp) (eU rfl) ?_;intro p5 H5 n5;have s5:=(s3.trans n4.same).trans n5.same;have MN:=s5 _ _ ha;have h5:=n5.self;clear n1 n2 n3 n4 n5 KW s3;walk_at "go";rename_i p6 H6 n6;refine fj (cM.of (n6.keep h5)) (cM.of n6.self) (by simp) (by simp) (eU rfl) ?_;intro p7 H7 n7;have s7:=(s5.trans n6.same).trans n7.same;have OA:=s7 _ _ ha;have h7:H7 p7=some (.tup (.op 0 o k i j (q1+1):Row).vals):=n7.self;clear n6 n7 h5 MN s5;walk_at "go";refine je (cM.of OA) (by show ¬(HT.dB 7 0 none=0/\HT.dB 7 7 (some 1)=7);decide) ?_;intro p8 H8 n8
  replace n8:fh H7 p8 (.tup [.str "op"]) H8:=n8
  walk_at "go";rename_i p9 H9 n9;refine fj (cM.of (n9.keep n8.self)) (cM.of n9.self) (by simp) (by simp) (eU rfl) ?_;intro Cu zZ D4;have iK:=(n8.same.trans n9.same).trans D4.same;have qF:=iK _ _ OA;walk_at "go";refine je (cM.of qF) (by show ¬(HT.dB 7 0 (some 2)=0/\HT.dB 7 7 none=7);decide) ?_;intro yg z6 gP
  replace gP:fh zZ yg (.tup [.str o,.int k,.int i,.int j,.int p]) z6:=gP
  refine fj (cM.of (gP.keep D4.self)) (cM.of gP.self) (by simp) (by simp) (eU rfl) ?_;intro qA FN tM;have s12:=(iK.trans gP.same).trans tM.same;have h12:FN qA=some (.tup (.op 1 o k i j p:Row).vals):=tM.self;have U9:=s12 _ _ h7;clear n8 n9 D4 gP tM qF;walk_at "go";rename_i l GB nE;have xF:=(s7.trans s12).trans nE.same;exact q l _ GB xF ((s7.trans s12).free nE.1) nE.self (.cons ⟨p7,rfl,nE.keep U9⟩ (.cons ⟨qA,rfl,nE.keep h12⟩ .nil))
 | _ =>
  have ha0:=ha;simp only[Row.vals,Row.key,Row.rest] at ha;walk_at "go";rename_i l H1 n1;exact q l _ H1 n1.same n1.1 n1.self (.cons ⟨a,rfl,n1.keep ha0⟩ .nil)
end
def eT{g:Addr}(h:H g=some (.lst us))(p:pC H g (.lst vs) H'):gM H H':=λb xs e=>p.keep (uQ e h (by intro z;cases z)) e
def Kd{qs:List Row}(h1:Rows H us rs)(h2:Rows H vs qs):Rows H (us++vs) (rs++qs):=gZ h1 h2
section
variable {P:Program}{w:World}{K:aD}{mg:Str->Option Value}{base:Heap}
def Ke:Sp:=λvs H Q _=>∃(p:Addr)(us:List V)(rs:List Row),vs=[.ref p]/\H p=some (.lst us)/\Rows H us rs/\(∀r∈rs,r.ok rs.length)/\rs.length<=200 /\
 ∀(g:Addr)(vs:List V)(H':Hp),aB H H'->H g=none->H' g=some (.lst vs)->Rows H' vs (bW rs rs.length)->Q (.ref g) H'
def F9(T:Txt w K mg):b7 P w K mg base gT 6 T.xr.f T.xr.d ["code"] Ke:=by
 refine T.xr.F.ok gX (λvs H Q E h=>?_) (λcdv A outer s H vs Q E hr h=>?_)
 .obtain⟨p,us,rs,rfl,_⟩:=h;rfl
 obtain⟨p,us,rs,rfl,hp,hrs,hok,hn,q⟩:=h;refine⟨_,(ak (aE (i:=1) gX.nd rfl (ao rfl) (aP T.looks (Kc T) hr (aa (pv 0) ai)))
 (ak (aE (i:=2) gX.nd rfl (ao rfl) (aP T.iV (qH T) hr (aa (pv 0) (aa (pv 1) ai))))
 (ak (aE (i:=3) gX.nd rfl (ao rfl) (dN ai))
 (ak (eK bX rfl (kC rfl T.fM (aa (pv 0) ai)) (nj (n:=2) rfl (bG (aX (i:=4) gX.nd rfl (ao rfl)) (bG (aX (i:=5) gX.nd rfl (ao rfl)) gk)))
 (ak (eK bX rfl (cI (Hq (sC hr) (pv 1) (pv 4) (dN ai) ⟨rfl,rfl,rfl,rfl⟩)) (aX (i:=6) gX.nd rfl (ao rfl))
 (au (fk (jx dS jr jt gz (pv 3) (aa (bB (aa bz (aa (pv 6) (aa (ay aZ (aT bI rfl T.eS BT.eO (aa (pv 3) ai)) af) ai)))) ai)))))
 (iR (cN (A4 (G9 (sC hr) (pv 4) (pv 1)))
 (au (fk (jx dS jr jt gz (pv 3) (aa (bB (aa bz (aa (ay aZ (aT bI rfl T.eS BT.eO (aa (pv 3) ai)) af) ai))) ai))))
 bu)
 (au (fk (jx dS nG nH jW (pv 3) (aa (aP T.doubled (Ct T) hr (aa (aP T.j3 (oX T) hr (aa (pv 5) (aa (pv 2) ai))) (aa (aT bI rfl T.eS BT.eO (aa (pv 3) ai)) ai))) ai)))))))
 (au (aJ (pv 3))))))),?_⟩
 have qw:=hrs.length;show(_:TS) (Ends.mk _ _ _ _) [_,_,_,_,_,_,_] H;walk_at "start";walk_at "go";refine⟨p,us,rs,rfl,hp,hrs,hok,hn,λd kvs H1 s1 fd hd1 Pz=>?_⟩;walk_at "go";refine⟨p,d,us,rs,kvs,rfl,s1 _ _ hp,hrs.same s1,hn,hd1,Pz,λf H2 s2 ff hf2=>?_⟩;have hd2:=s2 _ _ hd1;have Ny:=Pz.same s2;have Q6:=s1.trans s2;have hp2:=Q6 _ _ hp;have Ju:=hrs.same Q6;clear s1 s2 hd1 Pz;walk_at "go";rename_i g H3 n3;have Ox:H2 g=none:=n3.1;have s3:=n3.same;have hg3:=n3.self;clear n3;refine sG (xs:=us) (λi σ' H'=>(∃x y z,σ'=[some (.ref p),some (.ref d),some (.ref f),some (.ref g),x,y,z])/\aB H2 H'/\∃vs,H' g=some (.lst vs)/\Rows H' vs (bW rs i)) ?_ ?_ ?_ ?_
 .exact⟨⟨_,_,_,rfl⟩,s3,[],hg3,.nil⟩
 .rintro i σ' H' _ ⟨_,s',_⟩;exact bE.of (s' _ _ hp2)
 .rintro i x t σ' H4 H5 hx ⟨⟨x0,y0,z0,rfl⟩,s4,vs,RM,hvs⟩ n5;have hi:i<us.length:=(fu hx).1;obtain⟨r,hr',ra,rfl,tH⟩:=br Ju hx;have s5:=s4.trans n5.same;have ZG:=n5.keep RM;have Va:=hvs.same n5.same;have V0:=s5 _ _ hd2;have Vb:=s5 _ _ tH;have ht5:=n5.self;have hdg:d≠g:=aW hd2 Ox;have hvl:vs.length=firstM rs i:=by rw[hvs.length,d8 (by omega)]
  have hfl:=qf rs i;obtain⟨hm1,hm2⟩:=Ny i (by omega);clear n5 s4 RM hvs;walk_at "go";rename_i dl H6 n6;have s6:=s5.trans n6.same;have hg6:=n6.keep ZG;have Vc:=Va.same n6.same;have Ob:=n6.keep V0;have ZH:=n6.keep Vb;have ZI:dl≠g:=(aW ZG n6.1).symm;have Vd:=n6.self;clear n6 ZG Va V0 Vb s5 ht5;obtain⟨la,Lk,ela,hla,hlk,ZJ⟩:∃la Lk,(e9 kvs (.inl (i:Int))).getD (.ref dl)=.ref la/\H6 la=some (.lst (Lk.map V.int))/\Lk=(if dQ rs i=true then cL rs i else[])/\la≠g:=by
   by_cases hm:dQ rs i=true
   .obtain⟨a,e1,e2⟩:=hm1 hm;exact⟨a,_,by rw[e1];rfl,s6 _ _ e2,by rw[if_pos hm],aW e2 Ox⟩
   .exact⟨dl,[],by rw[hm2 hm];rfl,Vd,by rw[if_neg hm],ZI⟩
  have hLl:Lk.length<=8:=by
   rw[hlk];split
   .exact tY rs i
   .exact aH _
  rw[ela];walk_at "go";refine f_list (xs:=Lk.map V.int) (λk σ' H'=>(∃z,σ'=[some (.ref p),some (.ref d),some (.ref f),some (.ref g),some (.int (i:Int)),some (.ref ra),z])/\aB H2 H'/\H' la=some (.lst (Lk.map V.int))/\∃vs',H' g=some (.lst vs')/\Rows H' vs' (bW rs i++cu (firstM rs i) (Lk.take k))) ?_ ?_ ?_ ?_
  .exact⟨⟨_,rfl⟩,s6,hla,vs,hg6,by simpa[cu] using Vc⟩
  .rintro k σ' H' _ ⟨_,_,h,_⟩;exact bE.of h
  .rintro k y σ' H7 hy ⟨⟨z,rfl⟩,s7,JK,vs',OB,uM⟩;rw[bw] at hy;obtain⟨b,hb,rfl⟩:=di.mp hy;have yf:=(fu hb).1;have Ve:vs'.length=firstM rs i+k:=by rw[uM.length,aR,d8 (by omega),d7,cF];omega
   walk_at "go";rename_i t8 H8 n8 H9 p9;have Em:=n8.keep OB;have tt:=eT Em p9;refine⟨⟨_,rfl⟩,p9.same (s7.trans n8.same) Ox,p9.keep ZJ (n8.keep JK),_,p9.self,?_⟩;rw[cB,hb];show Rows H9 _ (bW rs i++cu (firstM rs i) (Lk.take k++[b]));rw[lR,<- mX];refine cH ((uM.same n8.same).jk tt) ⟨t8,rfl,?_⟩;have e:(firstM rs i:Int)+((Lk.take k).length:Int)+1=(vs'.length:Int)+1:=by rw[cF];omega
   rw[e];exact tt _ _ n8.self
  .rintro σ' H7 ⟨⟨z,rfl⟩,s7,JK,vs',OB,uM⟩;rw[av,cG] at uM;have JJ:=s7 _ _ hd2;have ZK:=s7 _ _ tH;have Ve:vs'.length=firstM rs i+Lk.length:=by rw[uM.length,aR,d8 (by omega),d7]
   clear hg6 Vc Ob ZH Vd hla s6;walk_at "go";refine ql (λσ' H'=>σ'=[some (.ref p),some (.ref d),some (.ref f),some (.ref g),some (.int (i:Int)),some (.ref ra),z]/\aB H2 H'/\∃Q8,H' g=some (.lst Q8)/\Rows H' Q8 (bW rs i++Af rs i)) ?_ ?_
   .walk_at "go";by_cases hm:dQ rs i=true
    .obtain⟨a,e1,_⟩:=hm1 hm;rw[e1,if_pos (show(some (V.ref a)).isSome=true from rfl)];walk_at "go";rename_i t8 H8 n8 H9 p9;have Em:=n8.keep OB;have tt:=eT Em p9;refine⟨rfl,p9.same (s7.trans n8.same) Ox,_,p9.self,?_⟩;unfold Af;rw[if_pos hm,<- mX];rw[hlk,if_pos hm] at uM Ve;refine cH ((uM.same n8.same).jk tt) ⟨t8,rfl,?_⟩;have e:(firstM rs i:Int)+((cL rs i).length:Int)+1=(vs'.length:Int)+1:=by omega
     rw[e];exact tt _ _ n8.self
    .rw[hm2 hm,if_neg (by decide)];walk_at "go";refine⟨rfl,s7,vs',OB,?_⟩;unfold Af;rw[if_neg hm];rw[hlk,if_neg hm] at uM;simpa[cu] using uM
   rintro _ H8 ⟨rfl,s8,Q8,Em,Ac⟩;have Vf:Q8.length=firstM rs i+c8 rs i:=by rw[Ac.length,aR,d8 (by omega),tX]
   have hmn:=xN rs i;have Vg:=s8 _ _ tH;have DU:=s8 _ _ hf2;clear JJ ZK OB uM s7 JK;walk_at "go";refine⟨ra,f,r,_,gR rs,rfl,Vg,DU,λz hz=>?_,λt9 H9 s9 OC=>?_⟩
   .have hzb:=Row.ir (hok r (fB hr')) z hz;have ez:z=((z.toNat:Nat):Int):=by omega
    have QK:z.toNat<rs.length:=by omega
    have:=fP (xs:=(List.range rs.length).map λp=>V.int (firstM rs p)) (j:=z.toNat) (v:=.int (firstM rs z.toNat)) (by rw[bw,pG QK];rfl);rw[<- ez] at this;exact this
   have ZL:=s9 _ _ Em;have JR:=Ac.same s9;have s29:=s8.trans s9;clear s9 s8 Em Ac Vg DU;walk_at "go";refine⟨t9,r.cU (gR rs),_,rfl,OC,λl us2 zZ iK fl adZ OD=>?_⟩;have xV:=iK _ _ ZL;have Vh:=JR.same iK;have ZM:=s29.trans iK;have ZJ:l≠g:=(aW ZL fl).symm;have ad0:us2.length<=2:=by rw[OD.length,Ed];exact qe r
   clear iK ZL JR s29 OC;walk_at "go";rename_i z6 yg;have tt:=eT xV yg;refine⟨⟨_,_,_,rfl⟩,yg.same ZM Ox,_,yg.self,?_⟩;have e:bW rs (i+1)=bW rs i++Af rs i++(r.cU (gR rs)).dbl (Q8.length:Int):=by rw[bW,hr'];show _++putAt rs i r=_;unfold putAt;rw[Vf,<- mX,Int.natCast_add]
   rw[e];exact Kd (Vh.jk tt) (OD.jk tt)
 .rintro σ' H4 ⟨⟨x0,y0,z0,rfl⟩,s4,vs,RM,hvs⟩;walk_at "go";rw[qw] at hvs;exact q g vs H4 (Q6.trans s4) (Q6.free Ox) RM hvs
def MO:Sp:=λvs H Q _=>∃(c p m y:Int),vs=[.int c,.int p,.int m,.int y]/\0<=p/\p<m/\∀q,jQ m q->(y≠2->p+1≠m->p<q)->Q (.int q) H
def Am(T:Txt w K mg):b7 P w K mg base gT 1 T.goes.f T.goes.d ["_law_cell", "_law_p", "_law_many", "_law_way"] MO:=by
 refine T.goes.F.ok LV (λvs H Q E h=>?_) (λcdv A outer s H vs Q E hr h=>?_)
 .obtain⟨c,p,m,y,rfl,_⟩:=h;rfl
 obtain⟨c,p,m,y,rfl,h0,h1,q⟩:=h;refine⟨_,(iR (cN (PW.pt (rZ (aG dW (ay aZ (pv 1) af) (pv 2) (aM _)) (pN (PW.pt (kj (aG dW (pv 3) af (aM _)) (jv (aG dW (ay bh (pv 0) af) af (aM _))))))))
 (au (aJ (ay bh (ay bT (pv 0) af) (pv 2))))
 bu)
 (nP (cN (PW.pt (kj (aG dW (pv 3) af (aM _)) (jv (aG dW (ay bh (pv 0) af) af (aM _)))))
 (au (aJ (aT (sH rfl) rfl T.N3 BT.NF (aa (ay iI (pv 2) af) (aa (ay aZ (ay aZ (pv 1) af) (ay bh (ay bT (pv 0) af) (pv 2))) ai)))))
 bu)
 (au (aJ (ay aZ (pv 1) af))))),?_⟩
 show(_:TS) (Ends.mk _ _ _ _) [_,_,_,_] H;have b:=bH (a:=c / 4) (b:=m) (by omega);walk_at "start";refine ql (λσ' H'=>H'=H/\σ'=[some (.int c),some (.int p),some (.int m),some (.int y)]/\p+1≠m) ?_ ?_
 .walk_at "go"
  .exact q _ b (by omega)
  .exact q _ b (by omega)
  all_goals exact⟨rfl,rfl,by assumption⟩
 .rintro _ H' ⟨rfl,rfl,hne⟩;walk_at "go"
  .refine q _ ?_ ?_
   .split<;>exact⟨by omega,by omega⟩
   .intros
    split<;>omega
  .exact q _ ⟨by omega,by omega⟩ (by omega)
def Q9(K:aD):Sp:=λvs H Q _=>∃(c p m y:Int)(a:Addr)(ks:List Int),vs=[.int c,.int p,.int m,.ref a,.int y]/\0<=p/\p<m/\m<=1000/\H a=some (.lst (ks.map V.int))/\0<ks.length/\ks.length<=1000/\(∀k∈ks,fq k)/\∀q H' r,aB H H'->H' q=some (.tup (Row.vals r))->r.ok m->(y<2->∀z∈r.ways,p<z)->Q (.ref q) H'
def MP(T:Txt w K mg):b7 P w K mg base gT 2 T.row.f T.row.d ["_law_cell", "_law_p", "_law_many", "_law_pool_here", "_law_way"] (Q9 K):=by
 refine T.row.F.ok kJ (λvs H Q E h=>?_) (λcdv A outer s H vs Q E hr h=>?_)
 .obtain⟨c,p,m,y,a,ks,rfl,_⟩:=h;rfl
 obtain⟨c,p,m,y,a,ks,rfl,h0,h1,hm,ha,hk0,hk1,hb,q⟩:=h;refine⟨_,(ak (aE (i:=5) kJ.nd rfl (ao rfl) (ay bh (pv 0) af))
 (ak (aE (i:=6) kJ.nd rfl (ao rfl) (aS cO (bB (aa af (aa af (aa af (aa af ai))))) (ay bh (ay bT (pv 0) af) af) (λ_ _=>rfl)))
 (ak (aE (i:=7) kJ.nd rfl (cg rfl) (ay bT (pv 0) af))
 (ak (ja (cP (bD.caps (x := "_law_x") (fr:=["_law_pool_here", "_law_rest"]) (ix:=[3,7]) (nm:=["_law_rest", "_law_pool_here"]) rfl rfl (by decide +kernel) rfl (by decide +kernel) rfl (by decide +kernel) ⟨rfl,⟨rfl,trivial⟩⟩ rfl (by decide +kernel) rfl ⟨⟨rfl,rfl,rfl⟩,⟨⟨rfl,rfl,rfl⟩,trivial⟩⟩) (dw rfl T.eW (aa af ai)) (λ_ _ _ _=>cQ) (λ_ _ _ _=>(aS (gJ (K:=K) rfl) (pv 1) (ay bh (ay bh (ay sF (pv 2) (aS (nR (K:=K) rfl) (bB (aa af (aa af (aa af ai)))) (pv 0) (λ_ _=>rfl))) af) (aT (kE (K:=K) rfl) rfl T.eS BT.eO (aa (pv 1) ai))) (λ_ _=>rfl)))) (Hx rfl (bG (aX (i:=8) kJ.nd rfl (ao rfl)) (bG (aX (i:=9) kJ.nd rfl (ao rfl)) (bG (aX (i:=10) kJ.nd rfl (ao rfl)) gk)))))
 (ak (aE (i:=11) kJ.nd rfl (ao rfl) (aP T.goes (Am T) hr (aa (ay bT (pv 7) af) (aa (pv 1) (aa (pv 2) (aa (pv 4) ai))))))
 (ak (aE (i:=12) kJ.nd rfl (ao rfl) (ay sF (pv 7) (ay jb af af)))
 (iR (cN (PW.pt (rZ (aG dW (pv 5) af (aM _)) (pN (PW.pt (kj (aG iz (pv 4) af (aM _)) (jv (aG dW (ay aZ (pv 1) af) (pv 2) (aM _))))))))
 (au (aJ (bB (aa bz (aa (pv 9) ai)))))
 bu)
 (ak (cN (aG iz (pv 5) af (aM _))
 (au (aJ (bB (aa bz (aa (pv 6) (aa (pv 8) (aa (ay bh (pv 12) (ay GO af af)) (aa (pv 11) ai))))))))
 bu)
 (ak (cN (aG iz (pv 5) af (aM _))
 (au (aJ (bB (aa bz (aa (pv 6) (aa (pv 8) (aa (pv 9) (aa (pv 11) ai))))))))
 bu)
 (ak (cN (aG iz (pv 5) af (aM _))
 (au (aJ (bB (aa bz (aa (pv 6) (aa (aS GY bz (ay bh (pv 12) af) (λ_ _=>rfl)) (aa (pv 8) (aa (pv 9) (aa (pv 10) (aa (pv 11) ai))))))))))
 bu)
 (ak (cN (aG iz (pv 5) af (aM _))
 (au (aJ (bB (aa bz (aa (pv 9) (aa (pv 11) ai))))))
 bu)
 (ak (cN (aG iz (pv 5) af (aM _))
 (au (aJ (bB (aa bz (aa (pv 9) (aa (pv 11) (aa (aP T.goes (Am T) hr (aa (pv 12) (aa (pv 1) (aa (pv 2) (aa (pv 4) ai))))) ai)))))))
 bu)
 (ak (cN (aG iz (pv 5) af (aM _))
 (au (aJ (bB (aa bz (aa (pv 9) (aa (pv 11) ai))))))
 bu)
 (au (aJ (bB (aa bz (aa (pv 11) ai)))))))))))))))))),?_⟩
 have yf:(ks.map V.int).length=ks.length:=av _;show(_:TS) (Ends.mk _ _ _ _) [_,_,_,_,_,_,_,_,_,_,_,_,_] H;walk_at "start";walk_at "go";rename_i t1 H1 n1;have bs:=bH (a:=c / 24) (b:=4) (by decide);obtain⟨d,hd,md⟩:=lM (ns:=[2,2,0,1]) (i:=c / 24 % 4) bs.1 (by show _<(4:Int);exact bs.2);have sd:xA d:=by simp only[aI,fY,or_false] at md;rcases md with rfl|rfl|rfl|rfl<;>exact⟨by decide,by decide⟩
 refine vc (cM.of n1.self) hd ?_;walk_at "go";refine ia (λi ys H'=>aB H1 H'/\∃ls:List Int,ys=ls.map V.int/\ls.length=i/\∀k∈ls,fq k) ⟨aB.refl _,[],rfl,rfl,λk h=>nomatch h⟩ ?_ ?_
 .rintro i ys H' hi ⟨sm,ls,rfl,hl,hlb⟩;have hi:i<3:=by omega
  refine⟨bU (by rw[av];omega),?_⟩;have ha':=sm _ _ (n1.keep ha);walk_at "go";rename_i t2 H2 n2;have ha2:=n2.keep ha';have b3:∃g:Int,nF [V.int 1,V.int 8,V.int 64] (0+((i:Nat):Int))=some (.int g)/\0<g/\g<=64:=by
   rcases i with _|_|_|i
   .exact⟨1,rfl,by decide,by decide⟩
   .exact⟨8,rfl,by decide,by decide⟩
   .exact⟨64,rfl,by decide,by decide⟩
   .omega
  obtain⟨g,hg,g0,g1⟩:=b3;refine vc (cM.of n2.self) hg ?_;walk_at "go";rw[yf];have bb:=bH (a:=c / 96 / g % 8) (b:=(ks.length:Int)) (by omega);obtain⟨v,hv,mv⟩:=lM (ns:=ks) (i:=c / 96 / g % 8 % (ks.length:Int)) bb.1 bb.2;refine cJ (bE.of ha2) hv ?_;refine⟨sm.trans n2.same,ls++[v],by rw[bF];rfl,by simp[hl],λk h=>?_⟩;rcases aO.mp h with h|h
  .exact hlb k h
  .rw[aA.mp h];exact hb v mv
 rintro ys H2 ⟨s2,ls,rfl,hl,hlb⟩ l H3 n3;have hl3:ls.length=3:=by omega
 match ls,hl3 with
 | [k,i,j],_ =>
 have bk:=hlb k (by simp);have bi:=hlb i (by simp);have bj:=hlb j (by simp);have s3:aB H H3:=(n1.same.trans s2).trans n3.same
 replace n3:fh H2 l (.lst [.int k,.int i,.int j]) H3:=n3
 walk_at "go";refine⟨_,p,m,y,rfl,h0,h1,λq1 hq1 En=>?_⟩;have bv:isVal ((c / 96 / (512*256)) % 2 ^ (48:Int).toNat):=bH (by decide);have b9:=bH (a:=c / 96 / (512*256)) (b:=9) (by decide);obtain⟨ch,hch,Ua⟩:=Jj b9.1 b9.2;clear n1 s2 n3;walk_at "go";refine ql (λσ' H'=>H'=H3/\σ'=[some (.int c),some (.int p),some (.int m),some (.ref a),some (.int y),some (.int (c % 24)),some (.int d),some (.int (c / 96)),some (.int k),some (.int i),some (.int j),some (.int q1),some (.int (c / 96 / (512*256)))]/\(y<2->p+1≠m)) ?_ ?_
 .walk_at "go"
  all_goals first
   | (rename_i t4 H4 n4;exact q t4 H4 (.back i) (s3.trans n4.same) n4.self bi λ_ z hz=>nomatch hz)
   | exact⟨rfl,rfl,by omega⟩
 rintro _ _ ⟨rfl,rfl,hyp⟩;walk_at "go"
 all_goals first
  | (rename_i t4 H4 n4;exact q t4 H4 (.num d k _ q1) (s3.trans n4.same) n4.self ⟨sd,bk,bv,hq1⟩ (λhy z hz=>by rw[aA.mp hz];exact En (by omega) (hyp hy)))
  | (rename_i t4 H4 n4;exact q t4 H4 (.copy d k i q1) (s3.trans n4.same) n4.self ⟨sd,bk,bi,hq1⟩ (λhy z hz=>by rw[aA.mp hz];exact En (by omega) (hyp hy)))
  | (rename_i t4 H4 n4;exact q t4 H4 (.out i q1) (s3.trans n4.same) n4.self ⟨bi,hq1⟩ (λhy z hz=>by rw[aA.mp hz];exact En (by omega) (hyp hy)))
  | (rename_i t4 H4 n4;exact q t4 H4 (.look i q1) (s3.trans n4.same) n4.self ⟨bi,hq1⟩ (λhy z hz=>by rw[aA.mp hz];exact En (by omega) (hyp hy)))
  | (rename_i t4 H4 n4;exact q t4 H4 (.mark q1) (s3.trans n4.same) n4.self hq1 (λhy z hz=>by rw[aA.mp hz];exact En (by omega) (hyp hy)))
  | skip
 .refine Nq (by decide) hch ?_;walk_at "go";rename_i t4 H4 n4;exact q t4 H4 (.op d ⟨#[ch]⟩ k i j q1) (s3.trans n4.same) n4.self ⟨sd,Ua,bk,bi,bj,hq1⟩ (λhy z hz=>by rw[aA.mp hz];exact En (by omega) (hyp hy))
 .refine⟨_,p,m,y,rfl,h0,h1,λq2 hq2 fq2=>?_⟩;walk_at "go";rename_i t4 H4 n4;exact q t4 H4 (.fork i q1 q2) (s3.trans n4.same) n4.self ⟨bi,hq1,hq2⟩ λhy z hz=>by rcases aI.mp hz with rfl|hz;exact En (by omega) (hyp hy);rw[aA.mp hz];exact fq2 (by omega) (hyp hy)
def Eo(K:aD):Sp:=λvs H Q _=>∃(a:Addr)(ns:List Int)(n:Nat)(y:Int),vs=[.ref a,.int n,.int y]/\bE K H a (ns.map V.int)/\ns.length<=63/\0<n/\n<=1000 /\
 ∀q H' us rs,aB H H'->H' q=some (.lst us)->Rows H' us rs->rs.length=n->(∀r∈rs,Row.ok n r)->(y<2->∀(j:Nat)(r:Row),rs[j]?=some r->∀z∈r.ways,(j:Int)<z)->Q (.ref q) H'
def An(T:Txt w K mg):b7 P w K mg base gT 4 T.code.f T.code.d ["_law_script", "_law_many", "_law_way"] (Eo K):=by
 refine T.code.F.ok xg (λvs H Q E h=>?_) (λcdv A outer s H vs Q E hr h=>?_)
 .obtain⟨a,ns,n,y,rfl,_⟩:=h;rfl
 obtain⟨a,ns,n,y,rfl,hS,hn,h0,h1,q⟩:=h;refine⟨_,(ak (aE (i:=3) xg.nd rfl (cg rfl) (aP T.pool (DN T) hr (aa (pv 0) (aa af ai))))
 (ak (aE (i:=4) xg.nd rfl (cg rfl) (aP T.numbers (tF T) hr (aa (pv 0) (aa (pv 1) ai))))
 (au (aJ (cP (bD.caps (x := "_law_p") (fr:=["_law_many", "_law_way", "_law_pool_here", "_law_numbers_here"]) (ix:=[1,2,3,4]) (nm:=["_law_way", "_law_pool_here", "_law_numbers_here", "_law_many"]) rfl rfl (by decide +kernel) rfl (by decide +kernel) rfl (by decide +kernel) ⟨rfl,⟨rfl,⟨rfl,⟨rfl,trivial⟩⟩⟩⟩ rfl (by decide +kernel) rfl ⟨⟨rfl,rfl,rfl⟩,⟨⟨rfl,rfl,rfl⟩,⟨⟨rfl,rfl,rfl⟩,⟨⟨rfl,rfl,rfl⟩,trivial⟩⟩⟩⟩) (dw rfl T.eW (aa (pv 1) ai)) (λ_ _ _ _=>cQ) (λ_ _ _ _=>(aP T.row (MP T) hr (aa (aS (gJ (K:=K) rfl) (pv 4) (pv 0) (λ_ _=>rfl)) (aa (pv 0) (aa (pv 1) (aa (pv 3) (aa (pv 2) ai)))))))))))),?_⟩
 show(_:TS) (Ends.mk _ _ _ _) [_,_,_,_,_] H;walk_at "start";walk_at "go";refine⟨a,ns,8,rfl,hS,by decide,by decide,λp H1 ks s1 hp hk0 hk1 hkb=>?_⟩;walk_at "go";refine⟨a,ns,n,rfl,s1.seq hS,hn,h0,h1,λc H2 cs s2 hc hcl=>?_⟩;have hp2:=s2 _ _ hp;walk_at "go";refine ia (λi ys H'=>aB H2 H'/\∃rs:List Row,Rows H' ys rs/\rs.length=i/\(∀r∈rs,r.ok n)/\(y<2->∀(j:Nat)(r:Row),rs[j]?=some r->∀z∈r.ways,(j:Int)<z)) ⟨aB.refl _,[],.nil,rfl,(λr h=>nomatch h),λ_ j r h=>nomatch h⟩ ?_ ?_
 .rintro i ys H' hi ⟨sm,rs,hrs,hlen,hok,hfw⟩;have hi:i<n:=by omega
  refine⟨bU (by rw[hrs.length];omega),?_⟩;walk_at "go";obtain⟨v,hv⟩:=qW (ns:=cs) (i:=0+((i:Nat):Int)) (by omega) (by omega);refine cJ (bE.of (sm _ _ hc)) hv ?_;walk_at "go";refine⟨v,_,_,_,p,ks,rfl,by omega,by omega,by omega,sm _ _ hp2,hk0,hk1,hkb,λt H3 r s3 ht hr fr=>?_⟩;refine⟨sm.trans s3,rs++[r],cH (hrs.same s3) ⟨t,rfl,ht⟩,by simp[hlen],λr' h=>?_,λhy j r' h=>?_⟩
  .rcases aO.mp h with h|h
   .exact hok r' h
   .rw[aA.mp h];exact hr
  .rcases aY j rs.length with hj|hj
   .rw[i7 hj] at h;exact hfw hy j r' h
   .rw[iF hj] at h;have:=(fu h).1;have e:j=i:=by simp at this;omega
    subst e;rw[hlen,Nat.sub_self] at h;cases h;intro z hz;have:=fr hy z hz;omega
 .rintro ys H' ⟨sm,rs,hrs,hlen,hok,hfw⟩ g H3 n3;exact q g H3 ys rs (((s1.trans s2).trans sm).trans n3.same) n3.self (hrs.same n3.same) (by omega) hok hfw
end
structure Lk (rs:List Row) (p:Nat):Prop where
 a:∀j r,j+1<rs.length->rs[j]?=some r->((j+1:Nat):Int)∈r.ways\/∃i r',i+1=j/\rs[i]?=some r'/\((j+1:Nat):Int)∈r'.ways
 b:∀j r,p<=j->j+1<rs.length->rs[j]?=some r->((j+1:Nat):Int)∈r.ways
def Lk.next(h:Lk rs p):Lk rs (p+1):=⟨h.a,λj r hj=>h.b j r (by omega)⟩
def Lk.ZN{f g:Row}(h:Lk rs (p+1))(h1:((p+1:Nat):Int)∈f.ways)(h2:((p+2:Nat):Int)∈f.ways):Lk ((rs.set p f).set (p+1) g) (p+2):=by
 have len:((rs.set p f).set (p+1) g).length=rs.length:=by rw[eE,eE]
 have J6:∀j,j≠p->j≠p+1->((rs.set p f).set (p+1) g)[j]?=rs[j]?:=λj a b=>by rw[pH (bA b),pH (bA a)]
 have atp:p<rs.length->((rs.set p f).set (p+1) g)[p]?=some f:=λhp=>by rw[pH (by omega),List.getElem?_set_self hp]
 constructor
 .intro j r hj hr;rw[len] at hj;rcases lX j p with hlt|rfl|hgt
  .rw[J6 j (by omega) (by omega)] at hr;rcases h.a j r hj hr with h|⟨i,r',e,h3,h4⟩
   .exact .inl h
   .exact .inr ⟨i,r',e,by rw[J6 i (by omega) (by omega)];exact h3,h4⟩
  .rw[atp (by omega)] at hr;cases hr;exact .inl h1
  .rcases aY (p+1) j with hg|hg
   .rw[J6 j (by omega) (by omega)] at hr;exact .inl (h.b j r (by omega) hj hr)
   .have e:j=p+1:=by omega
    subst e;exact .inr ⟨p,f,rfl,atp (by omega),h2⟩
 .intro j r hp hj hr;rw[len] at hj;rw[J6 j (by omega) (by omega)] at hr;exact h.b j r (by omega) hj hr
def Lk.rch(h:Lk rs p):∀j,j<rs.length->K1 rs j/\∀i,i<j->K1 rs i:=by
 intro j;induction j with
 | zero=>exact λ_=>⟨.zero,λi hi=>absurd hi (gG _)⟩
 | succ j ih =>
  intro hj;obtain⟨r1,r2⟩:=ih (by omega);have all:∀i,i<j+1->K1 rs i:=λi hi=>by
   rcases aY i j with hlt|hge
   .exact r2 i hlt
   .rw[show i=j by omega];exact r1
  refine⟨?_,all⟩;obtain⟨r,hr⟩:∃r,rs[j]?=some r:=⟨_,fO (by omega)⟩;rcases h.a j r hj hr with h|⟨i,r',e,h3,h4⟩
  .exact .step r1 hr h
  .exact .step (all i (by omega)) h3 h4
section
variable {P:Program}{w:World}{K:aD}{mg:Str->Option Value}{base:Heap}
def Ra(K:aD):Sp:=λvs H Q _=>∃(c p m y:Int)(a:Addr)(ks:List Int),vs=[.int c,.int p,.int m,.ref a,.int y]/\0<=p/\p<m/\m<=1000/\H a=some (.lst (ks.map V.int))/\0<ks.length/\ks.length<=1000/\(∀k∈ks,fq k)/\∀q H' r,aB H H'->H' q=some (.tup (Row.vals r))->r.ok m->r.pl->(p+1<m->p+1∈r.ways)->Q (.ref q) H'
def xW(T:Txt w K mg):b7 P w K mg base gT 2 T.mz.f T.mz.d ["_law_cell", "_law_p", "_law_many", "_law_pool_here", "_law_way"] (Ra K):=by
 refine T.mz.F.ok dY (λvs H Q E h=>?_) (λcdv A outer s H vs Q E hr h=>?_)
 .obtain⟨c,p,m,y,a,ks,rfl,_⟩:=h;rfl
 obtain⟨c,p,m,y,a,ks,rfl,h0,h1,hm,ha,hk0,hk1,hb,q⟩:=h;refine⟨_,(ak (aE (i:=5) dY.nd rfl (ao rfl) (ay bh (pv 0) af))
 (ak (aE (i:=6) dY.nd rfl (cg rfl) (ay bT (pv 0) af))
 (ak (ja (cP (bD.caps (x := "_law_x") (fr:=["_law_pool_here", "_law_rest"]) (ix:=[3,6]) (nm:=["_law_rest", "_law_pool_here"]) rfl rfl (by decide +kernel) rfl (by decide +kernel) rfl (by decide +kernel) ⟨rfl,⟨rfl,trivial⟩⟩ rfl (by decide +kernel) rfl ⟨⟨rfl,rfl,rfl⟩,⟨⟨rfl,rfl,rfl⟩,trivial⟩⟩) (dw rfl T.eW (aa af ai)) (λ_ _ _ _=>cQ) (λ_ _ _ _=>(aS (gJ (K:=K) rfl) (pv 1) (ay bh (ay bh (ay sF (pv 2) (aS (nR (K:=K) rfl) (bB (aa af (aa af (aa af ai)))) (pv 0) (λ_ _=>rfl))) af) (aT (kE (K:=K) rfl) rfl T.eS BT.eO (aa (pv 1) ai))) (λ_ _=>rfl)))) (Hx rfl (bG (aX (i:=7) dY.nd rfl (ao rfl)) (bG (aX (i:=8) dY.nd rfl (ao rfl)) (bG (aX (i:=9) dY.nd rfl (ao rfl)) gk)))))
 (ak (aE (i:=10) dY.nd rfl (ao rfl) (ay bT (pv 6) af))
 (ak (aE (i:=11) dY.nd rfl (ao rfl) (aT (sH rfl) rfl T.N3 BT.NF (aa (ay aZ (pv 1) af) (aa (ay iI (pv 2) af) ai))))
 (nP (cN (PW.pt (kj (aG dW (ay aZ (pv 1) af) (pv 2) (aM _)) (jv (aG dW (pv 4) af (aM _)))))
 (au (aJ (bB (aa bz (aa (pv 8) ai)))))
 bu)
 (ak (cN (aG iz (pv 5) af (aM _))
 (au (aJ (bB (aa bz (aa af (aa (pv 7) (aa (ay bh (ay bT (pv 10) af) (ay GO af af)) (aa (pv 11) ai))))))))
 bu)
 (ak (cN (aG iz (pv 5) af (aM _))
 (au (aJ (bB (aa bz (aa af (aa (pv 7) (aa (pv 8) (aa (pv 11) ai))))))))
 bu)
 (ak (cN (aG iz (pv 5) af (aM _))
 (au (aJ (bB (aa bz (aa af (aa (aS GY bz (ay bh (ay bT (pv 10) af) af) (λ_ _=>rfl)) (aa (pv 7) (aa (pv 8) (aa (pv 9) (aa (pv 11) ai))))))))))
 bu)
 (ak (cN (aG iz (pv 5) af (aM _))
 (au (aJ (bB (aa bz (aa (pv 8) (aa (pv 11) ai))))))
 bu)
 (ak (cN (aG dW (ay bh (ay bT (pv 10) af) af) af (aM _))
 (au (aJ (bB (aa bz (aa (pv 8) (aa (pv 11) (aa (ay bh (ay bT (pv 10) af) (pv 2)) ai)))))))
 bu)
 (au (aJ (bB (aa bz (aa (pv 8) (aa (ay bh (ay bT (pv 10) af) (pv 2)) (aa (pv 11) ai)))))))))))))))))),?_⟩
 have yf:(ks.map V.int).length=ks.length:=av _;show(_:TS) (Ends.mk _ _ _ _) [_,_,_,_,_,_,_,_,_,_,_,_] H;walk_at "start";walk_at "go";refine ia (λi ys H'=>aB H H'/\∃ls:List Int,ys=ls.map V.int/\ls.length=i/\∀k∈ls,fq k) ⟨aB.refl _,[],rfl,rfl,λk h=>nomatch h⟩ ?_ ?_
 .rintro i ys H' hi ⟨sm,ls,rfl,hl,hlb⟩;have hi:i<3:=by omega
  refine⟨bU (by rw[av];omega),?_⟩;have ha':=sm _ _ ha;walk_at "go";rename_i t2 H2 n2;have ha2:=n2.keep ha';have b3:∃g:Int,nF [V.int 1,V.int 8,V.int 64] (0+((i:Nat):Int))=some (.int g)/\0<g/\g<=64:=by
   rcases i with _|_|_|i
   .exact⟨1,rfl,by decide,by decide⟩
   .exact⟨8,rfl,by decide,by decide⟩
   .exact⟨64,rfl,by decide,by decide⟩
   .omega
  obtain⟨g,hg,g0,g1⟩:=b3;refine vc (cM.of n2.self) hg ?_;walk_at "go";rw[yf];have bb:=bH (a:=c / 16 / g % 8) (b:=(ks.length:Int)) (by omega);obtain⟨v,hv,mv⟩:=lM (ns:=ks) (i:=c / 16 / g % 8 % (ks.length:Int)) bb.1 bb.2;refine cJ (bE.of ha2) hv ?_;refine⟨sm.trans n2.same,ls++[v],by rw[bF];rfl,by simp[hl],λk h=>?_⟩;rcases aO.mp h with h|h
  .exact hlb k h
  .rw[aA.mp h];exact hb v mv
 rintro ys H2 ⟨s2,ls,rfl,hl,hlb⟩ l H3 n3;have hl3:ls.length=3:=by omega
 match ls,hl3 with
 | [k,i,j],_ =>
 have bk:=hlb k (by simp);have bi:=hlb i (by simp);have bj:=hlb j (by simp);have s3:aB H H3:=s2.trans n3.same
 replace n3:fh H2 l (.lst [.int k,.int i,.int j]) H3:=n3
 have b5:=bH (a:=c / 16 / 512 / 512) (b:=m) (by omega);obtain⟨hq1,En⟩:jQ m (if m-1<p+1 then m-1 else p+1)/\(p+1<m->p+1=if m-1<p+1 then m-1 else p+1):=⟨by split<;>exact⟨by omega,by omega⟩,by split<;>omega⟩;have bv:isVal ((c / 16 / 512 / 256) % 2 ^ (48:Int).toNat):=bH (by decide);have b9:=bH (a:=c / 16 / 512 / 256) (b:=9) (by decide);obtain⟨ch,hch,Ua⟩:=Jj b9.1 b9.2;walk_at "go"
 all_goals first
  | (rename_i t4 H4 n4;exact q t4 H4 (.back i) (s3.trans n4.same) n4.self bi trivial (λh=>by omega))
  | (rename_i t4 H4 n4;exact q t4 H4 (.num 2 k _ _) (s3.trans n4.same) n4.self ⟨⟨by decide,by decide⟩,bk,bv,hq1⟩ rfl (λh=>aA.mpr (En h)))
  | (rename_i t4 H4 n4;exact q t4 H4 (.copy 2 k i _) (s3.trans n4.same) n4.self ⟨⟨by decide,by decide⟩,bk,bi,hq1⟩ rfl (λh=>aA.mpr (En h)))
  | (rename_i t4 H4 n4;exact q t4 H4 (.out i _) (s3.trans n4.same) n4.self ⟨bi,hq1⟩ trivial (λh=>aA.mpr (En h)))
  | (rename_i t4 H4 n4;exact q t4 H4 (.fork i _ _) (s3.trans n4.same) n4.self ⟨bi,hq1,b5⟩ trivial (λh=>aI.mpr (.inl (En h))))
  | (rename_i t4 H4 n4;exact q t4 H4 (.fork i _ _) (s3.trans n4.same) n4.self ⟨bi,b5,hq1⟩ trivial (λh=>dg _ (aA.mpr (En h))))
  | skip
 all_goals
  refine Nq (by decide) hch ?_;walk_at "go";rename_i t4 H4 n4;exact q t4 H4 (.op 2 ⟨#[ch]⟩ k i j _) (s3.trans n4.same) n4.self ⟨⟨by decide,by decide⟩,Ua,bk,bi,bj,hq1⟩ rfl (λh=>aA.mpr (En h))
end
theorem lV{α β:Type}{F:α->β->Prop}:∀{xs:List α}{ys:List β}(j:Nat){x:α}{y:β},Paired F xs ys->F x y->Paired F (xs.set j x) (ys.set j y)
 | _,_,_,_,_,.nil,_=>.nil
 | _,_,0,_,_,.cons _ t,h=>.cons h t
 | _,_,j+1,_,_,.cons a t,h=>.cons a (lV j t h)
def Kf(h1:r.key ≠ "fork")(h2:r.ways≠[])(q:Int):iP r.vals none (some (-1))++[V.int q]=(r.cU λ_=>q).vals/\¬(HT.dB r.vals.length 0 none=0/\HT.dB r.vals.length r.vals.length (some (-1))=r.vals.length):=by
 cases r
 case fork=>exact absurd rfl h1
 case back=>exact absurd rfl h2
 all_goals exact⟨rfl,by simp only[Row.vals,Row.rest,eB,mY];decide⟩
def Rb{f:Int->Int}(h:r.pl):(r.cU f).pl:=by cases r<;>exact h
def v9{α:Type}{l:List α}{x:α}{n:Nat}(hn:l.length=n+1)(hx:l[n]?=some x):nF l (-1)=some x:=by unfold nF EO;rw[if_neg (by decide),if_pos (by omega)];show l[((-1:Int)+(l.length:Int)).toNat]?=some x;rw[show((-1:Int)+(l.length:Int)).toNat=n by omega];exact hx
section
variable {P:Program}{w:World}{K:aD}{mg:Str->Option Value}{base:Heap}
structure Vi (rs:List Row) (n p:Nat):Prop where
 len:rs.length=n
 ok:∀r∈rs,r.ok n
 pl:∀r∈rs,r.pl
 lk:Lk rs p
def Rc:Sp:=λvs H Q _=>∃(a:Addr)(c:Int)(us:List V)(rs:List Row)(n:Nat)(H0:Hp),vs=[.ref a,.int c]/\aB H0 H/\H0 a=none/\H a=some (.lst us)/\Rows H us rs/\n<=1000/\0<n/\Vi rs n 0 /\
 ∀us' rs' p H',aB H0 H'->H' a=some (.lst us')->Rows H' us' rs'->Vi rs' n p->Q (.ref a) H'
def MQ(T:Txt w K mg):b7 P w K mg base gT 1 T.LW.f T.LW.d ["_law_rows", "_law_cell"] Rc:=by
 refine T.LW.F.ok xh (λvs H Q E h=>?_) (λcdv A outer s H vs Q E hr h=>?_)
 .obtain⟨a,c,us,rs,n,H0,rfl,_⟩:=h;rfl
 obtain⟨a,c,us,rs,n,H0,rfl,s0,fa,ha,rows,hn,hn0,hP,q⟩:=h;refine⟨_,(ak (eK bX rfl (EG rfl T.eW (aa af (aa (ay iI (aT bI rfl T.eS BT.eO (aa (pv 0) ai)) af) ai))) (aX (i:=2) xh.nd rfl (ao rfl))
 (ak (aE (i:=1) xh.nd rfl (ao rfl) (ay bT (pv 1) af))
 (au (cN (PW.pt (kj (aG dW (aS cO (aS bL (pv 0) (ay iI (pv 2) af) (λ_ _=>rfl)) af (λ_ _=>rfl)) bz (aM _)) (kj (aG Sk (aS cO (aS bL (pv 0) (pv 2) (λ_ _=>rfl)) af (λ_ _=>rfl)) bz (aM _)) (jv (aG yl (ay bh (pv 1) af) af (aM _))))))
 (ak (ja (aS bL (dN (aa (bB (aa bz (aa (aS cO (aS bL (pv 0) (ay iI (pv 2) af) (λ_ _=>rfl)) af (λ_ _=>rfl)) (aa (pv 2) (aa (ay aZ (pv 2) af) ai))))) (aa (bB (aa bz (aa (aS cO (aS bL (pv 0) (ay iI (pv 2) af) (λ_ _=>rfl)) af (λ_ _=>rfl)) (aa (ay aZ (pv 2) af) (aa (pv 2) ai))))) ai))) (ay bh (pv 2) af) (λ_ _=>rfl)) (ko (pv 0) (ay iI (pv 2) af) set_list))
 (au (ja (ay jw (c7 kq (aS bL (pv 0) (pv 2) (λ_ _=>rfl)) eV (dX (lC jc af))) (bB (aa (ay bh (ay bT (pv 1) af) (aT bI rfl T.eS BT.eO (aa (pv 0) ai))) ai))) (ko (pv 0) (pv 2) set_list))))
 bu))))
 (au (aJ (pv 0)))),?_⟩
 have qw:=rows.length;have hrl:=hP.len;show(_:TS) (Ends.mk _ _ _ _) [_,_,_] H;walk_at "start";walk_at "go";refine qJ (λi σ' H'=>∃c x us rs,σ'=[some (.ref a),some (.int c),x]/\aB H0 H'/\H' a=some (.lst us)/\Rows H' us rs/\Vi rs n (i+1)) ⟨c,_,us,rs,rfl,s0,ha,rows,hP.len,hP.ok,hP.pl,hP.lk.next⟩ ?_ ?_
 .rintro i σ' H1 hi ⟨c,x,us,rs,rfl,s1,ha1,gD,h1⟩;have ad3:=gD.length;have ZQ:=h1.len;have hi:i+2<n:=by omega
  walk_at "go";have skip:Vi rs n (i+1+1):=⟨h1.len,h1.ok,h1.pl,h1.lk.next⟩;obtain⟨r1,hr1⟩:∃r,rs[i]?=some r:=⟨_,fO (by omega)⟩;obtain⟨r2,hr2⟩:∃r,rs[i+1]?=some r:=⟨_,fO (by omega)⟩;obtain⟨ra,hat,tH⟩:=oY gD hr1;obtain⟨rb,Wz,hrb⟩:=oY gD hr2;have ZR:=Wz;have ZS:=hat;rw[show((i:Nat):Int)=1+(i:Int)-1 by omega] at hat;rw[show((i+1:Nat):Int)=1+(i:Int) by omega] at Wz;refine cJ (bE.of ha1) hat ?_;by_cases hk1:r1.key = "fork"
  case neg =>
   walk_at "go";exact⟨_,_,us,rs,rfl,s1,ha1,gD,skip⟩
  walk_at "go";refine cJ (bE.of ha1) Wz ?_;by_cases hk2:r2.key = "fork"
  case pos =>
   walk_at "go";exact⟨_,_,us,rs,rfl,s1,ha1,gD,skip⟩
  walk_at "go";rename_i hc3;obtain⟨b,x1,y1,rfl⟩:∃b x y,r1=.fork b x y:=by
   cases r1
   case fork b x y=>exact⟨b,x,y,rfl⟩
   all_goals exact absurd hk1 (by simp only[Row.key];decide)
  have tH:H1 ra=some (.tup [.str "fork", .int b,.int x1,.int y1]):=tH;refine cJ (bE.of ha1) hat ?_;walk_at "go";rename_i t1 H2 n2;refine cJ (bE.of (n2.keep ha1)) hat ?_;have ZT:=n2.keep tH;walk_at "go";rename_i t2 H3 n3 l H4 n4;have ht1:=n4.keep (n3.keep n2.self);have KU:=n4.keep n3.self;obtain⟨tn,f,htn,hf,fok,fpl,w1,w2⟩:∃(tn:Addr)(f:Row),nF [V.ref t1,V.ref t2] ((1+(i:Int)) % 2)=some (.ref tn)/\H4 tn=some (.tup f.vals)/\f.ok n/\f.pl/\((i+1:Nat):Int)∈f.ways/\((i+2:Nat):Int)∈f.ways:=by
   have hb:fq b:=(h1.ok _ (fB hr1)).1;have o1:jQ n (1+(i:Int)):=⟨by omega,by omega⟩;have o2:jQ n (1+(i:Int)+1):=⟨by omega,by omega⟩;rcases(by omega:(1+(i:Int)) % 2=0\/(1+(i:Int)) % 2=1) with e|e
   .exact⟨t1,.fork b _ _,by rw[e];rfl,ht1,⟨hb,o1,o2⟩,trivial,aI.mpr (.inl (by omega)),dg _ (aA.mpr (by omega))⟩
   .exact⟨t2,.fork b _ _,by rw[e];rfl,KU,⟨hb,o2,o1⟩,trivial,dg _ (aA.mpr (by omega)),aI.mpr (.inl (by omega))⟩
  have s4:=(n2.same.trans n3.same).trans n4.same;have Uc:=s4 _ _ ha1;have j7:=gD.same s4;refine cJ (bE.of n4.self) htn ?_;clear n2 n3 n4 ht1 KU ZT;walk_at "go";refine kB (j:=i) Uc (by rw[show 1+(i:Int)-1=i by omega,lN (by omega) (by omega)];rfl) ?_;intro H5 p5;have tt:=eT Uc p5;have gB:Rows H5 (us.set i (.ref tn)) (rs.set i f):=lV i (j7.jk tt) ⟨tn,rfl,tt _ _ hf⟩;have s5:=p5.same (s1.trans s4) fa;have MN:=p5.self;have hr5:(rs.set i f)[i+1]?=some r2:=by rw[pH (by omega)];exact hr2
  obtain⟨rc,hct,hrc⟩:=oY gB hr5;rw[show((i+1:Nat):Int)=1+(i:Int) by omega] at hct;have hl5:(us.set i (.ref tn)).length=n:=by rw[eE];omega
  obtain⟨cl,cw⟩:=Kf hk2 (λz=>by have:=h1.lk.b (i+1) r2 (by omega) (by omega) hr2;rw[z] at this;exact nomatch this) (c / 5 / 3 % (n:Int));have hq:=bH (a:=c / 5 / 3) (b:=(n:Int)) (by omega);clear tH hrb hat Wz ZS ZR p5 j7 Uc;walk_at "go";refine cJ (bE.of MN) hct ?_;walk_at "go";refine je (cM.of hrc) cw ?_;intro t6 H6 n6;have ha6:=n6.keep MN;walk_at "go";rename_i t7 H7 n7;rw[hl5] at n7;have hcl:(iP r2.vals none (some (-1))).length+1=(r2.cU λ_=>c / 5 / 3 % (n:Int)).vals.length/\iP r2.vals none (some (-1))≠[]:=by rw[<- cl,aR];refine⟨rfl,λz=>?_⟩;rw[z] at cl;cases r2<;>cases cl
  have hvl:(r2.cU λ_=>c / 5 / 3 % (n:Int)).vals.length<=7:=by cases r2<;>exact eU rfl
  refine fj (cM.of (n7.keep n6.self)) (cM.of n7.self) hcl.2 (by simp) (by simp only[eB,mY];omega) ?_;intro t8 H8 n8;rw[cl] at n8;have s8:=(n6.same.trans n7.same).trans n8.same;have ha8:=s8 _ _ MN;have Ao:=gB.same s8;have h8:=n8.self;clear n6 n7 n8 ha6;walk_at "go";refine kB (j:=i+1) ha8 (by rw[lN (by omega) (by omega)];exact congrArg some (by omega)) ?_;intro H9 p9;have tt9:=eT ha8 p9;walk_at "go";refine⟨_,_,_,(rs.set i f).set (i+1) (r2.cU λ_=>c / 5 / 3 % (n:Int)),rfl,p9.same (s5.trans s8) fa,p9.self,lV _ (Ao.jk tt9) ⟨t8,rfl,tt9 _ _ h8⟩,⟨by rw[eE,eE];exact ZQ,λr hr=>?_,λr hr=>?_,h1.lk.ZN w1 w2⟩⟩
  .rcases rV hr with hr|rfl
   .rcases rV hr with hr|rfl
    .exact h1.ok r hr
    .exact fok
   .exact pA (h1.ok r2 (fB hr2)) λ_ _=>hq
  .rcases rV hr with hr|rfl
   .rcases rV hr with hr|rfl
    .exact h1.pl r hr
    .exact fpl
   .exact Rb (h1.pl r2 (fB hr2))
  .exact⟨_,_,us,rs,rfl,s1,ha1,gD,skip⟩
 .rintro σ' H1 ⟨c,x,us,rs,rfl,s1,ha1,gD,h1⟩;walk_at "go";exact q us rs _ H1 s1 ha1 gD h1
def MR(K:aD):Sp:=λvs H Q _=>∃(a:Addr)(ns:List Int)(n:Nat)(m:Int),vs=[.ref a,.int n,.int m]/\bE K H a (ns.map V.int)/\ns.length<=63/\0<n/\n<=1000/\0<m/\m<=1000 /\
 ∀q H' us rs,aB H H'->H' q=some (.lst us)->Rows H' us rs->rs.length=n->(∀r∈rs,Row.ok n r)->(∀r∈rs,r.pl)->(∀j,j<n->K1 rs j)->Q (.ref q) H'
def uN(T:Txt w K mg):b7 P w K mg base gT 4 T.kL.f T.kL.d ["_law_script", "_law_many", "_law_boxes"] (MR K):=by
 refine T.kL.F.ok f9 (λvs H Q E h=>?_) (λcdv A outer s H vs Q E hr h=>?_)
 .obtain⟨a,ns,n,y,rfl,_⟩:=h;rfl
 obtain⟨a,ns,n,m,rfl,hS,hn,h0,h1,hm0,hm1,q⟩:=h;refine⟨_,(ak (aE (i:=3) f9.nd rfl (cg rfl) (aP T.pool (DN T) hr (aa (pv 0) (aa (pv 2) ai))))
 (ak (aE (i:=4) f9.nd rfl (cg rfl) (aP T.numbers (tF T) hr (aa (pv 0) (aa (pv 1) ai))))
 (ak (aE (i:=5) f9.nd rfl (cg rfl) (ay bh (ay bT (aP T.ig (gu T) hr (aa (pv 0) (aa af ai))) af) af))
 (ak (jy (i:=6) f9.nd rfl (ao rfl) (bD.caps (x := "_law_p") (fr:=["_law_many", "_law_pool_here", "_law_numbers_here", "_law_way"]) (ix:=[1,3,4,5]) (nm:=["_law_way", "_law_pool_here", "_law_numbers_here", "_law_many"]) rfl rfl (by decide +kernel) rfl (by decide +kernel) rfl (by decide +kernel) ⟨rfl,⟨rfl,⟨rfl,⟨rfl,trivial⟩⟩⟩⟩ rfl (by decide +kernel) rfl ⟨⟨rfl,rfl,rfl⟩,⟨⟨rfl,rfl,rfl⟩,⟨⟨rfl,rfl,rfl⟩,⟨⟨rfl,rfl,rfl⟩,trivial⟩⟩⟩⟩) (dw rfl T.eW (aa (pv 1) ai)) (λ_ _ _ _=>cQ) (λ_ _ _ _=>(aP T.mz (xW T) hr (aa (aS (gJ (K:=K) rfl) (pv 3) (pv 0) (λ_ _=>rfl)) (aa (pv 0) (aa (pv 1) (aa (pv 2) (aa (pv 4) ai))))))))
 (au (aJ (aP T.LW (MQ T) hr (aa (pv 6) (aa (aS bL (pv 4) (lC jc af) (λ_ _=>rfl)) ai))))))))),?_⟩
 show(_:TS) (Ends.mk _ _ _ _) [_,_,_,_,_,_,_] H;walk_at "start";walk_at "go";refine⟨a,ns,m,rfl,hS,hm0,hm1,λp H1 ks s1 hp hk0 hk1 hkb=>?_⟩;walk_at "go";refine⟨a,ns,n,rfl,s1.seq hS,hn,h0,h1,λc H2 cs s2 hc hcl=>?_⟩;have hp2:=s2 _ _ hp;walk_at "go";refine⟨a,ns,0,rfl,(s1.trans s2).seq hS,by decide,λy=>?_⟩;walk_at "go";refine ia (λi ys H'=>aB H2 H'/\∃rs:List Row,Rows H' ys rs/\rs.length=i/\(∀r∈rs,r.ok n)/\(∀r∈rs,r.pl)/\∀(j:Nat)(r:Row),j+1<n->rs[j]?=some r->((j+1:Nat):Int)∈r.ways) ⟨aB.refl _,[],.nil,rfl,(λr h=>nomatch h),(λr h=>nomatch h),λj r _ h=>nomatch h⟩ ?_ ?_
 .rintro i ys H' hi ⟨sm,rs,hrs,hlen,hok,hpl,hlk⟩;have hi:i<n:=by omega
  refine⟨bU (by rw[hrs.length];omega),?_⟩;walk_at "go";obtain⟨v,hv⟩:=qW (ns:=cs) (i:=0+((i:Nat):Int)) (by omega) (by omega);refine cJ (bE.of (sm _ _ hc)) hv ?_;walk_at "go";refine⟨v,_,_,_,p,ks,rfl,by omega,by omega,by omega,sm _ _ hp2,hk0,hk1,hkb,λt H3 r s3 ht hr hp hl=>?_⟩;refine⟨sm.trans s3,rs++[r],cH (hrs.same s3) ⟨t,rfl,ht⟩,by simp[hlen],λr' h=>?_,λr' h=>?_,λj r' hj h=>?_⟩
  .rcases aO.mp h with h|h
   .exact hok r' h
   .rw[aA.mp h];exact hr
  .rcases aO.mp h with h|h
   .exact hpl r' h
   .rw[aA.mp h];exact hp
  .rcases aY j rs.length with hj'|hj'
   .rw[i7 hj'] at h;exact hlk j r' hj h
   .rw[iF hj'] at h;have:=(fu h).1;have e:j=i:=by simp at this;omega
    subst e;rw[hlen,Nat.sub_self] at h;cases h;have:=hl (by omega);rw[show 0+(j:Int)+1=((j+1:Nat):Int) by omega] at this;exact this
 .rintro ys H' ⟨sm,rs,hrs,hlen,hok,hpl,hlk⟩ g H3 n3;have hc3:=n3.keep (sm _ _ hc);have JH:aB H H':=(s1.trans s2).trans sm;have hPl:Vi rs n 0:=⟨by omega,hok,hpl,λj r hj hr=>.inl (hlk j r (by omega) hr),λj r _ hj hr=>hlk j r (by omega) hr⟩;walk_at "go";refine cJ (bE.of hc3) (v:=.int (cs.getD (n-1) 0)) (v9 (n:=n-1) (by rw[av];omega) (by rw[bw,fO (by omega),mJ,fO (by omega)];rfl)) ?_;walk_at "go";exact⟨g,_,ys,rs,n,H',rfl,n3.same,n3.1,n3.self,hrs.same n3.same,h1,h0,hPl,λus' rs' p' H4 s4 RM j7 P4=>q g H4 us' rs' (JH.trans s4) RM j7 P4.len P4.ok P4.pl λj hj=>(P4.lk.rch j (by rw[P4.len];exact hj)).1⟩
end
def Lt(rs:List Row):Prop:=iW (bR rs rs.length) (dI rs)/\∀k r t,rs[k]?=some r->t∈cz rs k->iM rs r t (dI rs ((k:Int),t))
def RN(rs:List Row):Prop:=Lt rs->∃m,dF rs=some m
def Ep(hne:rs≠[])(hf:∀(p:Nat)(r:Row),rs[p]?=some r->∀q∈r.ways,(p:Int)<q):RN rs:=λ⟨A2,o8⟩=>by obtain⟨F,h⟩:=MG A2 o8 hf;obtain⟨m,e,_⟩:=qB hne h;exact⟨m,e⟩
def Kg(h0:0<rs.length)(hok:∀r∈rs,r.ok rs.length)(hpl:∀r∈rs,r.pl)(RL:∀p,p<rs.length->K1 rs p):RN (bW rs rs.length)/\bW rs rs.length≠[]:=by
 have hne:bW rs rs.length≠[]:=λz=>by have h1:=d8 (rs:=rs) (p:=rs.length) (az _);rw[z] at h1;have:=pq (rs:=rs) h0;have e:([]:List Row).length=0:=rfl;omega
 refine⟨λ⟨A2,o8⟩=>?_,hne⟩;obtain⟨F,h⟩:=J7 hok hpl RL A2 o8;obtain⟨m,e,_⟩:=qB hne h;exact⟨m,e⟩
section
variable {P:Program}{w:World}{K:aD}{mg:Str->Option Value}{base:Heap}
def Kh:Sp:=λvs H Q _=>∃(c:Addr)(us:List V)(rs:List Row),vs=[.ref c]/\H c=some (.lst us)/\Rows H us rs/\(∀r∈rs,r.ok rs.length)/\rs.length<=200/\rs≠[]/\∀H',aB H H'->Lt rs->Q (oV (dF rs)) H'
def mF(T:Txt w K mg):b7 P w K mg base gT 7 T.delay.f T.delay.d ["code"] Kh :=
 (Ae (P:=P) (w:=w) (base:=base) T).imp λvs H Q E ⟨c,us,rs,h1,h2,h3,h4,h5,h6,q⟩=>⟨c,us,rs,h1,h2,h3,h4,h5,h6,λl1 l2=>⟨λH' s no=>by have:=q H' s ⟨l1,l2⟩;rw[v7 no] at this;exact this,λm H' s d=>by have:=q H' s ⟨l1,l2⟩;rw[qd d] at this;exact this⟩⟩
def Rf(K:aD):Sp:=λvs H Q _=>∃(a:Addr)(ns:List Int),vs=[.ref a]/\bE K H a (ns.map V.int)/\ns.length<=63 /\
 ∀q H' us rs,aB H H'->H' q=some (.lst us)->Rows H' us rs->xT rs 200->RN rs->Q (.ref q) H'
def MS(T:Txt w K mg):b7 P w K mg base gT 8 T.LX.f T.LX.d ["_law_script"] (Rf K):=by
 refine T.LX.F.ok qR (λvs H Q E h=>?_) (λcdv A outer s H vs Q E hr h=>?_)
 .obtain⟨a,ns,rfl,_⟩:=h;rfl
 obtain⟨a,ns,rfl,hS,hn,q⟩:=h;refine⟨_,(ak (aE (i:=1) qR.nd rfl (ao rfl) (aP T.mixed (oW T) hr (aa (aP T.ig (gu T) hr (aa (pv 0) (aa af ai))) (aa af ai))))
 (ak (cN (aG yl (ay bh (pv 1) af) af (aM _))
 (au (aJ (aP T.xr (F9 T) hr (aa (aP T.kL (uN T) hr (aa (pv 0) (aa (ay aZ af (ay bh (ay bT (pv 1) af) af)) (aa af ai)))) ai))))
 bu)
 (ak (aE (i:=2) qR.nd rfl (ao rfl) (aP T.code (An T) hr (aa (pv 0) (aa (ay aZ af (ay bh (ay bT (pv 1) af) af)) (aa af ai)))))
 (iR (cN (PW.pt (rZ (aG C1 (aP T.delay (mF T) hr (aa (pv 2) ai)) nh (aM _)) (pN (aG dW (ay bh (ay bT (pv 1) af) af) af (aM _)))))
 (au (aE (i:=2) qR.nd rfl (ao rfl) (aP T.code (An T) hr (aa (pv 0) (aa (ay aZ af (ay bh (ay bT (pv 1) af) af)) (aa (ay bh (ay bT (pv 1) af) af) ai))))))
 bu)
 (au (aJ (pv 2))))))),?_⟩
 show(_:TS) (Ends.mk _ _ _ _) [_,_,_] H;walk_at "start";walk_at "go";refine⟨a,ns,0,rfl,hS,by decide,λc0=>?_⟩;walk_at "go";refine⟨_,8,rfl,λc _ _=>?_⟩;have b3:=bH (a:=c / 3) (b:=3) (by decide);have b6:=bH (a:=c / 3) (b:=6) (by decide);have b2:=bH (a:=c / 36) (b:=2) (by decide);walk_at "go"
 .have eN:2+c / 3 % 3=((2+c / 3 % 3).toNat:Int):=by omega
  rw[eN];refine⟨a,ns,_,2,rfl,hS,hn,by omega,by omega,by decide,by decide,λl H1 us rs s1 hl rows hle hok hpl RL=>?_⟩;rw[<- hle] at hok RL;walk_at "go";refine⟨l,us,rs,rfl,hl,rows,hok,by omega,λg vs H2 s2 fg hg gC=>?_⟩;obtain⟨hh,hne⟩:=Kg (by omega) hok hpl RL;have:=qf rs rs.length;have:=d8 (rs:=rs) (p:=rs.length) (az _);walk_at "go";exact q g H2 vs _ (s1.trans s2) hg gC ⟨Ej hok,hne,by omega⟩ hh
 .have eN:3+c / 3 % 6=((3+c / 3 % 6).toNat:Int):=by omega
  rw[eN];refine⟨a,ns,_,2,rfl,hS,hn,by omega,by omega,λl H1 us rs s1 hl rows hle hok _=>?_⟩;rw[<- hle] at hok;have hne:rs≠[]:=λz=>by rw[z] at hle;have e:([]:List Row).length=0:=rfl;omega
  walk_at "go";refine ql (λσ' H'=>∃l us rs,σ'=[some (.ref a),some (.int c),some (.ref l)]/\aB H H'/\H' l=some (.lst us)/\Rows H' us rs/\xT rs 200/\RN rs) ?_ ?_
  .walk_at "go";refine⟨l,us,rs,rfl,hl,rows,hok,by omega,hne,λH2 s2 lt=>?_⟩;have again:∀{Q':V->Hp->Prop}{E':XK},(∀q H' us rs,aB H H'->H' q=some (.lst us)->Rows H' us rs->xT rs 200->RN rs->Q' (.ref q) H')->Eo K [.ref a,.int (3+c / 3 % 6),.int (c / 36 % 2)] H2 Q' E':=λq'=>by
    rw[eN];refine⟨a,ns,_,_,rfl,(s1.trans s2).seq hS,hn,by omega,by omega,λl3 H3 Rg OE s3 hl3 fN Vj Vk K2=>?_⟩;rw[<- Vj] at Vk;have Vl:OE≠[]:=λz=>by rw[z] at Vj;have e:([]:List Row).length=0:=rfl;omega
    exact q' l3 H3 Rg OE ((s1.trans s2).trans s3) hl3 fN ⟨Vk,Vl,by omega⟩ (Ep Vl (K2 (by omega)))
   cases hd:dF rs with
   | none =>
    rw[show oV none=.cY from rfl];walk_at "go";refine again λl3 H3 Rg OE s3 hl3 fN t3 h3=>?_;walk_at "go";exact⟨l3,Rg,OE,rfl,s3,hl3,fN,t3,h3⟩
   | some m =>
    rw[show oV (some m)=.int m from rfl];walk_at "go"
    .refine again λl3 H3 Rg OE s3 hl3 fN t3 h3=>?_;walk_at "go";exact⟨l3,Rg,OE,rfl,s3,hl3,fN,t3,h3⟩
    .exact⟨l,us,rs,rfl,s1.trans s2,s2 _ _ hl,rows.same s2,⟨hok,hne,by omega⟩,λ_=>⟨m,hd⟩⟩
  .rintro _ H3 ⟨l3,Rg,OE,rfl,s3,hl3,fN,t3,h3⟩;walk_at "go";exact q l3 H3 Rg OE s3 hl3 fN t3 h3
def MT(K:aD):Sp:=λvs H Q _=>∃(a:Addr)(p:Int)(r:Row),vs=[.ref a,.int p]/\H a=some (.tup r.vals)/\∀t H',aB H H'->H' t=some (.tup (r.cU (xS p)).vals)->Q (.ref t) H'
def Rh(p z:Int):z-(if decide (z>p)=true then 1 else 0)=xS p z:=by
 unfold xS;by_cases h:p<z
 .rw[if_pos h,if_pos (decide_eq_true h)]
 .rw[if_neg h,if_neg (by simpa using h)];omega
def Row.pre:Row->List V
 | .num d k v _=>[.str "num", .int d,.int k,.int v]|.copy d k i _=>[.str "copy", .int d,.int k,.int i]|.op d s k i j _=>[.str "op", .int d,.str s,.int k,.int i,.int j]
 | .out i _=>[.str "out", .int i]|.fork i _ _=>[.str "fork", .int i]|.look i _=>[.str "look", .int i]|.mark _=>[.str "mark"]|.back i=>[.str "back", .int i]
def Kl(r:Row):r.vals=r.pre++r.ways.map V.int:=by cases r<;>rfl
def Er(f:Int->Int)(r:Row):(r.cU f).vals=r.pre++(r.ways.map f).map V.int:=by cases r<;>rfl
def Km(r:Row):1<=r.pre.length/\r.pre.length<=6:=by cases r<;>exact⟨by simp[Row.pre],by simp[Row.pre]⟩
def Ga(r:Row)(h:¬r.key = "back"):(-1-if decide (r.key = "fork")=true then 1 else 0:Int) = - (r.ways.length:Int)/\0<r.ways.length:=by
 cases r
 case back=>exact absurd rfl h
 all_goals exact⟨rfl,by simp[Row.ways]⟩
def Es{n:Nat}(h0:0<k)(h:k<=n)(d:Nat):HT.dB n d (some (-(k:Int)))=n-k:=by
 simp only[HT.dB];split
 .omega
 .omega
def MU(xs ys:List V)(h:0<ys.length):iP (xs++ys) (some (-(ys.length:Int))) none=ys:=by unfold iP;rw[Es h (by rw[aR];omega),HT.yp,aR];rw[show xs.length+ys.length-ys.length=xs.length by omega,List.drop_left,show xs.length+ys.length-xs.length=ys.length by omega,cG]
def Ri(xs ys:List V):iP (xs++ys) none (some (xs.length:Int))=xs:=by
 unfold iP;have e:HT.dB (xs++ys).length (xs++ys).length (some (xs.length:Int))=xs.length:=by simp[HT.dB];omega
 have e0:HT.dB (xs++ys).length 0 none=0:=rfl;rw[e,e0];simp
def mvV(p:Int):V->V
 | .int z=>.int (xS p z)|v=>v
def Kn(T:Txt w K mg):b7 P w K mg base gT 1 T.moved.f T.moved.d ["_law_row_here", "_law_place"] (MT K):=by
 refine T.moved.F.ok zH (λvs H Q E h=>?_) (λcdv A outer s H vs Q E hr h=>?_)
 .obtain⟨a,p,r,rfl,_⟩:=h;rfl
 obtain⟨a,p,r,rfl,ha,q⟩:=h;refine⟨_,(ak (cN (aG dW (aS cO (pv 0) af (λ_ _=>rfl)) bz (aM _))
 (au (aJ (pv 0)))
 bu)
 (ak (jy (i:=2) zH.nd rfl (ao rfl) (bD.caps (x := "_law_q") (fr:=["_law_place"]) (ix:=[1]) (nm:=["_law_place"]) rfl rfl (by decide +kernel) rfl (by decide +kernel) rfl (by decide +kernel) ⟨rfl,trivial⟩ rfl (by decide +kernel) rfl ⟨⟨rfl,rfl,rfl⟩,trivial⟩) (GL (c7 kq (pv 0) (dX (ay iI (lC jc af) (dz vd rfl T.N1 BT.Nn (aa (gH dW (aS cO (pv 0) af (λ_ _=>rfl)) bz (aM _)) ai)))) eV)) (λ_ _ _ _=>cQ) (λ_ _ _ _=>(ay iI (pv 0) (dz vd rfl T.N1 BT.Nn (aa (gH yl (pv 0) (pv 1) (aM _)) ai)))))
 (au (aJ (ay jw (c7 kq (pv 0) eV (dX (ay iI (aT bI rfl T.eS BT.eO (aa (pv 0) ai)) (aT bI rfl T.eS BT.eO (aa (pv 2) ai))))) (dz vf rfl T.DK BT.CV (aa (pv 2) ai))))))),?_⟩
 show(_:TS) (Ends.mk _ _ _ _) [_,_,_] H;walk_at "start";by_cases hk:r.key = "back"
 .walk_at "go";cases r
  case back=>exact q _ _ (aB.refl _) ha
  all_goals exact absurd hk (by simp only[Row.key];decide)
 obtain⟨e1,hw0⟩:=Ga r hk;have hw2:=Row.oU r;have Vm:=Km r;have hv:=Kl r;have hwl:(r.ways.map V.int).length=r.ways.length:=av _;have c1:=MU r.pre (r.ways.map V.int) (by omega);have c2:=Ri r.pre (r.ways.map V.int);rw[hwl] at c1;walk_at "go";rw[e1];have ha':=ha;rw[hv] at ha';refine je (cM.of ha') ?_ ?_
 .rw[Es hw0 (by rw[aR];omega),aR];omega
 intro t1 H1 n1;rw[c1] at n1;walk_at "go";refine PL (mvV p) (cM.of n1.self) (by omega) ?_ ?_
 .intro x hx Q h;obtain⟨z,hz,rfl⟩:=aF.mp hx;walk_at "go";rw[Rh];exact h
 intro l2 H2 n2;rw[show(r.ways.map V.int).map (mvV p)=(r.ways.map (xS p)).map V.int by rw[fV,fV];rfl] at n2;have hl2:((r.ways.map (xS p)).map V.int).length=r.ways.length:=by rw[av,av]
 have ha2:H2 a=some (.tup (r.pre++r.ways.map V.int)):=n2.keep (n1.keep ha');have s01:=n1.same;clear ha n1;walk_at "go";rw[hl2,aR,hwl,show((r.pre.length+r.ways.length:Nat):Int)-(r.ways.length:Int)=(r.pre.length:Int) by omega];refine je (cM.of ha2) ?_ ?_
 .rw[aR,hwl];intro h;have:=h.2;rw[HT.qI] at this;omega
 intro t3 H3 n3;rw[c2] at n3;walk_at "go";rename_i t4 H4 n4;refine fj (cM.of (n4.keep n3.self)) (cM.of n4.self) (by intro h;rw[h] at Vm;simp at Vm) (by intro h;rw[h] at hl2;simp at hl2;omega) (by omega) ?_;intro t5 H5 n5;exact q t5 H5 ((((s01.trans n2.same).trans n3.same).trans n4.same).trans n5.same) (by rw[n5.self,Er])
def uO(T:Txt w K mg):b7 P w K mg base gT 1 T.kM.f T.kM.d ["_law_code_here", "_law_p"] (Ek K):=by
 refine T.kM.F.ok uK (λvs H Q E h=>?_) (λcdv A outer s H vs Q E hr h=>?_)
 .obtain⟨c,p,us,rs,r,rfl,_⟩:=h;rfl
 obtain⟨c,p,us,rs,r,rfl,hc,hrs,hr',q⟩:=h;refine⟨_,(au (aJ (A5 (M6 (gH dW (aS cO (aS bL (pv 0) (pv 1) (λ_ _=>rfl)) af (λ_ _=>rfl)) bz (aM _)) (r6 (gH dW (aS cO (aS bL (pv 0) (pv 1) (λ_ _=>rfl)) af (λ_ _=>rfl)) bz (aM _)))) (r6 (gH dW (aS cO (aS bL (pv 0) (pv 1) (λ_ _=>rfl)) (lC jc af) (λ_ _=>rfl)) (ay aZ (pv 1) af) (aM _)))))),?_⟩;show(_:TS) (Ends.mk _ _ _ _) [_,_] H;have hl:=hrs.length;have hp:p<rs.length:=(fu hr').1;obtain⟨ra,hat,tH⟩:=oY hrs hr';walk_at "start";walk_at "go";refine cJ (bE.of hc) hat ?_;cases r
 all_goals simp only[Row.vals,Row.key,Row.rest] at tH
 all_goals simp only[Row.iN] at q
 all_goals walk_at "go"
 all_goals refine cJ (bE.of hc) hat ?_
 all_goals walk_at "go"
 all_goals try(refine cJ (bE.of hc) hat ?_;walk_at "go")
 all_goals exact q _ (aB.refl _)
def lW(T:Txt w K mg):b7 P w K mg base gT 2 T.iB.f T.iB.d ["_law_code_here", "_law_p"] (v8 K):=by
 refine T.iB.F.ok tw (λvs H Q E h=>?_) (λcdv A outer s H vs Q E hr h=>?_)
 .obtain⟨c,p,us,rs,rfl,_⟩:=h;rfl
 obtain⟨c,p,us,rs,rfl,hc,hrs,hl,hok,q⟩:=h;refine⟨_,(au (aJ (cP (bD.caps (x := "_law_one") (fr:=["_law_p"]) (ix:=[1]) (nm:=["_law_p"]) rfl rfl (by decide +kernel) rfl (by decide +kernel) rfl (by decide +kernel) ⟨rfl,trivial⟩ rfl (by decide +kernel) rfl ⟨⟨rfl,rfl,rfl⟩,trivial⟩) (cI (ay su (c7 kr (pv 0) eV (dX (pv 1))) (c7 kr (pv 0) (dX (ay aZ (pv 1) af)) eV))) (λ_ _ _ _=>cQ) (λ_ _ _ _=>(aP T.moved (Kn T) hr (aa (pv 0) (aa (pv 1) ai))))))),?_⟩;show(_:TS) (Ends.mk _ _ _ _) [_,_] H;have qw:=hrs.length;have c1:=fG us none (some (p:Int));have c2:=fG us (some ((p:Int)+1)) none;walk_at "start";walk_at "go";rename_i l3 H3 n3 l4 H4 n4 l5 H5 n5;have U7:aB H H5:=by walk_at "same"
 have gB:=hrs.same U7;refine DP (rs:=qG rs rs.length none (some p)++qG rs rs.length (some (p+1)) none) (Row.cU (xS p)) (bE.of n5.self) ?_ (by rw[aR];omega) ?_ ?_
 .have k1:=pB gB none (some (p:Int));have k2:=pB gB (some ((p:Int)+1)) none;rw[qw] at k1 k2;exact Paired.app' k1 k2
 .intro r hr' ra H6 s6 tH Q h;walk_at "go";exact⟨ra,_,r,rfl,tH,λt H7 s7 ht=>h t H7 s7 ht⟩
 .intro us' p' H6 H7 s6 n7 ue;exact q p' us' H6 H7 (U7.trans s6) n7 ue
def Vn:Sp:=λvs H Q _=>∃(c:Addr)(us:List V)(rs:List Row)(n:Int),vs=[.ref c,.int n]/\H c=some (.lst us)/\Rows H us rs/\xT rs 200/\qh n rs /\
 ∀(g:Addr)(vs:List V)(H':Hp),aB H H'->H' g=some (.lst vs)->Rows H' vs (e8 n rs.length rs)->Q (.ref g) H'
def Rj(T:Txt w K mg):b7 P w K mg base gT 8 T.due.f T.due.d ["_law_code_here", "_law_number"] Vn:=by
 refine T.due.F.ok lK (λvs H Q E h=>?_) (λcdv A outer s H vs Q E hr h=>?_)
 .obtain⟨c,us,rs,n,rfl,_⟩:=h;rfl
 obtain⟨c,us,rs,n,rfl,hc,rows,ht,U8,q⟩:=h;refine⟨_,(ak (aE (i:=2) lK.nd rfl (ao rfl) (ay aZ (aT bI rfl T.eS BT.eO (aa (pv 0) ai)) af))
 (ak (jV bX (aG iz (aT bI rfl T.eS BT.eO (aa (pv 0) ai)) (pv 2) (aM _))
 (ak (aE (i:=2) lK.nd rfl (ao rfl) (aT bI rfl T.eS BT.eO (aa (pv 0) ai)))
 (ak (aE (i:=3) lK.nd rfl (ao rfl) af)
 (au (jV bX (aG iz (pv 3) (aT bI rfl T.eS BT.eO (aa (pv 0) ai)) (aM _))
 (ak (aE (i:=4) lK.nd rfl (ao rfl) nh)
 (iR (cN (rY (aP T.kM (uO T) hr (aa (pv 0) (aa (pv 3) ai))))
 (au (aE (i:=4) lK.nd rfl (ao rfl) (aP T.delay (qi T) hr (aa (aP T.iB (lW T) hr (aa (pv 0) (aa (pv 3) ai))) ai))))
 bu)
 (au (Ht (PW.pt (kj (aG yE (pv 4) nh (aM _)) (jv (aG CJ (pv 4) (pv 1) (aM _)))))
 (au (aE (i:=0) lK.nd rfl (ao rfl) (aP T.iB (lW T) hr (aa (pv 0) (aa (pv 3) ai)))))
 (au (aE (i:=3) lK.nd rfl (ao rfl) (ay aZ (pv 3) af))))))))))))
 (au (aJ (pv 0))))),?_⟩
 have qw:=rows.length;show(_:TS) (Ends.mk _ _ _ _) [_,_,_,_,_] H;walk_at "start";walk_at "go";refine l8 (λk σ' H'=>∃l vs ls m x y,σ'=[some (.ref l),some (.int n),some (.int m),x,y]/\aB H H'/\H' l=some (.lst vs)/\Rows H' vs ls/\xT ls 200/\qh n ls/\(((ls.length:Int)<m/\e8 n k ls=e8 n rs.length rs/\ls.length<=k)\/(¬(ls.length:Int)<m/\ls=e8 n rs.length rs))) ?_ ?_
 .exact⟨rs.length,c,us,rs,_,_,_,rfl,aB.refl _,hc,rows,ht,U8,.inl ⟨by omega,rfl,az _⟩⟩
 clear qw;rintro k σ' H1 ⟨l,vs,ls,m,x,y,rfl,s1,hl1,gD,t1,sn1,alt⟩;have hvl:=gD.length;have hln:=t1.len;walk_at "go"
 .rename_i hlt;obtain⟨_,GA,hlk⟩:(ls.length:Int)<m/\e8 n k ls=e8 n rs.length rs/\ls.length<=k:=by
   rcases alt with h|⟨h,_⟩
   .exact h
   .exact absurd (by omega) h
  refine l8 (λk' σ' H'=>∃l vs rs' p y,σ'=[some (.ref l),some (.int n),some (.int (ls.length:Int)),some (.int ((p:Nat):Int)),y]/\aB H H'/\H' l=some (.lst vs)/\Rows H' vs rs'/\xT rs' 200/\p<=rs'.length/\Ak n (rs'.length-p) rs' p=dJ n ls/\k'=rs'.length-p) ?_ ?_
  .exact⟨_,l,vs,ls,0,_,by rw[hvl];rfl,s1,hl1,gD,t1,aH _,rfl,rfl⟩
  clear hlt alt;rintro k' σ' H2 ⟨l,vs,rs',p,y,rfl,s2,hl2,gC,t2,hp2,hg,rfl⟩;have Vf:=gC.length;have aed:=t2.len;walk_at "go"
  .rename_i hlt;have hp:p<rs'.length:=by omega
   obtain⟨r,hr'⟩:∃r,rs'[p]?=some r:=⟨_,fO hp⟩;obtain⟨j,ej⟩:∃j,rs'.length-p=j+1:=⟨rs'.length-p-1,by omega⟩;rw[ej,xU hr'] at hg;refine ql (λσ' H'=>∃d:Option Int,σ'=[some (.ref l),some (.int n),some (.int (ls.length:Int)),some (.int (p:Int)),some (oV d)]/\aB H2 H'/\gS d n=(r.iN p&&gS (dF (iJ rs' (p:Int))) n)/\(gS d n=true->r.iN p=true)) ?_ ?_
   .walk_at "go";refine⟨l,p,vs,rs',r,rfl,hl2,gC,hr',λH3 s3=>?_⟩;have hl3:=s3 _ _ hl2;have fN:=gC.same s3;cases hcg:r.iN p with
    | false =>
     walk_at "go";exact⟨none,rfl,s3,by rw[hcg];rfl,λh=>nomatch h⟩
    | true =>
     have ho:=t2.out hr' hcg;have yc:=ho.len;walk_at "go";refine⟨l,p,vs,rs',rfl,hl3,fN,by omega,t2.ok,λc' us' H4 H5 s4 n5 gB=>?_⟩;have KY:=s4.trans n5.same;have hc5:=n5.self;clear n5 s4;walk_at "go";refine⟨c',us',iJ rs' (p:Int),rfl,hc5,gB,ho.ok,yc,ho.ne,λH6 s6=>?_⟩;walk_at "go";exact⟨_,rfl,(s3.trans KY).trans s6,by rw[hcg,Bool.true_and],λ_=>hcg⟩
   rintro _ H3 ⟨d,rfl,s3,hd,hdg⟩;rw[<- hd] at hg;have hl3:=s3 _ _ hl2;have fN:=gC.same s3;have xF:=s2.trans s3;have stay:gS d n=false->Ak n (rs'.length-(p+1)) rs' (p+1)=dJ n ls:=λe=>by rw[e,if_neg (by decide)] at hg;rw[<- hg,show rs'.length-(p+1)=j by omega]
   refine NB (λH'=>H'=H3/\gS d n=true) (λH'=>H'=H3/\gS d n=false) ?_ ?_ ?_
   .cases d with
    | none =>
     rw[show oV none=.cY from rfl];walk_at "go";exact⟨rfl,rfl⟩
    | some e =>
     rw[show oV (some e)=.int e from rfl];walk_at "go"
     .rename_i he;exact⟨rfl,decide_eq_true he⟩
     .rename_i he;exact⟨rfl,decide_eq_false he⟩
   .rintro _ ⟨rfl,hs⟩;have ho:=t2.out hr' (hdg hs);have yc:=rm (rs:=rs') (p:=p) hp;rw[hs,if_pos rfl] at hg;walk_at "go";refine⟨l,p,vs,rs',rfl,hl3,fN,by omega,t2.ok,λc' us' H4 H5 s4 n5 gB=>?_⟩;walk_at "go";exact⟨_,by omega,c',us',iJ rs' (p:Int),p,_,rfl,(xF.trans s4).trans n5.same,n5.self,gB,ho,by omega,by rw[<- hg,show(iJ rs' (p:Int)).length-p=j by omega],rfl⟩
   .rintro _ ⟨rfl,hs⟩;walk_at "go";exact⟨_,by omega,l,vs,rs',p+1,some (oV d),by simp,xF,hl3,fN,t2,hp,stay hs,rfl⟩
  .rename_i hge;rw[Cs (by omega)] at hg;subst hg;obtain⟨t4,Oz,l4⟩:=Al (n:=n) ls.length ls 0 t1 sn1;have hlp:=List.length_pos_iff.mpr t1.ne;obtain⟨k1,rfl⟩:∃i,k=i+1:=⟨k-1,by omega⟩;have e1:e8 n (k1+1) ls=if(dJ n ls).length<ls.length then e8 n k1 (dJ n ls) else dJ n ls:=rfl
   rw[GA] at e1;refine⟨k1,by omega,l,vs,dJ n ls,_,_,_,rfl,s2,hl2,gC,t2,Oz,?_⟩;by_cases hlt:(dJ n ls).length<ls.length
   .rw[if_pos hlt] at e1;exact .inl ⟨by omega,e1.symm,by omega⟩
   .rw[if_neg hlt] at e1;exact .inr ⟨by omega,e1.symm⟩
 .rename_i hge;have e:ls=e8 n rs.length rs:=by
   rcases alt with⟨h,_⟩|⟨_,h⟩
   .exact absurd h (by omega)
   .exact h
  rw[<- e] at q;exact q l vs H1 s1 hl1 gD
end
structure Cv (r:Row):Prop where
 ok:r.ok 1
 one:r.ways=[0]
def MV(H:Hp)(us:List V):Prop:=∀v∈us,∃t r,v=.ref t/\H t=some (.tup (Row.pre r))/\Cv r
def MV.same(h:MV H us)(s:gM H H'):MV H' us:=λv hv=>let⟨t,r,e,ht,hr⟩:=h v hv;⟨t,r,e,s _ _ ht,hr⟩
theorem MV.set{t:Addr}(h:MV H us)(ht:H t=some (.tup r.pre))(hr:Cv r):MV H (us.set j (.ref t)):=λv hv=>by
 rcases rV hv with hv|rfl
 .exact h v hv
 .exact⟨t,r,rfl,ht,hr⟩
def Cw{v:Int}(hb:fq b)(hv:isVal v):Cv (.num 2 b v 0):=⟨⟨⟨by decide,by decide⟩,hb,hv,by decide,by decide⟩,rfl⟩
def MW(hb:fq b):Cv (.look b 0):=⟨⟨hb,by decide,by decide⟩,rfl⟩
def Rk(hb:fq b):Cv (.out b 0):=⟨⟨hb,by decide,by decide⟩,rfl⟩
def Et:Cv (.mark 0):=⟨⟨by decide,by decide⟩,rfl⟩
def Vo(h:Cv r){q:Int}(hq:jQ n q):(r.cU λ_=>q).ok n/\(r.cU λ_=>q).vals=r.pre++[.int q]/\(r.cU λ_=>q).ways=[q]:=⟨pA h.ok λ_ _=>hq,by rw[Er,h.one];rfl,by rw[(jC _ r).2.2.2,h.one];rfl⟩
theorem wc{α β:Type}(f:α->β):∀(l:List α)(i:Nat),(l.map f).eraseIdx i=(l.eraseIdx i).map f
 | [],_=>rfl
 | _::_,0=>rfl
 | y::l,i+1=>by rw[cj,wo,wo,cj,wc f l i]
def Ko{X:Cx}(e:X.K=K):jS X (binaryOp .Add) (GX K):=e▸jw
section
variable {P:Program}{w:World}{K:aD}{mg:Str->Option Value}{base:Heap}
def Gb:Sp:=λvs H Q _=>∃c:Int,vs=[.int c]/\∀q H' us rs,aB H H'->H' q=some (.lst us)->Rows H' us rs->xT rs 200->RN rs->Q (.ref q) H'
def Cy(T:Txt w K mg):b7 P w K mg base gT 1 T.qV.f T.qV.d ["_law_cell"] Gb:=by
 refine T.qV.F.ok cW (λvs H Q E h=>?_) (λcdv A outer s H vs Q E hr h=>?_)
 .obtain⟨c,rfl,_⟩:=h;rfl
 obtain⟨c,rfl,q⟩:=h;refine⟨_,(ak (aE (i:=1) cW.nd rfl (ao rfl) (ay aZ af (ay bh (pv 0) af)))
 (ak (aE (i:=2) cW.nd rfl (cg rfl) (ay aZ af (ay bh (ay bT (pv 0) af) (pv 1))))
 (ak (aE (i:=3) cW.nd rfl (ao rfl) (uI rfl T.tD rfl T.eW (aa af ai)))
 (ak (aE (i:=0) cW.nd rfl (ao rfl) (ay bT (pv 0) af))
 (ak (aE (i:=4) cW.nd rfl (ao rfl) (dN ai))
 (ak (eK bX rfl (dw rfl T.eW (aa (ay aZ (pv 1) af) ai)) (aX (i:=5) cW.nd rfl (ao rfl))
 (ak (fk (jx dS jr jt gz (pv 4) (aa (jx dS PySem.F.slot_list_pop PySem.F.type_list_pop G5 (pv 3) (aa (ay bh (pv 0) (aT bI rfl T.eS BT.eO (aa (pv 3) ai))) ai)) ai)))
 (au (aE (i:=0) cW.nd rfl (ao rfl) (ay bT (pv 0) af)))))
 (ak (jy (i:=6) cW.nd rfl (ao rfl) (bD.caps (x := "_law_k") (fr:=["_law_first"]) (ix:=[2]) (nm:=["_law_first"]) rfl rfl (by decide +kernel) rfl (by decide +kernel) rfl (by decide +kernel) ⟨rfl,trivial⟩ rfl (by decide +kernel) rfl ⟨⟨rfl,rfl,rfl⟩,trivial⟩) (dw rfl T.eW (aa (pv 1) ai)) (λ_ _ _ _=>cQ) (λ_ _ _ _=>(ay aZ (pv 1) (ay jb af (pv 0)))))
 (ak (aE (i:=7) cW.nd rfl (ao rfl) (ay aZ (ay aZ (aS bL (pv 6) (lC jc af) (λ_ _=>rfl)) af) (ay bh (pv 0) af)))
 (ak (aE (i:=8) cW.nd rfl (cg rfl) (ay Pc (dN (aa (bB (aa bz (aa af (aa (aS bL (pv 4) (pv 1) (λ_ _=>rfl)) (aa (ay bh (pv 0) af) ai))))) ai)) (ay aZ (ay aZ (aS bL (pv 6) (lC jc af) (λ_ _=>rfl)) (pv 7)) af)))
 (ak (eK bX rfl (dw rfl T.eW (aa (pv 1) ai)) (aX (i:=5) cW.nd rfl (ao rfl))
 (ak (ja (bB (aa bz (aa af (aa (aS bL (pv 4) (pv 5) (λ_ _=>rfl)) (aa (ay bh (pv 0) af) ai))))) (ko (pv 8) (ay iI (aS bL (pv 6) (pv 5) (λ_ _=>rfl)) af) set_list))
 (ak (ja (bB (aa bz (aa (aS bL (pv 4) (pv 5) (λ_ _=>rfl)) ai))) (ko (pv 8) (aS bL (pv 6) (pv 5) (λ_ _=>rfl)) set_list))
 (au (ja (bB (aa bz (aa (aS bL (pv 4) (pv 5) (λ_ _=>rfl)) ai))) (ko (pv 8) (ay aZ (aS bL (pv 6) (pv 5) (λ_ _=>rfl)) (pv 7)) set_list))))))
 (ak (ja (bB (aa bz ai)) (ko (pv 8) (ay aZ (aS bL (pv 6) (lC jc af) (λ_ _=>rfl)) af) set_list))
 (ak (ja (bB (aa bz ai)) (ko (pv 8) (ay aZ (ay aZ (aS bL (pv 6) (lC jc af) (λ_ _=>rfl)) (pv 7)) af) set_list))
 (ak (ja (bB (aa bz (aa af (aa (aS bL (pv 4) (ay aZ (pv 1) af) (λ_ _=>rfl)) (aa af ai))))) (ko (pv 8) (lC jc af) set_list))
 (au (aJ (ay su (cP (bD.caps (x := "_law_p") (fr:=["_law_rows"]) (ix:=[8]) (nm:=["_law_rows"]) rfl rfl (by decide +kernel) rfl (by decide +kernel) rfl (by decide +kernel) ⟨rfl,trivial⟩ rfl (by decide +kernel) rfl ⟨⟨rfl,rfl,rfl⟩,trivial⟩) (dw rfl T.eW (aa (aT bI rfl T.eS BT.eO (aa (pv 8) ai)) ai)) (λ_ _ _ _=>cQ) (λ_ _ _ _=>(ay (Ko rfl) (aS (gJ (K:=K) rfl) (pv 1) (pv 0) (λ_ _=>rfl)) (bB (aa (ay aZ (pv 0) af) ai))))) (dN (aa (bB (aa bz (aa (aS bL (pv 4) (ay aZ (pv 1) af) (λ_ _=>rfl)) ai))) ai)))))))))))))))))),?_⟩
 show(_:TS) (Ends.mk _ _ _ _) [_,_,_,_,_,_,_,_,_] H;have b3:=bH (a:=c) (b:=3) (by decide);obtain⟨M,eM⟩:∃M:Nat,2+c % 3=M:=⟨(2+c % 3).toNat,by omega⟩;have bf:=bH (a:=c / 3) (b:=(M:Int)) (by omega);obtain⟨F,eF⟩:∃F:Nat,2+c / 3 % M=F:=⟨(2+c / 3 % M).toNat,by omega⟩;have hM:2<=M/\M<=4:=by omega
 have hF:2<=F/\F<=5:=by omega
 walk_at "start";walk_at "go";rw[eM,eF];refine zw ?_;walk_at "go";refine⟨8,rfl,by decide,by decide,λl0 fl0=>?_⟩;have n1:fh H l0 (.lst (uC 0 (8:Int).toNat)) (upd H l0 (.lst (uC 0 (8:Int).toNat))):=⟨fl0,rfl⟩;rw[show uC 0 (8:Int).toNat=([0,1,2,3,4,5,6,7]:List Int).map V.int from rfl] at n1 ⊢;generalize upd H l0 (.lst (([0,1,2,3,4,5,6,7]:List Int).map V.int))=H1 at n1 ⊢;walk_at "go";rename_i f H2 n2;have s2:=n1.same.trans n2.same;have ff:H f=none:=n1.same.free n2.1;have hne:l0≠f:=λz=>by have:=n1.self;rw[z,n2.1] at this;cases this
 have hl2:=n2.keep n1.self;have hf2:=n2.self;clear n1 n2;refine qJ (λi σ' H'=>aB H H'/\∃(ls gs:List Int)(c':Int)(y:Option V),σ'=[some (.int c'),some (.int (M:Int)),some (.int (F:Int)),some (.ref l0),some (.ref f),y,none,none,none]/\H' l0=some (.lst (ls.map V.int))/\H' f=some (.lst (gs.map V.int))/\gs.length=i/\ls.length+i=8/\(∀x∈ls,fq x)/\∀x∈gs,fq x) ?_ ?_ ?_
 .exact⟨s2,_,[],_,_,rfl,hl2,hf2,rfl,rfl,by unfold fq;decide,λx hx=>nomatch hx⟩
 .rintro i σ' H3 hi ⟨s3,ls,gs,c',y,rfl,hl3,K2,eg,el,hrl,ZU⟩;have RC:(ls.map V.int).length=ls.length:=av _;have YR:(gs.map V.int).length=gs.length:=av _;walk_at "go";rw[RC];have b1:=bH (a:=c') (b:=(ls.length:Int)) (by omega);have yf:(c' % (ls.length:Int)).toNat<ls.length:=by omega
  obtain⟨x,hx⟩:∃x,ls[(c' % (ls.length:Int)).toNat]?=some x:=⟨_,fO yf⟩;refine Lu hl3 b1.1 rfl (y:=.int x) (by rw[bw,hx];rfl) (by omega) ?_;intro H4 p4;rw[show(ls.map V.int).eraseIdx (c' % (ls.length:Int)).toNat=(ls.eraseIdx (c' % (ls.length:Int)).toNat).map V.int from wc ..] at p4;have D3:=p4.keep (bA hne) K2;have hl4:=p4.self;have s4:=p4.same s3 fl0;clear p4 hl3 K2;walk_at "go";rename_i H5 p5;refine⟨p5.same s4 ff,_,gs++[x],_,_,rfl,p5.keep hne hl4,by rw[bF];exact p5.self,by simp[eg],?_,λz hz=>hrl z (List.mem_of_mem_eraseIdx hz),λz hz=>?_⟩
  .rw[List.length_eraseIdx,if_pos yf];omega
  .rcases aO.mp hz with hz|hz
   .exact ZU z hz
   .rw[aA.mp hz];exact hrl x (fB hx)
 rintro σ' H3 ⟨s3,ls,gs,c',y,rfl,hl3,K2,eg,el,hrl,ZU⟩;clear hl3 s2 hl2 hf2;have bx:∀k:Nat,k<M+2->∃b,nF (gs.map V.int) (k:Int)=some (.int b)/\fq b:=λk hk=>by obtain⟨b,e,m⟩:=lM (ns:=gs) (i:=(k:Int)) (by omega) (by omega);exact⟨b,e,ZU b m⟩
 walk_at "go";refine ia (λi ys H'=>H'=H3/\ys=(List.range i).map λk:Nat=>V.int ((F+3*k:Nat):Int)) ⟨rfl,rfl⟩ ?_ ?_
 .rintro i ys H' hi ⟨rfl,rfl⟩;refine⟨bU (by rw[av,gU];omega),?_⟩;walk_at "go";refine⟨rfl,?_⟩;rw[m9,bF,show(F:Int)+3*(0+(i:Int))=((F+3*i:Nat):Int) by omega];rfl
 rintro ys H' ⟨rfl,rfl⟩ lk H4 n4;have hlk:=n4.self;have s4:=s3.trans n4.same;have D3:=n4.keep K2;have hfl:f≠lk:=aW K2 n4.1;clear n4 s3 K2;obtain⟨L,eL⟩:∃L:Nat,F+3*(M-1)=L:=⟨_,rfl⟩;rw[gF] at hlk;have NO:∀k:Nat,k<M->nF ((List.range M).map λk:Nat=>V.int ((F+3*k:Nat):Int)) (k:Int)=some (.int ((F+3*k:Nat):Int)):=λk hk=>fP (by rw[bw,pG hk];rfl);have ZV:nF ((List.range M).map λk:Nat=>V.int ((F+3*k:Nat):Int)) (-1)=some (.int (L:Int)):=v9 (n:=M-1) (by rw[av,gU];omega) (by rw[bw,pG (by omega),<- eL];rfl);have b2:=bH (a:=c') (b:=2) (by decide);obtain⟨G,eG⟩:∃G:Nat,(L:Int)+2+c' % 2=G:=⟨((L:Int)+2+c' % 2).toNat,by omega⟩;have bv1:=bH (a:=c') (b:=1000) (by decide);have bv7:=bH (a:=c') (b:=7) (by decide);obtain⟨bM,eb,hbM⟩:=bx M (by omega);obtain⟨bN,ebN,hbN⟩:=bx (M+1) (by omega);walk_at "go";refine cJ (bE.of hlk) ZV ?_;walk_at "go";rw[eG];refine cJ (bE.of D3) eb ?_;walk_at "go";rename_i t0 H5 n5 l5 H6 n6;have KZ:=n5.same.trans n6.same;have ht6:H6 t0=some (.tup (Row.pre (.num 2 bM (c' % 1000) 0))):=n6.keep n5.self;have Wl:=n6.self;have Cz:=KZ _ _ hlk;have RO:=KZ _ _ D3;have s6:=s4.trans KZ;clear n5 n6 s4 KZ hlk D3;refine cJ (bE.of Cz) ZV ?_;walk_at "go";obtain⟨N,eN⟩:∃N:Nat,L+G+2=N:=⟨_,rfl⟩;rw[show(L:Int)+G+2=(N:Int) by omega];refine To Wl (by omega) (by omega) (by simp;omega) ?_;intro g H7 n7;rw[gF,List.flatten_replicate_singleton] at n7;have s7:=n7.same;have fg:H6 g=none:=n7.1;have OB:=n7.self;have JJ:MV H7 (List.replicate N (.ref t0)):=λv hv=>⟨t0,_,(List.mem_replicate.mp hv).2,n7.keep ht6,Cw hbM ⟨by omega,by omega⟩⟩;have ZJ:lk≠g:=aW Cz fg;have hfg:f≠g:=aW RO fg;clear n7 Wl ht6;walk_at "go";refine qJ (λi σ' H'=>aB H6 H'/\∃(us:List V)(y:Option V),σ'=[some (.int c'),some (.int (M:Int)),some (.int (F:Int)),some (.ref l0),some (.ref f),y,some (.ref lk),some (.int (G:Int)),some (.ref g)]/\H' g=some (.lst us)/\us.length=N/\MV H' us) ?_ ?_ ?_
 .exact⟨s7,_,_,rfl,OB,List.length_replicate ..,JJ⟩
 .rintro i σ' H8 hi ⟨s8,us,y,rfl,Em,qw,GC⟩;have hi:i<M:=by omega
  obtain⟨b,WA,hb⟩:=bx i (by omega);have WB:=NO i hi;rw[show((i:Nat):Int)=0+(i:Int) by omega] at WA WB;walk_at "go";refine cJ (bE.of (s8 _ _ RO)) WA ?_;walk_at "go";rename_i t1 H9 n9;have OC:H9 t1=some (.tup (Row.pre (.num 2 b (c' % 7) 0))):=n9.self;refine cJ (bE.of (n9.keep (s8 _ _ Cz))) WB ?_;walk_at "go";refine kB (j:=F+3*i-2) (n9.keep Em) (by rw[lN (by omega) (by omega)];exact congrArg some (by omega)) ?_;intro zZ Cu;have tt:=eT (n9.keep Em) Cu;have tQ:=((GC.same (sT n9.same)).same tt).set (j:=F+3*i-2) (tt _ _ OC) (Cw hb ⟨by omega,by omega⟩);have iK:=Cu.same (s8.trans n9.same) fg;have xV:=Cu.self;clear Cu tt OC n9 GC Em s8;walk_at "go";refine cJ (bE.of (iK _ _ RO)) WA ?_;walk_at "go";rename_i t2 z6 gP;have Kp:z6 t2=some (.tup (Row.pre (.look b 0))):=gP.self;refine cJ (bE.of (gP.keep (iK _ _ Cz))) WB ?_;refine kB (j:=F+3*i) (gP.keep xV) (by rw[lN (by omega) (by rw[eE];omega)];rfl) ?_;intro FN qA;have tt:=eT (gP.keep xV) qA;have MY:=((tQ.same (sT gP.same)).same tt).set (j:=F+3*i) (tt _ _ Kp) (MW hb);have s12:=qA.same (iK.trans gP.same) fg;have Gd:=qA.self;clear qA tt Kp gP tQ xV iK;walk_at "go";refine cJ (bE.of (s12 _ _ RO)) WA ?_;walk_at "go";rename_i t3 GB nE;have MZ:GB t3=some (.tup (Row.pre (.out b 0))):=nE.self;refine cJ (bE.of (nE.keep (s12 _ _ Cz))) WB ?_;walk_at "go";refine kB (j:=F+3*i+G) (nE.keep Gd) (by rw[lN (by omega) (by rw[eE,eE];omega)];rfl) ?_;intro RH xD;have tt:=eT (nE.keep Gd) xD;have Ge:=((MY.same (sT nE.same)).same tt).set (j:=F+3*i+G) (tt _ _ MZ) (Rk hb);walk_at "go";exact⟨xD.same (s12.trans nE.same) fg,_,_,rfl,xD.self,by rw[eE,eE,eE];exact qw,Ge⟩
 rintro σ' H8 ⟨s8,us,y',rfl,Em,qw,GC⟩;have at2:nF ((List.range M).map λk:Nat=>V.int ((F+3*k:Nat):Int)) (-2)=some (.int ((L:Int)-3)):=by have:=NO (M-2) (by omega);rw[show((F+3*(M-2):Nat):Int)=(L:Int)-3 by omega] at this;rw[<- this];unfold nF EO;rw[if_neg (by decide),if_pos (by rw[av,gU];omega),if_pos (by omega),if_pos (by rw[av,gU];omega),av,gU,show((-2:Int)+(M:Int)).toNat=M-2 by omega];rfl
 clear s7 OB JJ;walk_at "go";rename_i t1 H9 n9;have OC:H9 t1=some (.tup (Row.pre (.mark 0))):=n9.self;refine cJ (bE.of (n9.keep (s8 _ _ Cz))) ZV ?_;walk_at "go";refine kB (j:=L+1) (n9.keep Em) (by rw[lN (by omega) (by omega)];rfl) ?_;intro zZ Cu;have tt:=eT (n9.keep Em) Cu;have tQ:=((GC.same (sT n9.same)).same tt).set (j:=L+1) (tt _ _ OC) Et;have iK:=Cu.same (s8.trans n9.same) fg;have xV:=Cu.self;clear Cu tt OC n9 GC Em s8;walk_at "go";rename_i t2 z6 gP;have Kp:z6 t2=some (.tup (Row.pre (.mark 0))):=gP.self;refine cJ (bE.of (gP.keep (iK _ _ Cz))) at2 ?_;walk_at "go";refine kB (j:=L+G-2) (gP.keep xV) (by rw[lN (by omega) (by rw[eE];omega)];exact congrArg some (by omega)) ?_;intro FN qA;have tt:=eT (gP.keep xV) qA;have MY:=((tQ.same (sT gP.same)).same tt).set (j:=L+G-2) (tt _ _ Kp) Et;have s12:=qA.same (iK.trans gP.same) fg;have Gd:=qA.self;clear qA tt Kp gP tQ xV iK;walk_at "go";refine cJ (bE.of (s12 _ _ RO)) (by rw[show(M:Int)+1=((M+1:Nat):Int) by omega];exact ebN) ?_;walk_at "go";rename_i t3 GB nE;have MZ:GB t3=some (.tup (Row.pre (.num 2 bN 5 0))):=nE.self;refine kB (j:=N-1) (nE.keep Gd) (by unfold EO;rw[if_neg (by decide),eE,eE,if_pos (by omega)];exact congrArg some (by omega)) ?_;intro RH xD;have tt:=eT (nE.keep Gd) xD;have Ge:=((MY.same (sT nE.same)).same tt).set (j:=N-1) (tt _ _ MZ) (Cw hbN ⟨by decide,by decide⟩);have Mr:=xD.same (s12.trans nE.same) fg;obtain⟨xs,Vp,NW,Ge⟩:∃xs,RH g=some (.lst xs)/\xs.length=N/\MV RH xs:=⟨_,xD.self,by rw[eE,eE,eE];exact qw,Ge⟩;clear xD tt MZ nE MY Gd s12;walk_at "go";refine ia (λi ys H'=>aB RH H'/\∃rs:List Row,Rows H' ys rs/\rs.length=i/\∀(j:Nat)(r:Row),rs[j]?=some r->r.ok ((N+1:Nat):Int)/\r.ways=[((j+1:Nat):Int)]) ⟨aB.refl _,[],.nil,rfl,λj r h=>nomatch h⟩ ?_ ?_
 .rintro i ys Wi hi ⟨RP,rs,hrs,hlen,hok⟩;have hi:i<N:=by omega
  refine⟨bU (by rw[hrs.length];omega),?_⟩;obtain⟨v,hv,mv⟩:=xy (xs:=xs) (i:=0+(i:Int)) (by omega) (by omega);obtain⟨t,r,rfl,ht,hr⟩:=Ge v mv;obtain⟨k1,k2,k3⟩:=Vo hr (n:=((N+1:Nat):Int)) (q:=0+(i:Int)+1) ⟨by omega,by omega⟩;have Vm:=Km r;walk_at "go";refine cJ (bE.of (RP _ _ Vp)) hv ?_;walk_at "go";rename_i t5 Wj OF;refine fj (cM.of (OF.keep (RP _ _ ht))) (cM.of OF.self) (by intro h;rw[h] at Vm;simp at Vm) (by simp) (by simp only[eB,mY];omega) ?_;intro t6 YQ RQ;rw[<- k2] at RQ;have Jy:=OF.same.trans RQ.same;refine⟨RP.trans Jy,rs++[_],cH (hrs.same Jy) ⟨t6,rfl,RQ.self⟩,by simp[hlen],λj r' h=>?_⟩;rcases aY j rs.length with hj|hj
  .rw[i7 hj] at h;exact hok j r' h
  .rw[iF hj] at h;have:=(fu h).1;have e:j=i:=by simp at this;omega
   subst e;rw[hlen,Nat.sub_self] at h;cases h;exact⟨k1,by rw[k3];exact congrArg (· :: []) (by omega)⟩
 rintro ys Wi ⟨RP,rs,hrs,hlen,hok⟩ l1 Wj OF;have hyl:=hrs.length;have hlen:rs.length=N:=by omega
 have Ms:=(Mr.trans RP).trans OF.same;walk_at "go";refine cJ (bE.of (Ms _ _ RO)) (by rw[show(M:Int)+1=((M+1:Nat):Int) by omega];exact ebN) ?_;have aef:=OF.self;have Rl:=hrs.same OF.same;clear OF Ge Vp Mr RP hrs;walk_at "go";rename_i t7 YQ RQ l2 H18 RI l3 H19 ZW;have s19:=(RQ.same.trans RI.same).trans ZW.same;have hle:(rs++[Row.back bN]).length=N+1:=by simp[hlen]
 have hne:rs++[Row.back bN]≠[]:=by simp
 refine q l3 H19 _ (rs++[.back bN]) ((s6.trans Ms).trans s19) ZW.self (cH (Rl.same s19) ⟨t7,rfl,show _=some (.tup (Row.vals (.back bN))) from ZW.keep (RI.keep RQ.self)⟩) ⟨λr hr=>?_,hne,by omega⟩ (Ep hne λp r hr z hz=>?_)
 .rw[hle];rcases aO.mp hr with hr|hr
  .obtain⟨j,hj⟩:=fW.mp hr;exact(hok j r hj).1
  .rw[aA.mp hr];exact hbN
 .rcases aY p rs.length with hp|hp
  .rw[i7 hp] at hr;rw[(hok p r hr).2] at hz;rw[aA.mp hz];omega
  .rw[iF hp] at hr;have e:=aA.mp (fB hr);rw[e] at hz;exact nomatch hz
def Eu{m:Int}(h:dF rs=some m)(hn:m<=n):qh n rs:=by unfold qh gS;rw[h];exact decide_eq_true hn
def M0(h:qh n rs):∃m,dF rs=some m/\m<=n:=by
 unfold qh gS at h;cases hd:dF rs with
 | none=>rw[hd] at h;exact nomatch h
 | some m=>rw[hd] at h;exact⟨m,rfl,of_decide_eq_true h⟩
def Rm(T:Txt w K mg):b7 P w K mg base gT 12 T.law.f T.law.d ["_law_script"] (DL K):=by
 refine T.law.F.ok kK (λvs H Q E h=>?_) (λcdv A outer s H vs Q E hr h=>?_)
 .obtain⟨a,ns,rfl,_⟩:=h;rfl
 obtain⟨a,ns,rfl,hS,hn,q⟩:=h;refine⟨_,(ak (aE (i:=1) kK.nd rfl (ao rfl) (aP T.LX (MS T) hr (aa (pv 0) ai)))
 (ak (aE (i:=2) kK.nd rfl (ao rfl) (aP T.mixed (oW T) hr (aa (aP T.ig (gu T) hr (aa (pv 0) (aa af ai))) (aa af ai))))
 (ak (aE (i:=3) kK.nd rfl (ao rfl) (ay aZ (aP T.delay (mF T) hr (aa (pv 1) ai)) (ay bh (ay bT (pv 2) af) (aS cO (bB (aa af (aa af (aa af (aa af ai))))) (ay bh (pv 2) af) (λ_ _=>rfl)))))
 (iR (cN (aG dW (ay bh (ay bT (pv 2) af) af) af (aM _))
 (ak (aE (i:=1) kK.nd rfl (ao rfl) (aP T.qV (Cy T) hr (aa (aP T.spread (vP T) hr (aa (pv 2) ai)) ai)))
 (au (aE (i:=3) kK.nd rfl (ao rfl) (aP T.delay (mF T) hr (aa (pv 1) ai)))))
 bu)
 (ak (aE (i:=4) kK.nd rfl (ao rfl) (aP T.due (Rj T) hr (aa (dz nu rfl T.tD BT.sD (aa (pv 1) ai)) (aa (pv 3) ai))))
 (ak (aE (i:=5) kK.nd rfl (ao rfl) (dz nu rfl T.tD BT.sD (aa (pv 1) ai)))
 (ak (aE (i:=6) kK.nd rfl (ao rfl) (aP T.Jd (El T) hr (aa (pv 5) (aa (pv 3) ai))))
 (nP (cN (PW.pt (rZ (wD (rY (aT ve rfl T.xw BT.wN (aa (pv 6) (aa (K5 (v:=.ty "list") rfl T.tD BT.sD rfl) ai))))) (rZ (aG (HG hr.units) (pv 6) (pv 4) (aM _)) (pN (aG (HG hr.units) (pv 5) (pv 1) (aM _))))))
 (au (aJ yj))
 bu)
 (ak (cN (wD (aG CJ (aP T.delay (mF T) hr (aa (pv 6) ai)) (pv 3) (aM _)))
 (au (aJ yj))
 bu)
 (ak (fk (Bh dS PySem.F.slot_list_clear PySem.F.type_list_clear G7 (pv 6)))
 (au (aJ (M6 (gH yl (ay bh (ay bT (pv 2) af) af) af (aM _)) (r6 (gH (Bv hr.units) (aP T.Jd (El T) hr (aa (pv 5) (aa (pv 3) ai))) (pv 4) (aM _)))))))))))))))),?_⟩
 show(_:TS) (Ends.mk _ _ _ _) [_,_,_,_,_,_,_] H;walk_at "start";walk_at "go";refine⟨a,ns,rfl,hS,hn,λc H1 us rs s1 hc1 gD ht hh=>?_⟩;walk_at "go";refine⟨a,ns,1,rfl,s1.seq hS,by decide,λc0=>?_⟩;walk_at "go";refine⟨_,9,rfl,λz z0 z1=>?_⟩;walk_at "go";refine⟨c,us,rs,rfl,hc1,gD,ht.ok,ht.len,ht.ne,λH2 s2 lt=>?_⟩;obtain⟨m,hm⟩:=hh lt;rw[hm,show oV (some m)=.int m from rfl];have hc2:=s2 _ _ hc1;have gC:=gD.same s2;have s12:=s1.trans s2;clear s1 s2 hc1 gD;walk_at "go";rename_i t3 H3 n3;have b4:=bH (a:=z) (b:=4) (by decide);obtain⟨g,hg,mg'⟩:=lM (ns:=[1,4,20,2900]) (i:=z % 4) b4.1 (by show _<(4:Int);exact b4.2);have g0:0<g:=by simp only[aI,fY,or_false] at mg';rcases mg' with rfl|rfl|rfl|rfl<;>decide
 refine vc (cM.of n3.self) hg ?_;have hc3:=n3.keep hc2;have fN:=gC.same n3.same;have s3:=s12.trans n3.same;have bg:=bH (a:=z / 4) (b:=g) g0;clear n3 hc2 gC s12;walk_at "go";refine ql (λσ' H'=>∃c us rs n,σ'=[some (.ref a),some (.ref c),some (.int z),some (.int n),none,none,none]/\H' c=some (.lst us)/\Rows H' us rs/\xT rs 200/\qh n rs) ?_ ?_
 .walk_at "go"
  .refine⟨_,rfl,λz2=>?_⟩;walk_at "go";refine⟨_,rfl,λc4 H4 us4 rs4 s4 hc4 j7 t4 h4=>?_⟩;walk_at "go";refine⟨c4,us4,rs4,rfl,hc4,j7,t4.ok,t4.len,t4.ne,λH5 s5 lt4=>?_⟩;obtain⟨m4,Wa⟩:=h4 lt4;rw[Wa,show oV (some m4)=.int m4 from rfl];walk_at "go";exact⟨c4,us4,rs4,m4,rfl,s5 _ _ hc4,j7.same s5,t4,Eu Wa (Int.le_refl _)⟩
  .exact⟨c,us,rs,_,rfl,hc3,fN,ht,Eu hm (by omega)⟩
 clear hc3 fN ht hm hh lt hg mg' bg g0 s3;rintro _ H4 ⟨c,us,rs,n,rfl,hc4,j7,t4,Oz⟩;have qw:=j7.length;have hln:=t4.len;obtain⟨tT,snT,lT⟩:=MK (n:=n) rs.length rs t4 Oz;obtain⟨mT,hmT,hmn⟩:=M0 snT;walk_at "go";rename_i l5 H5 n5;have hc5:=n5.keep hc4;have gB:=j7.same n5.same;refine⟨l5,us,rs,n,rfl,n5.self,gB,t4,Oz,λd ds H6 s6 Ob OG=>?_⟩;have hc6:=s6 _ _ hc5;have Kq:=gB.same s6;clear n5 hc4 j7 hc5 gB s6;walk_at "go";rename_i l7 H7 n7;have hc7:=n7.keep hc6;have JJ:=n7.keep Ob;have Kr:=OG.same n7.same;have ue:=Kq.same n7.same;have ZX:=n7.self;clear n7 hc6 Ob OG Kq;refine⟨l7,us,rs,n,rfl,ZX,ue,t4,Oz,λf fs H8 s8 ff DU CA=>?_⟩;have hc8:=s8 _ _ hc7;have GC:=s8 _ _ JJ;have Wg:=s8 _ _ ZX;have Ao:=ue.same s8;have Ks:=Kr.same s8;walk_at "go"
 .first|refine S4 (ty:=.type "list") (b:=true) (mH.lst DU) rfl ?_|skip
  walk_at "go";refine HH (.list ((e8 n rs.length rs).map Row.data)) 2 (by decide) (.lst (bE.of DU) CA.rd) (.lst (bE.of GC) Ks.rd) (xB tT.ok) ?_;walk_at "go";refine HH (.list (rs.map Row.data)) 2 (by decide) (.lst (bE.of Wg) Ao.rd) (.lst (bE.of hc8) Ao.rd) (xB t4.ok) ?_;walk_at "go"
 .refine⟨f,fs,_,rfl,DU,CA,tT.ok,tT.len,tT.ne,λH9 s9 _=>?_⟩;rw[hmT,show oV (some mT)=.int mT from rfl];have Jv:=s9 _ _ DU;have s79:=s8.trans s9;clear s8 s9 DU CA hc8 GC Wg Ao Ks;walk_at "go"
  .exact q _
  .rename_i zZ Cu hz;have iK:=Cu.same s79 ff;clear Cu;refine⟨l7,us,rs,n,rfl,iK _ _ ZX,ue.same iK,t4,Oz,λf2 fs2 z6 KR _ JS Rn=>?_⟩;have Vq:=iK.trans KR;walk_at "go";refine PJ (.list ((e8 n rs.length rs).map Row.data)) 2 (by decide) (.lst (bE.of JS) Rn.rd) (.lst (bE.of (Vq _ _ JJ)) (Kr.same Vq).rd) (xB tT.ok) ?_;exact q _
end
def zl0{n:Nat}{us:List Value}(h:us.length=n+1):∃v r,us=v::r/\r.length=n:=by cases us with | nil=>simp at h | cons v r=>exact⟨v,r,rfl,by simpa using h⟩
def OH{us:List Value}(h:us.length=1):∃v0,us=[v0]:=by obtain⟨v,r,rfl,k⟩:=zl0 h;cases r with | nil=>exact⟨v,rfl⟩ | cons a b=>simp at k
def Vr{us:List Value}(h:us.length=2):∃v0 v1,us=[v0,v1]:=by obtain⟨v,r,rfl,k⟩:=zl0 h;obtain⟨v1,rfl⟩:=OH k;exact⟨v,v1,rfl⟩
def Vs{us:List Value}(h:us.length=3):∃v0 v1 v2,us=[v0,v1,v2]:=by obtain⟨v,r,rfl,k⟩:=zl0 h;obtain⟨v1,v2,rfl⟩:=Vr k;exact⟨v,v1,v2,rfl⟩
def Vt{us:List Value}(h:us.length=4):∃v0 v1 v2 v3,us=[v0,v1,v2,v3]:=by obtain⟨v,r,rfl,k⟩:=zl0 h;obtain⟨v1,v2,v3,rfl⟩:=Vs k;exact⟨v,v1,v2,v3,rfl⟩
def Vu{us:List Value}(h:us.length=5):∃v0 v1 v2 v3 v4,us=[v0,v1,v2,v3,v4]:=by obtain⟨v,r,rfl,k⟩:=zl0 h;obtain⟨v1,v2,v3,v4,rfl⟩:=Vt k;exact⟨v,v1,v2,v3,v4,rfl⟩
def M1{w:World}{h:Heap}{mg:Str->Option Value}(X:K.In h)(G:h.Ns mainGlobals mg){xX:Addr}{Ro:Nat}{rq:Addr}{Aq:Tok}{rA:Addr}{Ar:Tok}{rB:Addr}{As:Tok}{rC:Addr}{Au:Tok}{rD:Addr}{Av:Tok}{rE:Addr}{Aw:Tok}{rF:Addr}{Ax:Tok}{rG:Addr}{Ay:Tok}{Ku:Nat}{Gf:Option Addr}{Gg:Array (Option Value)}{Az:Tok}{AA:Tok}{AB:Tok}{AD:Tok}{Kv:Nat}{Gh:Option Addr}{Gi:Array (Option Value)}{AE:Tok}{AF:Tok}{AG:Tok}{AH:Tok}{Kw:Nat}{Gj:Option Addr}{Gk:Array (Option Value)}{AI:Tok}{AJ:Tok}{AK:Tok}{AL:Tok}{AM:Tok}{AN:Tok}{Kx:Nat}{Gm:Option Addr}{Gn:Array (Option Value)}{AO:Tok}{AQ:Tok}{Ky:Nat}{Gp:Option Addr}{Gq:Array (Option Value)}{AR:Tok}{AS:Tok}{AU:Tok}{Kz:Nat}{Gr:Option Addr}{Gs:Array (Option Value)}{AV:Tok}{AW:Tok}{KA:Nat}{Gu:Option Addr}{Gv:Array (Option Value)}{AX:Tok}{KC:Nat}{Gw:Option Addr}{Gx:Array (Option Value)}{AY:Tok}(xY:PySem.W.nsIn K mainGlobals "PARTS" = some (some (.ref xX)))(xZ:K.lookup xX=some ⟨.type "dict", none,.dict #[{ hash:=PyData.keyHash w.params "num", key:=.str "num" Aq,val:=.ref rq },{ hash:=PyData.keyHash w.params "copy", key:=.str "copy" Ar,val:=.ref rA },{ hash:=PyData.keyHash w.params "op", key:=.str "op" As,val:=.ref rB },{ hash:=PyData.keyHash w.params "out", key:=.str "out" Au,val:=.ref rC },{ hash:=PyData.keyHash w.params "fork", key:=.str "fork" Av,val:=.ref rD },{ hash:=PyData.keyHash w.params "look", key:=.str "look" Aw,val:=.ref rE },{ hash:=PyData.keyHash w.params "mark", key:=.str "mark" Ax,val:=.ref rF },{ hash:=PyData.keyHash w.params "back", key:=.str "back" Ay,val:=.ref rG }] Ro,#[]⟩)(ya:(xX==sysModules)=false)(ug:K.lookup rq=some ⟨.type "tuple", Gf,.seq #[.str "side" Az,.str "box" AA,.str "value" AB,.str "place" AD] Ku,Gg⟩)(um:K.lookup rA=some ⟨.type "tuple", Gh,.seq #[.str "side" AE,.str "box" AF,.str "box" AG,.str "place" AH] Kv,Gi⟩)(uo:K.lookup rB=some ⟨.type "tuple", Gj,.seq #[.str "side" AI,.str "sign" AJ,.str "box" AK,.str "box" AL,.str "box" AM,.str "place" AN] Kw,Gk⟩)(uq:K.lookup rC=some ⟨.type "tuple", Gm,.seq #[.str "box" AO,.str "place" AQ] Kx,Gn⟩)(ur:K.lookup rD=some ⟨.type "tuple", Gp,.seq #[.str "box" AR,.str "place" AS,.str "place" AU] Ky,Gq⟩)(uu:K.lookup rE=some ⟨.type "tuple", Gr,.seq #[.str "box" AV,.str "place" AW] Kz,Gs⟩)(uv:K.lookup rF=some ⟨.type "tuple", Gu,.seq #[.str "place" AX] KA,Gv⟩)(uw:K.lookup rG=some ⟨.type "tuple", Gw,.seq #[.str "box" AY] KC,Gx⟩):DJ w K mg:={ oB:=xX,xj:=PySem.W.mg_of X G xY,oE:=rq,zI:=iA.mk' ug (.cons ⟨_,rfl⟩ (.cons ⟨_,rfl⟩ (.cons ⟨_,rfl⟩ (.cons ⟨_,rfl⟩ (.nil))))) (by show(4:Nat)<=1000;decide),oF:=rA,zJ:=iA.mk' um (.cons ⟨_,rfl⟩ (.cons ⟨_,rfl⟩ (.cons ⟨_,rfl⟩ (.cons ⟨_,rfl⟩ (.nil))))) (by show(4:Nat)<=1000;decide),oG:=rB,zK:=iA.mk' uo (.cons ⟨_,rfl⟩ (.cons ⟨_,rfl⟩ (.cons ⟨_,rfl⟩ (.cons ⟨_,rfl⟩ (.cons ⟨_,rfl⟩ (.cons ⟨_,rfl⟩ (.nil))))))) (by show(6:Nat)<=1000;decide),oH:=rC,zL:=iA.mk' uq (.cons ⟨_,rfl⟩ (.cons ⟨_,rfl⟩ (.nil))) (by show(2:Nat)<=1000;decide),oJ:=rD,zM:=iA.mk' ur (.cons ⟨_,rfl⟩ (.cons ⟨_,rfl⟩ (.cons ⟨_,rfl⟩ (.nil)))) (by show(3:Nat)<=1000;decide),oK:=rE,zN:=iA.mk' uu (.cons ⟨_,rfl⟩ (.cons ⟨_,rfl⟩ (.nil))) (by show(2:Nat)<=1000;decide),oM:=rF,zO:=iA.mk' uv (.cons ⟨_,rfl⟩ (.nil)) (by show(1:Nat)<=1000;decide),oN:=rG,zP:=iA.mk' uw (.cons ⟨_,rfl⟩ (.nil)) (by show(1:Nat)<=1000;decide),xm:=yJ.mk' (es:=[("num", Aq,.ref rq),("copy", Ar,.ref rA),("op", As,.ref rB),("out", Au,.ref rC),("fork", Av,.ref rD),("look", Aw,.ref rE),("mark", Ax,.ref rF),("back", Ay,.ref rG)]) xZ ya (show(["num", "copy", "op", "out", "fork", "look", "mark", "back"]:List Str).Nodup from by decide +kernel) (.cons ⟨rfl,rfl⟩ (.cons ⟨rfl,rfl⟩ (.cons ⟨rfl,rfl⟩ (.cons ⟨rfl,rfl⟩ (.cons ⟨rfl,rfl⟩ (.cons ⟨rfl,rfl⟩ (.cons ⟨rfl,rfl⟩ (.cons ⟨rfl,rfl⟩ (.nil))))))))) }
def Rp{l:PySem.W.OpenLaw}{w:World}{mg:Str->Option Value}{fa:Addr}(T:Txt w K mg)(YA:mg "law" = some (.ref fa)):∃fd:FuncData,(∀(s:Shared)(v:Value),BindsTo s fd ⟨[v],[]⟩ [("_law_script", v)])/\∀base:Heap,K.In base->base.Ns mainGlobals mg->b7 l.prog w K mg base gT 12 fa fd ["_law_script"] (DL K):=by have e:=YA.symm.trans T.law.m;cases e;exact⟨T.law.d,T.law.bind1 (λ_ _ _ _ _ _ us hl=>by obtain⟨v0,rfl⟩:=OH hl;rfl),λbase kb nb=>Rm T⟩
def walk{l:PySem.W.OpenLaw}{q:Program}{loose:List Str}{XP:(Str->Option Value)->Heap->Prop}{YP:World->Heap->Prop}{d:DefRec}{K:Params->aD}(hn:l.most=some 63)(hdf:d.params.defaults=[])
  (hY:∀(w:World)(h:Heap),YP w h->(K w.params).In h)
  (F:∀(w:World)(mg:Str->Option Value)(fa:Addr)(h:Heap),(K w.params).In h->h.Ns mainGlobals mg->mg d.name=some (.ref fa) ->
   ∃fd:FuncData,(∀(s:Shared)(u:Value),BindsTo s fd ⟨[u],[]⟩ [("_law_script", u)])/\∀base:Heap,(K w.params).In base->base.Ns mainGlobals mg->b7 l.prog w (K w.params) mg base gT 12 fa fd ["_law_script"] (DL (K w.params))):
  PySem.W.WalkO q loose XP YP l.row.toRowW d [] (λf vs=>PySem.call f vs) :=
 L2.Lj (n:=63) (k:=12) (x := "_law_script") (CX:=λ_=>gT) (sp:=λw=>DL (K w.params)) hn (by decide) hdf ⟨rfl,by decide,by decide⟩ hY F (λ_ _ a ns hl _ hS=>⟨a,ns,rfl,hS,hl,λ_=>rfl⟩) λ_ _ _ _ _ z=>z
end TG
open PySem PySem.W PyProof.Rows
namespace PySem.W.Fast
def tw10820904411186260688:True:=trivial
def tw4647035906453561704:True:=trivial
def tw9494276973495798643:True:=trivial
def tw7776781800934026264:True:=trivial
def tw7469137625710272493:True:=trivial
def tw17097635025327105878:True:=trivial
def tw5277219253594774533:True:=trivial
def tw4522730568106835362:True:=trivial
def tw16341573859768357344:True:=trivial
def tw17427710470886004648:True:=trivial
def tw6095591919630743028:True:=trivial
def tw6957693294248546585:True:=trivial
def tw618165429266269399:True:=trivial
def tw6812696959369118787:True:=trivial
def tw15322870704017209483:True:=trivial
def tw4109097671116745426:True:=trivial
def tw14748935900761052476:True:=trivial
def tw6505845423697845764:True:=trivial
def tw10390661908122347968:True:=trivial
def tw16734491743428322577:True:=trivial
def tw9365757057975238020:True:=trivial
def tw422582564509519886:True:=trivial
def tw6732170400820448579:True:=trivial
def tw13274888180585182538:True:=trivial
def tw228903456490160550:True:=trivial
def tw3234328184343780854:True:=trivial
def tw9221196172235900795:True:=trivial
def tw3669495983988198390:True:=trivial
def tw7605981145732843761:True:=trivial
def tw16642664524421222785:True:=trivial
def tw687195755922309767:True:=trivial
def tw16325952789131708317:True:=trivial
def tw6219342307714099409:True:=trivial
def tw9440146428925882704:True:=trivial
def tw15509456992757466021:True:=trivial
def tw4833576307216981189:True:=trivial
def tw13504466037077487620:True:=trivial
def tw13448356143973797796:True:=trivial
def tw8369826408522606483:True:=trivial
def tw5910872105254024871:True:=trivial
def tw2738146862119715325:True:=trivial
def tw722039845553510018:True:=trivial
def tw9427255339782963476:True:=trivial
def tw15649467587363671765:True:=trivial
def tw775819657623234488:True:=trivial
def tw8210042270344000728:True:=trivial
def tw3225705668410038778:True:=trivial
def tw17741134442660386110:True:=trivial
def tw15679329817127199884:True:=trivial
def tw1372507308980246232:True:=trivial
def tw14485829000555163500:True:=trivial
def tw1528858640302243243:True:=trivial
def tw7386326262611835354:True:=trivial
def tw4315665329006659556:True:=trivial
def tw4542117952393016814:True:=trivial
def tw4037599540795076949:True:=trivial
def tw12324653573321956683:True:=trivial
def tw12021110685727788334:True:=trivial
def tw8730368139680067759:True:=trivial
def tw4369537082716090278:True:=trivial
def tw3547677179271452719:True:=trivial
def tw3279819248126856422:True:=trivial
def tw13228644859395188631:True:=trivial
def tw8137391324850559864:True:=trivial
def tw10762338636043809638:True:=trivial
def tw11808514090543867038:True:=trivial
def tw5265933304169573820:True:=trivial
def tw3324730950032872631:True:=trivial
def tw16065616283318073231:True:=trivial
def tw9134915701048178984:True:=trivial
def tw4298362211565958141:True:=trivial
def tw2936382447119323029:True:=trivial
def tw9698064248963364447:True:=trivial
def tw7421233297553546884:True:=trivial
def tw13570243397970571531:True:=trivial
def tw5092861771696531492:True:=trivial
def tw11385140062008594355:True:=trivial
def tw2662754346203114208:True:=trivial
def tw506007963919116158:True:=trivial
def tw10321125820080733469:True:=trivial
def tw12839498799412413592:True:=trivial
def tw12515824493229145782:True:=trivial
def tw10614379328575392819:True:=trivial
def tw1641905163085802077:True:=trivial
def tw15685293861115055260:True:=trivial
def tw652096639305581964:True:=trivial
def tw4048545947512811111:True:=trivial
def tw3815538805775044237:True:=trivial
def tw7331265516242619734:True:=trivial
def tw9380203068121570319:True:=trivial
def tw473184324108865925:True:=trivial
def tw5594344378610685493:True:=trivial
def tw11605412405229510740:True:=trivial
def tw15372460573350577439:True:=trivial
def tw7500470230231136550:True:=trivial
def tw14973852448484791150:True:=trivial
def tw2671451862506881830:True:=trivial
def tw1272587587751640916:True:=trivial
def tw15089769167799702110:True:=trivial
def tw7487241906896365149:True:=trivial
def tw16295850180551078120:True:=trivial
def tw18437138188037120995:True:=trivial
def tw12792127502877701050:True:=trivial
def tw9780062978448010392:True:=trivial
def tw10003733657674174485:True:=trivial
def tw18372009959646420580:True:=trivial
def tw10477802578563856908:True:=trivial
def tw13293254537797033251:True:=trivial
end PySem.W.Fast
set_option maxRecDepth 100000 in
set_option maxHeartbeats 0 in
theorem PySem.Challenge.cw_turnguard_k64_whole_thinned_holds : PySem.Challenge.rw_turnguard_k64_whole_thinned.Holds := by
 w_on; o_law; k_head; (case hw=>w_witness2)
 k_fill
 refine TG.walk (l:=PySem.Challenge.rw_turnguard_k64_whole_thinned) rfl rfl (λ w h Y=>PySem.W.kIn_of Y) ?F
 case F =>
  intro w mg fa h KX G hmg
  refine' TG.Rp (w:=w) ⟨?q0,?q1,?q2,?q3,?q4,?q5,?q6,?q7,?q8,?q9,?q10,?q11,?q12,?q13,?q14,?q15,?q16,?q17,?q18,?q19,?q20,?q21,?q22,?q23,?q24,?q25,?q26,?q27,?q28,?q29,?q30,?q31,?q32,?q33,?q34,?q35,?q36,?q37,?q38,?q39,?q40,?q41,?q42,?q43,?q44,?q45,?q46,?q47,?q48,?q49,?q50,?q51,?q52,?q53,?q54,?q55,?q56,?q57,?q58,?q59,?q60,?q61,?q62,?q63,?q64,?q65,?q66,?q67,?q68⟩ hmg
  case q0|q1|q2|q3|q4|q5|q6|q7|q8|q9|q10|q11|q12|q13|q14|q15|q16|q17|q18|q19|q20|q21|q22|q23|q24|q25|q26|q27|q28|q29|q30|q31|q32|q33|q34|q35|q36|q37|q38|q39|q40|q41|q42|q43|q44|q45=>(refine' L2.T7 KX G ?b ?a ?l ?c ?k; (case b => (intro _ _ _ _ _ _ us hl; first | (obtain ⟨v0, rfl⟩ := TG.OH hl; rfl) | (obtain ⟨v0, v1, rfl⟩ := TG.Vr hl; rfl) | (obtain ⟨v0, v1, v2, rfl⟩ := TG.Vs hl; rfl) | (obtain ⟨v0, v1, v2, v3, rfl⟩ := TG.Vt hl; rfl) | (obtain ⟨v0, v1, v2, v3, v4, rfl⟩ := TG.Vu hl; rfl))); (case a => k_is); (case l => k_is); (case c => k_is); (case k => k_is))
  case q46|q47|q48|q49|q50|q51|q52|q53|q54|q55|q56|q57|q58|q59|q60|q61|q62=>(refine PySem.W.mg_none_of KX G ?_; k_is)
  case q63=>(refine' L2.T8 KX G ?a; (case a => k_is))
  case q64|q65|q66|q68=>(refine' L2.T9 KX G ?a ?l ?r ?z; (case a => k_is); (case l => k_is); (case r => (repeat (first | exact .nil | refine .cons ⟨_, rfl⟩ ?_))); (case z => exact eU rfl))
  case q67 =>
   refine' TG.M1 KX G ?xY ?xZ ?ya ?ug ?um ?uo ?uq ?ur ?uu ?uv ?uw
   case xY|xZ|ug|um|uo|uq|ur|uu|uv|uw=>k_is
   case ya=>rfl
end
