import PyProof.Rows.All
import Wide.All
import OpenK.AllK
import Wide.FinOn
import Lean
import PyProof.EqAt
import PyProof.EqKinds
import PyProof.TupleCall
import KE.KRevIter
import KE.KRevSl
import PyProof.AttrMiss
import KE.KDictOf
import PyProof.FactsAll.enumerate
import PyProof.FactsAll.zip
import PyProof.ListRange
import PyProof.FactsAll.list_1
import KE.KDictList
import PyProof.StrOps2
import PyProof.Rows.SetFrom
import PyProof.CollectStr
import PyProof.Rows.SortWalk
import KE.KSortTup
import KE.KDictList
import PyProof.FactsAll.range_2
import PyProof.P3Eq
import KE.KEqDict
import KE.KLam
import KE.KNestM
import KE.KMinKey
import PyProof.Rows.Range3
import PySem.Challenge.RW_turnguard_k55_long_ways
set_option Elab.async false
set_option linter.all false
set_option maxRecDepth 100000
theorem af:type_of% @PySem.wpAny_bind:=@PySem.wpAny_bind
theorem aE:type_of% @PySem.wpAny_pure:=@PySem.wpAny_pure
theorem bS:type_of% @PySem.Heap.get?_push_of_some:=@PySem.Heap.get?_push_of_some
theorem fJ:type_of% @PySem.Heap.get?_push_size:=@PySem.Heap.get?_push_size
theorem e9{α:Type}{l:List α}{i:Nat}{a:α}(h:l[i]? = some a):∃ h:i < l.length,l[i]=a:=List.getElem?_eq_some_iff.mp h
theorem dB{α:Type}{l:List α}{i:Nat}(h:i < l.length):l[i]? = some l[i]:=List.getElem?_eq_getElem h
theorem fm{α:Type}{l:List α}{i:Nat}{a:α}(h:l[i]? = some a):a∈l:=List.mem_of_getElem? h
theorem iR{α:Type}{l:List α}{i:Nat}{a:α}:l.getD i a=l[i]?.getD a:=List.getD_eq_getElem?_getD
theorem iD:¬ (false=true):=Bool.false_ne_true
noncomputable section
local macro_rules | `(tactic| walk_at "sc") => `(tactic| exact ⟨rfl, rfl, rfl, by decide +kernel, rfl, by decide +kernel, by decide +kernel⟩)
abbrev ay:=PySem.W.Frag
section
open PySem PySem.Spec PyProof.Rows
theorem fh:type_of% @Around.under_plainId:=@Around.under_plainId
theorem iZ:type_of% @Array.forIn_toList:=@Array.forIn_toList
theorem dD:type_of% @Array.getElem?_eq_getElem:=@Array.getElem?_eq_getElem
theorem nR:type_of% @Array.getElem?_eq_none:=@Array.getElem?_eq_none
theorem i0:type_of% @Array.getElem?_eq_some_iff:=@Array.getElem?_eq_some_iff
theorem c6:type_of% @Array.getElem?_toList:=@Array.getElem?_toList
theorem bT:type_of% @Array.length_toList:=@Array.length_toList
theorem mJ:type_of% @Bool.and_eq_true:=@Bool.and_eq_true
theorem nS:type_of% @Bool.false_and:=@Bool.false_and
theorem bu:type_of% @Bool.false_eq_true:=@Bool.false_eq_true
theorem dU:type_of% @Bool.not_true:=@Bool.not_true
theorem nT:type_of% @Calls.callWith_builtin:=@Calls.callWith_builtin
theorem rJ:type_of% @Calls.call_function_entry:=@Calls.call_function_entry
theorem nU:type_of% @Calls.spliced_cons:=@Calls.spliced_cons
theorem nV:type_of% @Classical.byContradiction:=@Classical.byContradiction
theorem jR:type_of% @F.entry_max_loop:=@F.entry_max_loop
theorem dG:type_of% @F.plain_max_loop:=@F.plain_max_loop
theorem rK:type_of% @F.slot_dict_keyiterator_next:=@F.slot_dict_keyiterator_next
theorem rL:type_of% @F.slot_dict_valueiterator_next:=@F.slot_dict_valueiterator_next
theorem rM:type_of% @F.slot_tuple_iterator_next:=@F.slot_tuple_iterator_next
theorem gO:type_of% @Heap.SameBut.update:=@Heap.SameBut.update
theorem dH:type_of% @Heap.get?_update_ne:=@Heap.get?_update_ne
theorem ef:type_of% @Heap.get?_update_other:=@Heap.get?_update_other
theorem c7:type_of% @Heap.get?_update_self:=@Heap.get?_update_self
theorem aD:type_of% @Heap.lt_size:=@Heap.lt_size
theorem cU:type_of% @Heap.size_push:=@Heap.size_push
theorem eB:type_of% @Int.toNat_natCast:=@Int.toNat_natCast
theorem jS:type_of% @List.Perm.refl:=@List.Perm.refl
theorem gP:type_of% @List.any_cons:=@List.any_cons
theorem c8:type_of% @List.append_assoc:=@List.append_assoc
theorem eE:type_of% @List.append_nil:=@List.append_nil
theorem rN:type_of% @List.eraseIdx_cons_succ:=@List.eraseIdx_cons_succ
theorem iE:type_of% @List.filter_append:=@List.filter_append
theorem nW:type_of% @List.filter_cons_of_neg:=@List.filter_cons_of_neg
theorem nX:type_of% @List.filter_cons_of_pos:=@List.filter_cons_of_pos
theorem fu:type_of% @List.find?_cons:=@List.find?_cons
theorem nY:type_of% @List.flatMap_cons:=@List.flatMap_cons
theorem gQ:type_of% @List.forIn_cons:=@List.forIn_cons
theorem i6:type_of% @List.forIn_nil:=@List.forIn_nil
theorem nZ:type_of% @List.getElem?_append_left:=@List.getElem?_append_left
theorem i7:type_of% @List.getElem?_append_right:=@List.getElem?_append_right
theorem iF:type_of% @List.getElem?_eq_none:=@List.getElem?_eq_none
theorem aS:type_of% @List.getElem?_map:=@List.getElem?_map
theorem lM:type_of% @List.getElem?_take_of_lt:=@List.getElem?_take_of_lt
theorem i8:type_of% @List.getElem?_toArray:=@List.getElem?_toArray
theorem jT:type_of% @List.getElem?_zip_eq_some:=@List.getElem?_zip_eq_some
theorem lN:type_of% @List.getElem_inj:=@List.getElem_inj
theorem oh:type_of% @List.getElem_map:=@List.getElem_map
theorem fS:type_of% @List.getElem_mem:=@List.getElem_mem
theorem aN:type_of% @List.length_append:=@List.length_append
theorem dI:type_of% @List.length_cons:=@List.length_cons
theorem iG:type_of% @List.length_filter_le:=@List.length_filter_le
theorem aq:type_of% @List.length_map:=@List.length_map
theorem dW:type_of% @List.length_singleton:=@List.length_singleton
theorem bV:type_of% @List.length_take:=@List.length_take
theorem bM:type_of% @List.map_append:=@List.map_append
theorem bq:type_of% @List.map_cons:=@List.map_cons
theorem eF:type_of% @List.map_map:=@List.map_map
theorem aK:type_of% @List.mem_append:=@List.mem_append
theorem gR:type_of% @List.mem_append_left:=@List.mem_append_left
theorem bg:type_of% @List.mem_append_right:=@List.mem_append_right
theorem aB:type_of% @List.mem_cons:=@List.mem_cons
theorem cu:type_of% @List.mem_cons_of_mem:=@List.mem_cons_of_mem
theorem gq:type_of% @List.mem_cons_self:=@List.mem_cons_self
theorem eG:type_of% @List.mem_filter:=@List.mem_filter
theorem jU:type_of% @List.mem_flatMap:=@List.mem_flatMap
theorem lO:type_of% @List.mem_iff_getElem:=@List.mem_iff_getElem
theorem dX:type_of% @List.mem_iff_getElem?:=@List.mem_iff_getElem?
theorem aA:type_of% @List.mem_map:=@List.mem_map
theorem lP:type_of% @List.mem_map_of_mem:=@List.mem_map_of_mem
theorem fT:type_of% @List.mem_range:=@List.mem_range
theorem au:type_of% @List.mem_singleton:=@List.mem_singleton
theorem dJ:type_of% @List.nodup_append:=@List.nodup_append
theorem fz:type_of% @List.nodup_cons:=@List.nodup_cons
theorem iH:type_of% @List.nodup_nil:=@List.nodup_nil
theorem eK:type_of% @List.not_mem_nil:=@List.not_mem_nil
theorem lQ:type_of% @List.pairwise_cons:=@List.pairwise_cons
theorem i9:type_of% @List.pairwise_iff_getElem:=@List.pairwise_iff_getElem
theorem jV:type_of% @List.pairwise_map:=@List.pairwise_map
theorem aM:type_of% @List.size_toArray:=@List.size_toArray
theorem bW:type_of% @List.take_add_one:=@List.take_add_one
theorem cz:type_of% @List.take_length:=@List.take_length
theorem jW:type_of% @Nat.le_add_right:=@Nat.le_add_right
theorem gS:type_of% @Nat.le_of_lt:=@Nat.le_of_lt
theorem ak:type_of% @Nat.le_refl:=@Nat.le_refl
theorem gT:type_of% @Nat.le_succ:=@Nat.le_succ
theorem br:type_of% @Nat.le_trans:=@Nat.le_trans
theorem cV:type_of% @Nat.lt_irrefl:=@Nat.lt_irrefl
theorem bN:type_of% @Nat.lt_of_lt_of_le:=@Nat.lt_of_lt_of_le
theorem bG:type_of% @Nat.lt_or_ge:=@Nat.lt_or_ge
theorem ja:type_of% @Nat.lt_succ_of_lt:=@Nat.lt_succ_of_lt
theorem jX:type_of% @Nat.lt_succ_self:=@Nat.lt_succ_self
theorem jb:type_of% @Nat.ne_of_gt:=@Nat.ne_of_gt
theorem aO:type_of% @Nat.ne_of_lt:=@Nat.ne_of_lt
theorem aL:type_of% @Nat.zero_le:=@Nat.zero_le
theorem aZ:type_of% @Ne.symm:=@Ne.symm
theorem jY:type_of% @Obj.cls_mapFields:=@Obj.cls_mapFields
theorem cW:type_of% @Obj.data_mapFields:=@Obj.data_mapFields
theorem iI:type_of% @Obj.isFreed_of_fields:=@Obj.isFreed_of_fields
theorem fB:type_of% @Option.map_eq_some_iff:=@Option.map_eq_some_iff
theorem jt:type_of% @Option.toList_some:=@Option.toList_some
theorem av:type_of% @Or.inl:=@Or.inl
theorem cC:type_of% @Or.inr:=@Or.inr
theorem f7:type_of% @Paired.length:=@Paired.length
theorem cg:type_of% @Paired.mono:=@Paired.mono
theorem bQ:type_of% @Paired.snoc:=@Paired.snoc
theorem bX:type_of% @PassesOwn.never:=@PassesOwn.never
theorem iJ:type_of% @PyProof.Rows.callWith_type1:=@PyProof.Rows.callWith_type1
theorem cj:type_of% @PySem.F.plainAttrs_list:=@PySem.F.plainAttrs_list
theorem eL:type_of% @PySem.F.slot_list_append:=@PySem.F.slot_list_append
theorem m8:type_of% @PySem.F.slot_list_extend:=@PySem.F.slot_list_extend
theorem eN:type_of% @PySem.F.type_list_append:=@PySem.F.type_list_append
theorem m9:type_of% @PySem.F.type_list_extend:=@PySem.F.type_list_extend
theorem dP:type_of% @PySem.W.kia_one:=@PySem.W.kia_one
theorem eO:type_of% @PySem.mem_of_lookup:=@PySem.mem_of_lookup
theorem dQ:type_of% @True.intro:=@True.intro
end
namespace L2
open PySem PySem.Spec PyProof.Rows
variable {x:Str}{u:Value}{H:Hp}{a b:Addr}{o:HO}{P:Program}{w:World}{h base:Heap}{t' i k n:Nat}{ch fp:List Addr}{N ps:List Str}{M:Model}{A:Around}{E:Value->Shared->Prop}{v:V}{Q:Unit->Shared->Prop}{X:Cx}{e c tg:Expr}{s:Shared}{pins:List (Addr × Obj)}{pos:Pos}{op:CmpOp}{t:TE}{K:ay}{D:Ends}{body:List Stmt}{tb:TS}{g:TG}{xs:List V}{f:Value->Value->Sem Value}{r:R2}{us:List Value}{mg:Str->Option Value}{CX:yM}
abbrev Key:=Sum Int Str
def qz:Key->Value->Bool
 | .inl k,v=>Value.isInt k v
 | .inr x,v=>Value.isStrOf x v
def TN(w:World):Key->Int
 | .inl k=>hashInt k
 | .inr x=>hashStr w x
theorem cD:∀ {k:Key} {v:Value},qz k v=true->(∃ i t,k=Sum.inl i /\ v=Value.int i t) \/ (∃ x t,k=Sum.inr x /\ v=Value.str x t)
 | .inl i,v,h=>by
  obtain ⟨t,e⟩:=Value.isInt_shape (k:=i) (v:=v) h
  exact .inl ⟨i,t,rfl,e⟩
 | .inr x,v,h=>by
  obtain ⟨t,e⟩:=Value.isStrOf_shape (x:=x) (v:=v) h
  exact .inr ⟨x,t,rfl,e⟩
theorem Ar(i:Int)(t:Tok):qz (.inl i) (.int i t)=true:=by simp [qz,Value.isInt]
theorem As(x:Str)(t:Tok):qz (.inr x) (.str x t)=true:=by simp [qz,Value.isStrOf]
theorem Kl(a b:Int):decide ((Sum.inl a:Key)=Sum.inl b)=(a == b):=by
 by_cases e:a=b
 ·subst e; simp
 ·have h:¬ (Sum.inl a:Key)=Sum.inl b:=λ q=>e (Sum.inl.inj q)
  rw [decide_eq_false h]
  exact (beq_eq_false_iff_ne.mpr e).symm
theorem Km(a b:Str):decide ((Sum.inr a:Key)=Sum.inr b)=decide (a=b):=by
 by_cases e:a=b
 ·subst e; simp
 ·have h:¬ (Sum.inr a:Key)=Sum.inr b:=λ q=>e (Sum.inr.inj q)
  rw [decide_eq_false h,decide_eq_false e]
theorem Kn(a:Int)(b:Str):decide ((Sum.inl a:Key)=Sum.inr b)=false:=decide_eq_false (λ q=>nomatch q)
theorem Ko(a:Str)(b:Int):decide ((Sum.inr a:Key)=Sum.inl b)=false:=decide_eq_false (λ q=>nomatch q)
def bJ(prog:Program)(w:World):PySem.KeyKind prog w Key where
 is:=qz
 hash:=TN w
 inj:=λ v a b ha hb=>by
  rcases cD ha with ⟨i,t,rfl,rfl⟩ | ⟨x,t,rfl,rfl⟩
  ·rcases cD hb with ⟨j,u,rfl,e⟩ | ⟨y,u,rfl,e⟩
   ·injection e with e1 _; rw [e1]
   ·exact nomatch e
  ·rcases cD hb with ⟨j,u,rfl,e⟩ | ⟨y,u,rfl,e⟩
   ·exact nomatch e
   ·injection e with e1 _; rw [e1]
 byValue:=λ k v h=>by
  rcases cD h with ⟨i,t,rfl,rfl⟩ | ⟨x,t,rfl,rfl⟩ <;> rfl
 pyHash:=λ hv h=>by
  rcases cD hv with ⟨i,t,rfl,rfl⟩ | ⟨x,t,rfl,rfl⟩
  ·exact wpAny_pyHash_int h
  ·exact wpAny_pyHash_str h
 eqBool:=λ hu hv h=>by
  rcases cD hu with ⟨i,t,rfl,rfl⟩ | ⟨x,t,rfl,rfl⟩
  ·rcases cD hv with ⟨j,u,rfl,rfl⟩ | ⟨y,u,rfl,rfl⟩
   ·rw [Kl] at h; exact wpAny_eqBool_int h
   ·rw [Kn] at h; exact SeqAt.EqAt.int_str i t y u _ _ _ _ h
  ·rcases cD hv with ⟨j,u,rfl,rfl⟩ | ⟨y,u,rfl,rfl⟩
   ·rw [Ko] at h; exact SeqAt.EqAt.str_int x t j u _ _ _ _ h
   ·rw [Km] at h; exact wpAny_eqBool_str h
 «strs»:=λ k x t v h=>by
  rcases cD h with ⟨i,u,rfl,e⟩ | ⟨y,u,rfl,e⟩
  ·exact nomatch e
  ·injection e with e1 _
   subst e1
   cases v <;> rfl
theorem tH(prog:Program)(w:World)(i:Int)(t:Tok):(bJ prog w).is (.inl i) (.int i t)=true:=Ar i t
theorem jc(prog:Program)(w:World)(x:Str)(t:Tok):(bJ prog w).is (.inr x) (.str x t)=true:=As x t
inductive V where
 | cP | bl (b:Bool) | int (i:Int) | str (x:Str) | Au (b:Array UInt8) | Nr (b:UInt64) | ref (a:Addr) | ty (n:String)
 deriving DecidableEq
def RelV:V->Value->Prop
 | .cP,u=>u=Value.none
 | .bl b,u=>u=Value.bool b
 | .int i,u=>∃ t,u=Value.int i t
 | .str x,u=>∃ t,u=Value.str x t
 | .Au b,u=>∃ t,u=Value.bytes b t
 | .Nr b,u=>∃ t,u=Value.float b t
 | .ref a,u=>u=Value.ref a
 | .ty n,u=>u=Value.type n
abbrev Vals:List V->List Value->Prop:=Paired RelV
theorem Vals.length{xs:List V}{us:List Value}(r:Vals xs us):xs.length=us.length:=f7 r
theorem Vals.get:∀ {xs:List V} {us:List Value} {i:Nat} {x:V},Vals xs us->xs[i]? = some x->∃ u,us[i]? = some u /\ RelV x u
 | _,_,_,_,.nil,e=>by simp at e
 | _,_,0,_,.cons r _,e=>by simp at e; subst e; exact ⟨_,rfl,r⟩
 | _,_,i + 1,x,.cons _ t,e=>by
  obtain ⟨u,h1,h2⟩:=Vals.get (i:=i) (x:=x) t (by simpa using e)
  exact ⟨u,by simpa using h1,h2⟩
theorem Vals.set{x:V}(r:RelV x u):∀ {xs:List V} {us:List Value} (i:Nat),Vals xs us->Vals (xs.set i x) (us.set i u)
 | _,_,_,.nil=>.nil
 | _,_,0,.cons _ t=>.cons r t
 | _,_,i + 1,.cons q t=>.cons q (Vals.set r i t)
theorem Vals.append:∀ {xs ys:List V} {us ws:List Value},Vals xs us->Vals ys ws->Vals (xs++ys) (us++ws)
 | _,_,_,_,.nil,s=>s
 | _,_,_,_,.cons r t,s=>.cons r (Vals.append t s)
theorem Vals.take:∀ {xs:List V} {us:List Value} (n:Nat),Vals xs us->Vals (xs.take n) (us.take n)
 | _,_,0,_=>.nil
 | _,_,_ + 1,.nil=>.nil
 | _,_,n + 1,.cons r t=>.cons r (Vals.take n t)
theorem Vals.drop:∀ {xs:List V} {us:List Value} (n:Nat),Vals xs us->Vals (xs.drop n) (us.drop n)
 | _,_,0,r=>r
 | _,_,_ + 1,.nil=>.nil
 | _,_,n + 1,.cons _ t=>Vals.drop n t
def jZ:Option V->Option Value->Prop
 | some v,some u=>RelV v u
 | none,none=>True
 | _,_=>False
def KV{κ:Type}:List (κ × V)->List (κ × Value)->Prop:=Paired λ (p:κ × V) (q:κ × Value)=>p.1=q.1 /\ RelV p.2 q.2
def kV:Key->V
 | .inl i=>.int i
 | .inr x=>.str x
inductive HO where
 | lst (xs:List V)
 | tup (xs:List V)
 | dK (kvs:List (Key × V)) | dT (kvs:List (List Key × V))
 | set (S:Int->Bool) (n:Nat)
 | ins (C dx:Addr) (fs:List (Str × V))
 | own (x:Addr)
 | xd (fs:List (Str × V))
 | met (f x:Addr)
 | tD (lo hi:Int)
 | tE (o:Obj) (u:HO)
 | lJ (ps:Array Value)
 | ext (φ:Heap->Prop)
abbrev Hp:=Addr->Option HO
def upd(H:Hp)(a:Addr)(o:HO):Hp:=λ b=>if b=a then some o else H b
theorem cE:upd H a o a=some o:=by unfold upd; rw [if_pos rfl]
theorem aP(h:b ≠ a):upd H a o b=H b:=by unfold upd; rw [if_neg h]
theorem qA{H:Hp}{o u:HO}(h:H a=some o)(h':H b=some u)(d:o ≠ u):a ≠ b:=by
 intro e; subst e; rw [h] at h'; exact d (Option.some.inj h')
theorem aV{H:Hp}{o:HO}(h:H a=some o)(h':H b=none):a ≠ b:=by
 intro e; subst e; rw [h] at h'; cases h'
section
variable (P:Program)(w:World)
def bU(H:Hp)(h:Heap)(a:Addr):HO->Prop
 | .lst xs=>xs.length <= sizeLine /\ ∃ (its:List Value) (n:Nat),Vals xs its /\ h.get? a=some { cls:=.type "list", data:=.seq its.toArray n }
 | .tup xs=>xs.length <= sizeLine /\ ∃ its:List Value,Vals xs its /\ IsTup h a its.toArray
 | .dK kvs=>kvs.length <= sizeLine /\ (a == sysModules)=false /\ ∃ vs,KV kvs vs /\ h.DictOf (bJ P w) a vs
 | .dT kvs=>kvs.length <= sizeLine /\ (a == sysModules)=false /\ ∃ xs:List (List Key × Addr × Value),
   Paired (λ (p:List Key × V) (q:List Key × Addr × Value)=>p.1=q.1 /\ H q.2.1=some (.tup (p.1.map kV)) /\ RelV p.2 q.2.2) kvs xs /\
   ∃ o es ep,h.get? a=some o /\ o.ExactDict /\ o.data=.dict es ep /\ es.toList=xs.map (entryOfKey (tupleKind (bJ P w))) /\ (xs.map (·.1)).Nodup
 | .set S n=>h.SetOf (intKind P w) a S n
 | .ins C dx fs=>H dx=some (.own a) /\ fs.length <= 1000 /\ dx ≠ a /\ h.get? a=some (PySem.W.instObj C dx) /\
   ∃ mA,h.Ns1 dx mA /\ (∀ f,jZ (fs.lookup f) (mA f)) /\ PySem.Within mA (fs.map (·.1))
 | .own _=>∃ o,h.get? a=some o
 | .xd fs=>∃ mA,h.Ns1 a mA /\ ∀ f,jZ (fs.lookup f) (mA f)
 | .tD lo hi=>∃ t u v,h.get? a=some { cls:=.type "range", data:=.fields #[.int lo t,.int hi u,.int 1 v] }
 | .tE o u=>h.get? a=some o /\ bU H h a u
 | .lJ ps=>h.get? a=some { cls:=.none,data:=.fields ps }
 | .met f x=>h.get? a=some (PySem.W.methodObj (.ref f) (.ref x))
 | .ext φ=>φ h /\ (∃ o,h.get? a=some o) /\ ∀ h1 h2:Heap,φ h1->(∀ o,h1.get? a=some o->h2.get? a=some o)->φ h2
def iY(H:Hp)(h:Heap):Prop:=∀ a o,H a=some o->bU P w H h a o
end
section
variable {P:Program}{w:World}{H H':Hp}{h h':Heap}{a:Addr}{o:HO}
theorem bU.lt(x:bU P w H h a o):a < h.objs.size:=by
 cases o with
 | lst xs=>obtain ⟨_,_,_,_,e⟩:=x; exact aD e
 | tup xs=>obtain ⟨_,_,_,p⟩:=x; exact p.lt
 | dK kvs=>obtain ⟨_,_,_,_,o,_,_,e,_⟩:=x; exact aD e
 | dT kvs=>obtain ⟨_,_,_,_,o,_,_,e,_⟩:=x; exact aD e
 | set S n=>obtain ⟨o,_,_,_,e,_⟩:=x; exact aD e
 | ins C dx fs=>obtain ⟨_,_,_,e,_⟩:=x; exact aD e
 | own y=>obtain ⟨_,e⟩:=x; exact aD e
 | xd fs=>obtain ⟨_,⟨_,_,_,e,_⟩,_⟩:=x; exact aD e
 | tD lo hi=>obtain ⟨_,_,_,e⟩:=x; exact aD e
 | tE ob u=>obtain ⟨e,_⟩:=x; exact aD e
 | lJ ps=>exact aD (show h.get? a=some _ from x)
 | met f y=>exact aD (show h.get? a=some _ from x)
 | ext φ=>obtain ⟨_,⟨_,e⟩,_⟩:=x; exact aD e
theorem Paired.Av{α β:Type}{F G:α->β->Prop}:∀ {l₁:List α} {l₂:List β},Paired F l₁ l₂->(∀ a b,F a b->G a b)->Paired G l₁ l₂
 | _,_,.nil,_=>.nil
 | _,_,.cons r t,f=>.cons (f _ _ r) (Paired.Av t f)
theorem bU.stay(x:bU P w H h a o)(k:∀ b u,(b=a \/ H b=some (.own a))->h.get? b=some u->h'.get? b=some u)
  (ho:∀ b,H b=some (.own a)->H' b=some (.own a))(ht:∀ b xs,H b=some (.tup xs)->H' b=some (.tup xs)):bU P w H' h' a o:=by
 induction o with
 | lst xs=>obtain ⟨z,its,n,r,e⟩:=x; exact ⟨z,its,n,r,k _ _ (.inl rfl) e⟩
 | tup xs=>obtain ⟨z,its,r,ob,e,c⟩:=x; exact ⟨z,its,r,ob,k _ _ (.inl rfl) e,c⟩
 | dK kvs=>obtain ⟨z,y,vs,r,ob,es,ep,e,c⟩:=x; exact ⟨z,y,vs,r,ob,es,ep,k _ _ (.inl rfl) e,c⟩
 | dT kvs =>
  obtain ⟨z,y,xs,r,ob,es,ep,e,c⟩:=x
  exact ⟨z,y,xs,Paired.Av r λ p q z=>⟨z.1,ht _ _ z.2.1,z.2.2⟩,ob,es,ep,k _ _ (.inl rfl) e,c⟩
 | set S n=>obtain ⟨ob,es,ep,t,e,c⟩:=x; exact ⟨ob,es,ep,t,k _ _ (.inl rfl) e,c⟩
 | ins C dx fs =>
  obtain ⟨d,z,ne,e,mA,⟨od,es,ep,e2,c⟩,r⟩:=x
  exact ⟨ho _ d,z,ne,k _ _ (.inl rfl) e,mA,⟨od,es,ep,k _ _ (.inr d) e2,c⟩,r⟩
 | own y=>obtain ⟨ob,e⟩:=x; exact ⟨ob,k _ _ (.inl rfl) e⟩
 | xd fs=>obtain ⟨mA,⟨od,es,ep,e,c⟩,r⟩:=x; exact ⟨mA,⟨od,es,ep,k _ _ (.inl rfl) e,c⟩,r⟩
 | tD lo hi=>obtain ⟨t,u,v,e⟩:=x; exact ⟨t,u,v,k _ _ (.inl rfl) e⟩
 | tE ob u ih=>obtain ⟨e,q⟩:=x; exact ⟨k _ _ (.inl rfl) e,ih q⟩
 | lJ ps =>
  have e:h.get? a=some { cls:=.none,data:=.fields ps }:=x
  show h'.get? a=some { cls:=.none,data:=.fields ps }
  exact k a _ (.inl rfl) e
 | met f y =>
  have e:h.get? a=some (PySem.W.methodObj (.ref f) (.ref y)):=x
  show h'.get? a=some (PySem.W.methodObj (.ref f) (.ref y))
  exact k a _ (.inl rfl) e
 | ext φ=>obtain ⟨p,⟨o,e⟩,st⟩:=x; exact ⟨st _ _ p λ o q=>k _ _ (.inl rfl) q,⟨o,k _ _ (.inl rfl) e⟩,st⟩
theorem iY.lt(x:iY P w H h)(e:H a=some o):a < h.objs.size:=(x a o e).lt
theorem iY.fresh(x:iY P w H h)(e:h.objs.size <= a):H a=none:=by
 cases q:H a with
 | none=>rfl
 | some u=>exact absurd (bN (x.lt q) e) (cV _)
theorem iY.kept(x:iY P w H h)(k:∀ b u,h.get? b=some u->h'.get? b=some u):iY P w H h':=λ a o e =>
 (x a o e).stay (λ b u _ q=>k b u q) (λ _ q=>q) λ _ _ q=>q
theorem iY.laid(x:iY P w H h)(k:∀ b u,h.get? b=some u->h'.get? b=some u)(hp:h.objs.size <= a)(new:bU P w (upd H a o) h' a o):iY P w (upd H a o) h':=λ b u e=>by
 have hn:=x.fresh hp
 by_cases hb:b=a
 ·subst hb; rw [cE] at e; cases e; exact new
 ·rw [aP hb] at e
  exact (x b u e).stay (λ c v _ q=>k c v q) (λ c q=>by rw [aP (aV q hn)]; exact q) λ c xs q=>by rw [aP (aV q hn)]; exact q
end
def Rd(H:Hp)(a:Addr)(u:HO):Prop:=H a=some u \/ ∃ o,H a=some (.tE o u)
theorem Rd.of{u:HO}(h:H a=some u):Rd H a u:=.inl h
theorem Rd.ok{u:HO}(r:Rd H a u)(x:iY P w H h):bU P w H h a u:=by
 rcases r with r | ⟨o,r⟩
 ·exact x a u r
 ·obtain ⟨_,q⟩:=x a _ r
  exact q
def NT:Option HO->Prop
 | some (.lst _)=>True
 | some (.dK _)=>True
 | some (.dT _)=>True
 | some (.set _ _)=>True
 | some (.ins _ _ _)=>True
 | some (.ext _)=>True
 | _=>False
section
variable {P:Program}{w:World}{H:Hp}{h h':Heap}{x e:Addr}{o':HO}
theorem iY.write(ok:iY P w H h)(mu:NT (H x))(he:e=x \/ H e=some (.own x))(k:∀ b u,b ≠ e->h.get? b=some u->h'.get? b=some u)(Nt:∃ u,h'.get? e=some u)
  (new:bU P w (upd H x o') h' x o'):iY P w (upd H x o') h':=λ b u q=>by
 have NU:∀ c y,H c=some (.own y)->c ≠ x:=λ c y r z=>by subst z; rw [r] at mu; exact mu
 have TQ:∀ c xs,H c=some (.tup xs)->c ≠ x:=λ c xs r z=>by subst z; rw [r] at mu; exact mu
 by_cases hb:b=x
 ·subst hb; rw [cE] at q; cases q; exact new
 ·rw [aP hb] at q
  by_cases Kp:b=e
  ·have q':H b=some (.own x):=by
    rcases he with z | z
    ·exact absurd (Kp.trans z) hb
    ·rw [Kp]; exact z
   rw [q] at q'; cases q'
   obtain ⟨v,hv⟩:=Nt
   exact ⟨v,by rw [Kp]; exact hv⟩
  ·refine (ok b u q).stay (λ c v hc r=>k c v ?_ r) (λ c r=>by rw [aP (NU c b r)]; exact r) λ c xs r=>by rw [aP (TQ c xs r)]; exact r
   rcases hc with rfl | hc
   ·exact Kp
   ·rintro rfl
    rcases he with z | z
    ·exact NU c b hc z
    ·rw [hc] at z; cases z; exact hb rfl
end
structure Un (fs ex:List Addr) (H H':Hp) (h h':Heap):Prop where
 keep:∀ b o,h.get? b=some o->H b=none->b ∉ fs->b ∉ ex->h'.get? b=some o
 slot:∀ b o,h.get? b=some o->H b=none->b∈fs->b ∉ ex->∃ sl,h'.get? b=some { o with slots:=sl }
 free:∀ b o,h.get? b=some o->H b=none->b ∉ ex->H' b=none
 there:∀ b o,h.get? b=some o->b ∉ ex->∃ o',h'.get? b=some o'
 tups:∀ b xs,H b=some (.tup xs)->H' b=some (.tup xs)
 ki:∀ b o u,H b=some (.tE o u)->H' b=some (.tE o u)
 lR:∀ b ps,H b=some (.lJ ps)->∃ more,H' b=some (.lJ (ps++more))
section
variable {fs fs' ex ex':List Addr}{H H1 H2:Hp}{h h1 h2 h':Heap}{a x e:Addr}{o:HO}
theorem Un.any(u:Un fs ex H H1 h h1){ob:Obj}(q:h.get? b=some ob)(n:H b=none)(hx:b ∉ ex):∃ sl,h1.get? b=some { ob with slots:=sl }:=by
 by_cases hb:b∈fs
 ·exact u.slot b ob q n hb hx
 ·exact ⟨ob.slots,u.keep b ob q n hb hx⟩
theorem Un.trans(a:Un fs ex H H1 h h1)(b:Un fs ex H1 H2 h1 h2):Un fs ex H H2 h h2 where
 keep:=λ c ob q n hc hx=>b.keep c ob (a.keep c ob q n hc hx) (a.free c ob q n hx) hc hx
 slot:=λ c ob q n hc hx=>by
  obtain ⟨sl,e1⟩:=a.slot c ob q n hc hx
  obtain ⟨Ce,e2⟩:=b.slot c _ e1 (a.free c ob q n hx) hc hx
  exact ⟨Ce,e2⟩
 free:=λ c ob q n hx=>by
  obtain ⟨o',e1⟩:=a.there c ob q hx
  exact b.free c o' e1 (a.free c ob q n hx) hx
 there:=λ c ob q hx=>by
  obtain ⟨o',e1⟩:=a.there c ob q hx
  exact b.there c o' e1 hx
 tups:=λ c xs q=>b.tups c xs (a.tups c xs q)
 ki:=λ c ob xs q=>b.ki c ob xs (a.ki c ob xs q)
 lR:=λ c ps q=>by
  obtain ⟨m1,e1⟩:=a.lR c ps q
  obtain ⟨m2,e2⟩:=b.lR c _ e1
  exact ⟨m1++m2,by rw [e2,Array.append_assoc]⟩
theorem Un.kept(k:∀ b u,h.get? b=some u->h'.get? b=some u):Un fs ex H H h h' :=
 ⟨λ b ob q _ _ _=>k b ob q,λ b ob q _ _ _=>⟨ob.slots,k b ob q⟩,λ _ _ _ n _=>n,λ b ob q _=>⟨ob,k b ob q⟩,λ _ _ q=>q,λ _ _ _ q=>q,λ _ ps q=>⟨#[],by rw [q]; simp⟩⟩
theorem Un.refl:Un fs ex H H h h:=Un.kept λ _ _ q=>q
theorem Un.laid(k:∀ b u,h.get? b=some u->h'.get? b=some u)(hp:h.objs.size <= a)(hn:H a=none):Un fs ex H (upd H a o) h h' where
 keep:=λ b u q _ _ _=>k b u q
 slot:=λ b u q _ _ _=>⟨u.slots,k b u q⟩
 free:=λ b u q n _=>by rw [aP (aO (bN (aD q) hp))]; exact n
 there:=λ b u q _=>⟨u,k b u q⟩
 tups:=λ b xs q=>by rw [aP (aV q hn)]; exact q
 ki:=λ b u xs q=>by rw [aP (aV q hn)]; exact q
 lR:=λ b ps q=>⟨#[],by rw [aP (aV q hn),q]; simp⟩
theorem Un.write(mu:NT (H x))(he:e=x \/ H e=some (.own x))(k:∀ b u,b ≠ e->h.get? b=some u->h'.get? b=some u)(Nt:∃ u,h'.get? e=some u):Un fs ex H (upd H x o) h h':=by
 have hx:∀ b,H b=none->b ≠ x:=λ b n z=>by subst z; rw [n] at mu; exact mu
 have hb:∀ b,H b=none->b ≠ e:=λ b n z=>by
  subst z
  rcases he with r | r
  ·exact hx b n r
  ·rw [n] at r; cases r
 have hm:∀ b u,H b=some u->¬ NT (some u)->b ≠ x:=λ b u q nm z=>by subst z; rw [q] at mu; exact nm mu
 refine ⟨λ b u q n _ _=>k b u (hb b n) q,λ b u q n _ _=>⟨u.slots,k b u (hb b n) q⟩,λ b u q n _=>by rw [aP (hx b n)]; exact n,λ b u q _=>?_,
  λ b xs q=>by rw [aP (hm b _ q λ z=>z)]; exact q,λ b u xs q=>by rw [aP (hm b _ q λ z=>z)]; exact q,λ b ps q=>⟨#[],by rw [aP (hm b _ q λ z=>z),q]; simp⟩⟩
 by_cases Kp:b=e
 ·subst Kp; exact Nt
 ·exact ⟨u,k b u Kp q⟩
theorem Un.mono(u:Un fs ex H H1 h h1)(hs:∀ b∈fs,b∈fs')(hx:∀ b∈ex,b∈ex'):Un fs' ex' H H1 h h1 :=
 ⟨λ b ob q n hb he=>u.keep b ob q n (λ z=>hb (hs b z)) λ z=>he (hx b z),λ _ _ q n _ he=>u.any q n λ z=>he (hx _ z),λ b ob q n he=>u.free b ob q n λ z=>he (hx b z),λ b ob q he=>u.there b ob q λ z=>he (hx b z),u.tups,u.ki,u.lR⟩
end
def RX(h:Heap)(H:Hp):List Addr:=(List.range h.objs.size).filter λ a=>(H a).isSome
def lS(h:Heap)(H:Hp):Heap:=PySem.W.hideAll h (RX h H)
theorem qB(h:Heap)(H:Hp):(lS h H).objs.size=h.objs.size:=PySem.W.hideAll_size _ _
theorem kj{o:Obj}(e:h.get? b=some o)(n:H b=none):(lS h H).get? b=some o :=
 PySem.W.hideAll_get _ e λ hm=>by
  have q:(H b).isSome=true:=(eG.mp hm).2
  rw [n] at q; simp at q
theorem yF{o:Obj}(e:(lS h H).get? b=some o):h.get? b=some o /\ H b=none:=by
 have e':h.get? b=some o:=PySem.W.of_hideAll (RX h H) e
 refine ⟨e',?_⟩
 cases q:H b with
 | none=>rfl
 | some x =>
  have hm:b∈RX h H:=eG.mpr ⟨fT.mpr (aD e'),by simp [q]⟩
  have z:(lS h H).get? b=none:=PySem.W.hideAll_none (RX h H) hm
  rw [z] at e; cases e
def F4(g h:Heap)(L:Addr):List (Addr × Obj):=(List.range h.objs.size).filterMap λ a=>if a=L \/ (g.get? a).isSome=true then none else (h.get? a).map λ o=>(a,o)
def rest(g h:Heap)(L d:Addr):List (Addr × Obj):=(F4 g h L).filter λ p=>decide (p.1 ≠ d)
structure Mod (K:ay) (mg:Str->Option Value) (base:Heap):Prop where
 Nu:K.In base
 glob:base.Ns mainGlobals mg
 blt:∃ mb,base.Ns builtinsNs mb /\ ∀ x:Str,x ≠ "__name__" -> mb x=bootBuiltins x
 nolimit:base.NoLimit
structure Cx where
 prog:Program
 w:World
 K:ay
 mg:Str->Option Value
 base:Heap
 A:Around
 N:List Str
 s₀:Shared
 H₀:Hp
 env:Env
 outer:List Env
 stack:List Env
 ex:List Addr
 fn:Str->Bool
 calm:Bool
 pn:List (Addr × Obj)
 xe:Value->Shared->Prop
def frs(l:List Env):List Addr:=l.filterMap (·.frame)
abbrev Cx.fs(X:Cx):List Addr:=frs X.outer
def TR(sc:Scope)(x:Str):Prop:=sc.names.lookup x=some .local \/ sc.names.lookup x=some .cell \/ sc.names.lookup x=some .free
def Loc(sc:Scope)(x:Str):Prop:=sc.names.lookup x=some .local \/ sc.names.lookup x=some .cell
def Look(env:Env)(h:Heap)(m:Str->Option Value)(x:Str)(u:Value):Prop :=
 (env.kindOf x=some .local /\ m x=some u) \/ ((env.kindOf x=some .cell \/ env.kindOf x=some .free) /\ ∃ c,env.cells.lookup x=some c /\ h.IsCell c (some u))
structure Cx.Ok (X:Cx):Prop where
 mod:Mod X.K X.mg X.base
 kind:X.env.scope.kind=.function
 glob:X.env.globals=mainGlobals
 blt:X.env.builtins=builtinsNs
 above:X.s₀.heap.objs.size <= X.env.locals
 inj:∀ x y c,X.env.cells.lookup x=some c->X.env.cells.lookup y=some c->x=y
 has:∀ x,(X.env.kindOf x=some .cell \/ X.env.kindOf x=some .free)->∃ c,X.env.cells.lookup x=some c
 NV:∀ x c,X.fn x=true->X.env.cells.lookup x=some c->X.s₀.heap.objs.size <= c
 hd:X.calm=true->X.A.handled=none
 frames:X.A.frames=some X.stack
 stk:X.stack=X.outer \/ (X.stack=X.env :: X.outer /\ X.env.frame=some X.env.locals)
 WO:∀ b∈X.ex,b ≠ X.env.locals /\ ∀ x c,X.env.cells.lookup x=some c->c ≠ b
 bs:∀ b o,X.base.get? b=some o->X.s₀.heap.get? b=some o /\ X.H₀ b=none
 Cf:X.base.objs.size <= X.s₀.heap.objs.size
 Aw:∀ b o,X.base.get? b=some o->b ∉ X.ex
 Ax:∀ b∈X.ex,b ∉ X.fs
 lT:X.s₀.heap.FunFrames X.base X.outer
 IK:∀ b∈X.fs,X.H₀ b=none
structure Inv (X:Cx) (pins:List (Addr × Obj)) (σ:List (Option V)) (H:Hp) (s:Shared):Prop where
 ok:X.Ok
 os:s.os=X.s₀.os
 bare:AllBare s.gens
 base:Un X.fs X.ex X.H₀ H X.s₀.heap s.heap
 loc:∃ m,s.heap.Ns X.env.locals m /\ ∀ (i:Nat) (x:Str) (v:V),X.N[i]? = some x->σ[i]? = some (some v)->TR X.env.scope x->∃ u,RelV v u /\ Look X.env s.heap m x u
 cell:∀ x c,X.env.cells.lookup x=some c->∃ v,s.heap.IsCell c v
 free:H X.env.locals=none
 gr:∀ x c,X.env.cells.lookup x=some c->H c=none
 pin:∀ p∈X.pn++pins,s.heap.get? p.1=some p.2 /\ H p.1=none /\ p.1 ≠ X.env.locals /\ p.1 ∉ X.fs /\ ∀ v,p.2.data ≠ .cell v
 hok:iY X.prog X.w H s.heap
 len:σ.length=X.N.length
section
variable {X:Cx}{pins:List (Addr × Obj)}{σ:List (Option V)}{H H':Hp}{s:Shared}{h':Heap}
theorem Cx.Ok.TU(ok:X.Ok){o:Obj}(e:X.base.get? b=some o):b ∉ X.fs:=λ hb=>by
 have:=(ok.lT.mem hb).1
 rw [e] at this; cases this
theorem Inv.bs(I:Inv X pins σ H s):∀ b o,X.base.get? b=some o->s.heap.get? b=some o /\ H b=none:=λ b o e =>
 ⟨I.base.keep b o (I.ok.bs b o e).1 (I.ok.bs b o e).2 (I.ok.TU e) (I.ok.Aw b o e),I.base.free b o (I.ok.bs b o e).1 (I.ok.bs b o e).2 (I.ok.Aw b o e)⟩
theorem Inv.bk(I:Inv X pins σ H s):∀ b o,X.base.get? b=some o->s.heap.get? b=some o:=λ b o e=>(I.bs b o e).1
theorem Inv.mod(I:Inv X pins σ H s):Mod X.K X.mg X.base:=I.ok.mod
theorem Inv.rO(I:Inv X pins σ H s):X.K.In s.heap:=I.ok.mod.Nu.keeps I.bk
theorem Inv.nolimit(I:Inv X pins σ H s):s.heap.NoLimit:=I.ok.mod.nolimit.keeps I.bk
theorem Inv.fr(I:Inv X pins σ H s):∃ m,Fr X.base X.env.locals s.heap m :=
 let ⟨m,hn,_⟩:=I.loc
 ⟨m,hn,I.bk,br I.ok.Cf I.ok.above⟩
theorem Inv.lt(I:Inv X pins σ H s):X.env.locals < s.heap.objs.size:=let ⟨_,hn,_⟩:=I.loc; hn.lt
theorem Inv.sz(I:Inv X pins σ H s):X.s₀.heap.objs.size <= s.heap.objs.size:=br I.ok.above (gS I.lt)
theorem Inv.Kq(I:Inv X pins σ H s)(h:s.heap.objs.size <= a):a ∉ X.fs:=λ hb=>by
 obtain ⟨_,o,ho,_⟩:=I.ok.lT.mem hb
 exact absurd (bN (aD ho) (br I.sz h)) (cV _)
theorem Inv.Kr(I:Inv X pins σ H s):∀ x c,X.env.cells.lookup x=some c->c ≠ X.env.locals:=λ x c e z=>by
 obtain ⟨v,o,ho,hd⟩:=I.cell x c e
 obtain ⟨m,⟨o',es,ep,ho',hd',_⟩,_⟩:=I.loc
 rw [z,ho'] at ho; cases ho; rw [hd'] at hd; cases hd
theorem Inv.lT(I:Inv X pins σ H s):s.heap.FunFrames X.base X.outer:=by
 have all:∀ (l:List Env),(∀ b∈frs l,b∈X.fs)->X.s₀.heap.FunFrames X.base l->s.heap.FunFrames X.base l:=by
  intro l
  induction l with
  | nil=>intro _ _; trivial
  | cons env r ih =>
   intro hs hl
   obtain ⟨hk,⟨L,o,hf,hn,ho,hd⟩,hr⟩:=hl
   have hL:L∈X.fs:=hs L (by unfold frs; rw [List.filterMap_cons,hf]; exact gq)
   obtain ⟨sl,e⟩:=I.base.slot L o ho (I.ok.IK L hL) hL λ z=>I.ok.Ax L z hL
   exact ⟨hk,⟨L,_,hf,hn,e,hd⟩,ih (λ b hb=>hs b (by unfold frs; rw [List.filterMap_cons,hf]; exact cu _ hb)) hr⟩
 exact all X.outer (λ _ hb=>hb) I.ok.lT
theorem Inv.stack(I:Inv X pins σ H s):s.heap.FunFrames X.base X.stack:=by
 rcases I.ok.stk with e | ⟨e,hf⟩
 ·rw [e]; exact I.lT
 ·rw [e]
  obtain ⟨m,hn,_⟩:=I.loc
  refine .cons (by rw [I.ok.kind]; decide) hf hn ?_ I.lT
  exact Heap.get?_none_of_le (br I.ok.Cf I.ok.above)
theorem Inv.oj(I:Inv X pins σ H s):∀ b∈frs X.stack,b∈X.env.locals :: X.fs:=λ b hb=>by
 rcases I.ok.stk with e | ⟨e,hf⟩
 ·rw [e] at hb; exact cu _ hb
 ·rw [e] at hb
  unfold frs at hb
  rw [List.filterMap_cons,hf] at hb
  exact hb
theorem Inv.nh(I:Inv X pins σ H s):∀ b∈frs X.stack,H b=none:=λ b hb=>by
 rcases aB.mp (I.oj b hb) with e | hb
 ·rw [e]; exact I.free
 ·obtain ⟨_,o,ho,_⟩:=I.ok.lT.mem hb
  exact I.base.free b o ho (I.ok.IK b hb) λ z=>I.ok.Ax b z hb
theorem Inv.step{g':Array GenState}{d':Drawn}(I:Inv X pins σ H s)
  (hch:∀ b∈ch,(b∈X.ex \/ X.s₀.heap.objs.size <= b) /\ b ≠ X.env.locals /\ (∀ x c,X.env.cells.lookup x=some c->c ≠ b) /\ ∀ p∈X.pn++pins,p.1 ≠ b)
  (keep:∀ b o,b ≠ X.env.locals->b ∉ X.fs->b ∉ ch->s.heap.get? b=some o->H b=none->h'.get? b=some o)
  (slot:∀ b o,b ≠ X.env.locals->b∈X.fs->b ∉ ch->s.heap.get? b=some o->H b=none->∃ sl,h'.get? b=some { o with slots:=sl })(free:∀ b o,b ∉ ch->s.heap.get? b=some o->H b=none->H' b=none)
  (there:∀ b o,b ∉ ch->s.heap.get? b=some o->∃ o',h'.get? b=some o')
  (tups:∀ b xs,H b=some (.tup xs)->H' b=some (.tup xs))(ki:∀ b o u,H b=some (.tE o u)->H' b=some (.tE o u))(lR:∀ b ps,H b=some (.lJ ps)->∃ more,H' b=some (.lJ (ps++more)))
  (ns:∀ m,s.heap.Ns X.env.locals m->h'.Ns X.env.locals m)(hok:iY X.prog X.w H' h')(hg:AllBare g'):
  Inv X pins σ H' { s with heap:=h',gens:=g',drawn:=d',toks:=t' }:=by
 have WQ:∀ b o,X.s₀.heap.get? b=some o->b ≠ X.env.locals:=λ b o e=>aO (bN (aD e) I.ok.above)
 have RY:∀ b o,X.s₀.heap.get? b=some o->b ∉ X.ex->b ∉ ch:=λ b o e hx hb=>by
  rcases (hch b hb).1 with z | z
  ·exact hx z
  ·exact absurd (bN (aD e) z) (cV _)
 have cellK:∀ x c,X.env.cells.lookup x=some c->∀ v,s.heap.IsCell c v->h'.IsCell c v:=λ x c e v ⟨o,ho,hd⟩=>by
  have NW:c ∉ ch:=λ z=>(hch c z).2.2.1 x c e rfl
  by_cases hc:c∈X.fs
  ·obtain ⟨sl,q⟩:=slot c o (I.Kr x c e) hc NW ho (I.gr x c e)
   exact ⟨_,q,hd⟩
  ·exact ⟨o,keep c o (I.Kr x c e) hc NW ho (I.gr x c e),hd⟩
 refine ⟨I.ok,I.os,hg,⟨λ b o e n hb hx=>?_,λ b o e n hb hx=>?_,λ b o e n hx=>?_,λ b o e hx=>?_,λ b xs e=>tups b xs (I.base.tups b xs e),λ b o xs e=>ki b o xs (I.base.ki b o xs e),λ b ps e=>?_⟩,?_,λ x c e=>?_,?_,λ x c e=>?_,λ p hp=>?_,hok,I.len⟩
 ·exact keep b o (WQ b o e) hb (RY b o e hx) (I.base.keep b o e n hb hx) (I.base.free b o e n hx)
 ·obtain ⟨sl,e1⟩:=I.base.slot b o e n hb hx
  obtain ⟨Ce,e2⟩:=slot b _ (WQ b o e) hb (RY b o e hx) e1 (I.base.free b o e n hx)
  exact ⟨Ce,e2⟩
 ·obtain ⟨o',e1⟩:=I.base.there b o e hx
  exact free b o' (RY b o e hx) e1 (I.base.free b o e n hx)
 ·obtain ⟨o',e1⟩:=I.base.there b o e hx
  exact there b o' (RY b o e hx) e1
 ·obtain ⟨m1,e1⟩:=I.base.lR b ps e
  obtain ⟨m2,e2⟩:=lR b _ e1
  exact ⟨m1++m2,by rw [e2,Array.append_assoc]⟩
 ·obtain ⟨m,hn,hl⟩:=I.loc
  refine ⟨m,ns m hn,λ i x v e1 e2 e3=>?_⟩
  obtain ⟨u,r,l⟩:=hl i x v e1 e2 e3
  refine ⟨u,r,?_⟩
  rcases l with l | ⟨k,c,e,z⟩
  ·exact .inl l
  ·exact .inr ⟨k,c,e,cellK x c e _ z⟩
 ·obtain ⟨v,z⟩:=I.cell x c e
  exact ⟨v,cellK x c e v z⟩
 ·obtain ⟨m,⟨o,_,_,ho,_⟩,_⟩:=I.loc
  exact free _ o (λ z=>(hch _ z).2.1 rfl) ho I.free
 ·obtain ⟨v,o,ho,hd⟩:=I.cell x c e
  exact free c o (λ z=>(hch c z).2.2.1 x c e rfl) ho (I.gr x c e)
 ·obtain ⟨e,n,ne,nf,d⟩:=I.pin p hp
  have NW:p.1 ∉ ch:=λ z=>(hch p.1 z).2.2.2 p hp rfl
  exact ⟨keep p.1 p.2 ne nf NW e n,free p.1 p.2 NW e n,ne,nf,d⟩
theorem Inv.un(I:Inv X pins σ H s)(u:Un X.fs [] H H' s.heap h')(hok:iY X.prog X.w H' h'):Inv X pins σ H' { s with heap:=h',toks:=t' }:=by
 obtain ⟨m,⟨o,es,ep,ho,r⟩,_⟩:=id I.loc
 obtain ⟨sl,hL⟩:=u.any ho I.free (by simp)
 exact I.step (g':=s.gens) (d':=s.drawn) (ch:=[]) (λ _ z=>nomatch z) (λ b o _ hb _ e n=>u.keep b o e n hb (by simp)) (λ b o _ hb _ e n=>u.slot b o e n hb (by simp)) (λ b o _ e n=>u.free b o e n (by simp)) (λ b o _ e=>u.there b o e (by simp)) u.tups u.ki u.lR (λ m' hm=>by
  obtain ⟨o',es',mK,ho',r'⟩:=hm
  rw [ho] at ho'; cases ho'
  exact ⟨_,es',mK,hL,r'⟩) hok I.bare
theorem Inv.call{g':Array GenState}{d':Drawn}(I:Inv X pins σ H s)(u:Un (frs X.stack) ch H H' s.heap h')(hok:iY X.prog X.w H' h')(hg:AllBare g')
  (hch:∀ b∈ch,(b∈X.ex \/ X.s₀.heap.objs.size <= b) /\ b ≠ X.env.locals /\ (∀ x c,X.env.cells.lookup x=some c->c ≠ b) /\ ∀ p∈X.pn++pins,p.1 ≠ b):
  Inv X pins σ H' { s with heap:=h',gens:=g',drawn:=d',toks:=t' }:=by
 obtain ⟨m,⟨o,es,ep,ho,r⟩,_⟩:=id I.loc
 obtain ⟨sl,hL⟩:=u.any ho I.free λ z=>(hch _ z).2.1 rfl
 exact I.step (ch:=ch) hch (λ b o hL hb hc e n=>u.keep b o e n (λ z=>(aB.mp (I.oj b z)).elim hL hb) hc) (λ b o _ _ hc e n=>u.any e n hc) (λ b o hc e n=>u.free b o e n hc) (λ b o hc e=>u.there b o e hc) u.tups u.ki u.lR (λ m' hm=>by
  obtain ⟨o',es',mK,ho',r'⟩:=hm
  rw [ho] at ho'; cases ho'
  exact ⟨_,es',mK,hL,r'⟩) hok hg
theorem Inv.turned{it:Addr}(I:Inv X pins σ H s)(k:∀ b o,b ≠ it->s.heap.get? b=some o->h'.get? b=some o)(hn:H it=none)(hL:it ≠ X.env.locals)
  (h1:it∈X.ex \/ X.s₀.heap.objs.size <= it)(h2:∀ x c,X.env.cells.lookup x=some c->c ≠ it)(h3:∀ p∈X.pn++pins,p.1 ≠ it):Inv X pins σ H { s with heap:=h',toks:=t' }:=by
 have NX:∀ b u,H b=some u->b ≠ it:=λ b u e z=>by rw [z,hn] at e; cases e
 refine I.step (g':=s.gens) (d':=s.drawn) (ch:=[it]) (λ b hb=>?_) (λ b o _ _ hc e _=>k b o (λ z=>hc (by simp [z])) e) (λ b o _ _ hc e _=>⟨o.slots,k b o (λ z=>hc (by simp [z])) e⟩) (λ _ _ _ _ n=>n)
  (λ b o hc e=>⟨o,k b o (λ z=>hc (by simp [z])) e⟩) (λ _ _ e=>e) (λ _ _ _ e=>e) (λ b ps e=>⟨#[],by rw [e]; simp⟩) (λ m hm=>?_) (λ b u e=>?_) I.bare
 ·have e:b=it:=by simpa using hb
  subst e
  exact ⟨h1,hL,h2,h3⟩
 ·obtain ⟨o,es,ep,ho,r⟩:=hm
  exact ⟨o,es,ep,k _ o (aZ hL) ho,r⟩
 ·refine (I.hok b u e).stay (λ c v hc q=>k c v ?_ q) (λ _ q=>q) λ _ _ q=>q
  rcases hc with z | z
  ·rw [z]; exact NX b u e
  ·exact NX c _ z
theorem Inv.tok(I:Inv X pins σ H s)(t:Nat):Inv X pins σ H { s with toks:=t }:=I.un (h':=s.heap) (t':=t) Un.refl I.hok
theorem Inv.kept(I:Inv X pins σ H s)(k:∀ b u,s.heap.get? b=some u->h'.get? b=some u):Inv X pins σ H { s with heap:=h',toks:=t' }:=I.un (Un.kept k) (I.hok.kept k)
theorem Inv.laid(I:Inv X pins σ H s)(k:∀ b u,s.heap.get? b=some u->h'.get? b=some u)(hp:s.heap.objs.size <= a)(new:bU X.prog X.w (upd H a o) h' a o):
  Inv X pins σ (upd H a o) { s with heap:=h',toks:=t' }:=I.un (Un.laid k hp (I.hok.fresh hp)) (I.hok.laid k hp new)
theorem Inv.write{x e:Addr}(I:Inv X pins σ H s)(mu:NT (H x))(he:e=x \/ H e=some (.own x))(k:∀ b u,b ≠ e->s.heap.get? b=some u->h'.get? b=some u)(Nt:∃ u,h'.get? e=some u)
  (new:bU X.prog X.w (upd H x o) h' x o):Inv X pins σ (upd H x o) { s with heap:=h',toks:=t' }:=I.un (Un.write mu he k Nt) (I.hok.write mu he k Nt new)
theorem Inv.ju{Cq:List (Addr × Obj)}(I:Inv X pins σ H s)(h:∀ p∈Cq,s.heap.get? p.1=some p.2 /\ H p.1=none /\ p.1 ≠ X.env.locals /\ p.1 ∉ X.fs /\ ∀ v,p.2.data ≠ .cell v):Inv X Cq σ H s :=
 ⟨I.ok,I.os,I.bare,I.base,I.loc,I.cell,I.free,I.gr,λ p hp=>(aK.mp hp).elim (λ z=>I.pin p (gR _ z)) (h p),I.hok,I.len⟩
theorem tK(hN:N.Nodup){j:Nat}(a:N[i]? = some x)(b:N[j]? = some x):i=j:=by
 obtain ⟨h1,e1⟩:=e9 a
 obtain ⟨h2,e2⟩:=e9 b
 exact (lN hN).mp (e1.trans e2.symm)
theorem lU(I:Inv X pins σ H s)(hN:X.N.Nodup)(hi:X.N[i]? = some x)(hx:Loc X.env.scope x)(r:RelV v u)
  (h:∀ s',Inv X pins (σ.set i (some v)) H s'->(∃ a,Heap.SameBut a s.heap s'.heap /\ (a=X.env.locals \/ X.env.cells.lookup x=some a))->Q () s')(hf:X.fn x=true \/ X.env.scope.names.lookup x=some .local:=by first | exact .inl rfl | exact .inr rfl | assumption):wpAny M A (storeName X.env x u) Q E s:=by
 obtain ⟨m,hn,hl⟩:=id I.loc
 have hcls:(X.env.scope.kind == .class || (X.env.scope.kind == .module && X.env.locals != X.env.globals))=false:=by rw [I.ok.kind]; rfl
 have WR:i < σ.length:=by rw [I.len]; exact (e9 hi).1
 have Kr:=I.Kr
 have tracked:∀ {a:Addr} {h':Heap},(∃ o,s.heap.get? a=some o /\ H a=none)->Heap.SameBut a s.heap h'->iY X.prog X.w H h':=λ {a h'} ha hs b ob e=>by
  obtain ⟨_,_,hfree⟩:=ha
  refine (I.hok b ob e).stay (λ c w' hc q=>(hs.2 c ?_).trans q) (λ _ q=>q) λ _ _ q=>q
  rintro rfl
  rcases hc with rfl | hc
  ·rw [hfree] at e; cases e
  ·rw [hfree] at hc; cases hc
 rcases hx with hk | hk
 ·refine wpAny_storeName_local hk hn (λ h' hn' hs=>?_) hcls
  obtain ⟨oL,_,_,Ye,_⟩:=id hn
  refine h _ ⟨I.ok,I.os,I.bare,⟨λ b o e n hb hx=>?_,λ b o e n hb hx=>?_,I.base.free,λ b o e hx=>?_,I.base.tups,I.base.ki,I.base.lR⟩,⟨_,hn',λ j y v' e1 e2 e3=>?_⟩,λ y c e=>?_,I.free,I.gr,λ p hp=>?_,tracked ⟨oL,Ye,I.free⟩ hs,by simpa using I.len⟩ ⟨_,hs,.inl rfl⟩
  ·exact (hs.2 b (aO (bN (aD e) I.ok.above))).trans (I.base.keep b o e n hb hx)
  ·obtain ⟨sl,e1⟩:=I.base.slot b o e n hb hx
   exact ⟨sl,(hs.2 b (aO (bN (aD e) I.ok.above))).trans e1⟩
  ·obtain ⟨o',e1⟩:=I.base.there b o e hx
   exact ⟨o',(hs.2 b (aO (bN (aD e) I.ok.above))).trans e1⟩
  ·by_cases hj:j=i
   ·subst hj
    rw [hi] at e1; cases e1
    rw [List.getElem?_set_self WR] at e2
    cases e2
    exact ⟨u,r,.inl ⟨hk,by simp⟩⟩
   ·rw [List.getElem?_set_ne (aZ hj)] at e2
    obtain ⟨u',r',q⟩:=hl j y v' e1 e2 e3
    refine ⟨u',r',?_⟩
    rcases q with ⟨k,e⟩ | ⟨k,c,e,z⟩
    ·refine .inl ⟨k,?_⟩
     have:y ≠ x:=λ e=>hj (tK hN e1 (e ▸ hi))
     simp [this,e]
    ·exact .inr ⟨k,c,e,z.sameBut hs (Kr y c e)⟩
  ·obtain ⟨w',z⟩:=I.cell y c e
   exact ⟨w',z.sameBut hs (Kr y c e)⟩
  ·obtain ⟨e,n,ne,nf,d⟩:=I.pin p hp
   exact ⟨(hs.2 p.1 ne).trans e,n,ne,nf,d⟩
 ·have hfn:X.fn x=true:=by
   rcases hf with z | z
   ·exact z
   ·rw [z] at hk; cases hk
  obtain ⟨c,hc⟩:=I.ok.has x (.inl hk)
  obtain ⟨w',z⟩:=I.cell x c hc
  refine wpAny_storeName_cell I.ok.kind hk hc z (λ h' hc' hs=>?_)
  obtain ⟨oc,hoc,TV⟩:=id z
  refine h { s with heap:=h' } ⟨I.ok,I.os,I.bare,⟨λ b o e n hb hx=>?_,λ b o e n hb hx=>?_,I.base.free,λ b o e hx=>?_,I.base.tups,I.base.ki,I.base.lR⟩,⟨m,hn.sameBut hs (aZ (Kr x c hc)),λ j y v' e1 e2 e3=>?_⟩,λ y c' e=>?_,I.free,I.gr,λ p hp=>?_,tracked ⟨oc,hoc,I.gr x c hc⟩ hs,by simpa using I.len⟩ ⟨c,hs,.inr hc⟩
  ·exact (hs.2 b (aO (bN (aD e) (I.ok.NV x c hfn hc)))).trans (I.base.keep b o e n hb hx)
  ·obtain ⟨sl,e1⟩:=I.base.slot b o e n hb hx
   exact ⟨sl,(hs.2 b (aO (bN (aD e) (I.ok.NV x c hfn hc)))).trans e1⟩
  ·obtain ⟨o',e1⟩:=I.base.there b o e hx
   exact ⟨o',(hs.2 b (aO (bN (aD e) (I.ok.NV x c hfn hc)))).trans e1⟩
  ·by_cases hj:j=i
   ·subst hj
    rw [hi] at e1; cases e1
    rw [List.getElem?_set_self WR] at e2
    cases e2
    exact ⟨u,r,.inr ⟨.inl hk,c,hc,hc'⟩⟩
   ·rw [List.getElem?_set_ne (aZ hj)] at e2
    obtain ⟨u',r',q⟩:=hl j y v' e1 e2 e3
    refine ⟨u',r',?_⟩
    rcases q with q | ⟨k,c',e,z'⟩
    ·exact .inl q
    ·refine .inr ⟨k,c',e,z'.sameBut hs ?_⟩
     rintro rfl
     exact hj (tK hN e1 (I.ok.inj _ _ _ e hc ▸ hi))
  ·by_cases hcc:c'=c
   ·subst hcc; exact ⟨_,hc'⟩
   ·obtain ⟨w2,z2⟩:=I.cell y c' e
    exact ⟨w2,z2.sameBut hs hcc⟩
  ·obtain ⟨e,n,ne,nf,d⟩:=I.pin p hp
   refine ⟨(hs.2 p.1 ?_).trans e,n,ne,nf,d⟩
   intro q
   rw [q,hoc] at e
   have q':oc=p.2:=Option.some.inj e
   exact d w' (by rw [<- q']; exact TV)
theorem om(I:Inv X pins σ H s)(hN:X.N.Nodup)(hi:X.N[i]? = some x)(hx:Loc X.env.scope x)(r:RelV v u)
  (h:∀ s',Inv X pins (σ.set i (some v)) H s'->Q () s')(hf:X.fn x=true \/ X.env.scope.names.lookup x=some .local:=by first | exact .inl rfl | exact .inr rfl | assumption):wpAny M A (storeName X.env x u) Q E s :=
 lU I hN hi hx r (λ s' I' _=>h s' I') hf
theorem Inv.Cr{s':Shared}(I:Inv X pins σ H s)(ho:s'.os=s.os)(u:Un (frs X.stack) ch H H' s.heap s'.heap)(hok:iY X.prog X.w H' s'.heap)(hg:AllBare s'.gens)
  (hch:∀ b∈ch,(b∈X.ex \/ X.s₀.heap.objs.size <= b) /\ b ≠ X.env.locals /\ (∀ x c,X.env.cells.lookup x=some c->c ≠ b) /\ ∀ p∈X.pn++pins,p.1 ≠ b):Inv X pins σ H' s':=by
 obtain ⟨h',g',d',t',o'⟩:=s'
 have e:o'=s.os:=ho
 subst e
 exact I.call (g':=g') (t':=t') (d':=d') u hok hg hch
end
abbrev XK:=Value->Option Addr->Hp->Prop
abbrev St:=List (Option V)
abbrev VK:=V->Hp->Prop
abbrev TE:=St->Hp->VK->Prop
abbrev TT:=St->Hp->(Bool->Hp->Prop)->Prop
abbrev TA:=St->Hp->(List V->Hp->Prop)->Prop
structure Ends where
 nx:St->Hp->Prop
 rt:VK
 bk:St->Hp->Prop:=λ _ _=>False
 ct:St->Hp->Prop:=λ _ _=>False
abbrev TS:=Ends->St->Hp->Prop
def EP(X:Cx)(pins:List (Addr × Obj))(σ:St)(Q:VK)(u:Value)(s':Shared):Prop:=∃ v H',Inv X pins σ H' s' /\ RelV v u /\ Q v H'
def TP(X:Cx)(pins:List (Addr × Obj))(σ:St)(Q:Bool->Hp->Prop)(b:Bool)(s':Shared):Prop:=∃ H',Inv X pins σ H' s' /\ Q b H'
def AP(X:Cx)(pins:List (Addr × Obj))(σ:St)(Q:List V->Hp->Prop)(us:List Value)(s':Shared):Prop:=∃ vs H',Inv X pins σ H' s' /\ Vals vs us /\ Q vs H'
def SP(X:Cx)(pins:List (Addr × Obj))(D:Ends)(f:Flow)(s':Shared):Prop :=
 match f with
 | .next=>∃ σ' H',Inv X pins σ' H' s' /\ D.nx σ' H'
 | .brk=>∃ σ' H',Inv X pins σ' H' s' /\ D.bk σ' H'
 | .cont=>∃ σ' H',Inv X pins σ' H' s' /\ D.ct σ' H'
 | .ret u=>∃ v σ' H',Inv X pins σ' H' s' /\ RelV v u /\ D.rt v H'
def PE(X:Cx)(e:Expr)(t:TE):Prop :=
 ∀ (pins:List (Addr × Obj)) (s:Shared) (σ:St) (H:Hp) (Q:VK),Inv X pins σ H s->t σ H Q->wpAny (model X.prog X.w) X.A (eval e X.env) (EP X pins σ Q) X.xe s
def PT(X:Cx)(e:Expr)(t:TT):Prop :=
 ∀ (pins:List (Addr × Obj)) (s:Shared) (σ:St) (H:Hp) (Q:Bool->Hp->Prop),Inv X pins σ H s->t σ H Q->wpAny (model X.prog X.w) X.A (isTrue e X.env (eval e X.env)) (TP X pins σ Q) X.xe s
def PW(X:Cx)(e:Expr)(t:TT):Prop :=
 ∀ (whole:Sem Value) (pins:List (Addr × Obj)) (s:Shared) (σ:St) (H:Hp) (Q:Bool->Hp->Prop),Inv X pins σ H s->t σ H Q->wpAny (model X.prog X.w) X.A (isTrue e X.env whole) (TP X pins σ Q) X.xe s
theorem PW.pt{t:TT}(h:PW X e t):PT X e t:=h _
def PA(X:Cx)(es:List Expr)(t:TA):Prop :=
 ∀ (pos:Pos) (pins:List (Addr × Obj)) (s:Shared) (σ:St) (H:Hp) (Q:List V->Hp->Prop),Inv X pins σ H s->t σ H Q->wpAny (model X.prog X.w) X.A (spliced (backTo pos (starEach es X.env))) (AP X pins σ Q) X.xe s
def PS(X:Cx)(st:Stmt)(t:TS):Prop :=
 ∀ (pins:List (Addr × Obj)) (s:Shared) (σ:St) (H:Hp) (D:Ends),Inv X pins σ H s->t D σ H->wpAny (model X.prog X.w) X.A (exec st X.env) (SP X pins D) X.xe s
def ql(X:Cx)(st:List Stmt)(t:TS):Prop :=
 ∀ (pins:List (Addr × Obj)) (s:Shared) (σ:St) (H:Hp) (D:Ends),Inv X pins σ H s->t D σ H->wpAny (model X.prog X.w) X.A (execs st X.env) (SP X pins D) X.xe s
theorem cA{α:Type}{t:Sem α}{Q Q':α->Shared->Prop}(h:wpAny M A t Q E s)(hQ:∀ a s,Q a s->Q' a s):wpAny M A t Q' E s:=wpAny_mono h hQ λ _ _ x=>x
section
variable {X:Cx}
theorem bin{a b:Expr}{ta tb:TE}(ha:PE X a ta)(hb:PE X b tb){σ:St}{R:V->V->Hp->Prop}(I:Inv X pins σ H s)(h:ta σ H λ x H1=>tb σ H1 λ y H2=>R x y H2)
  {α:Type}{Q:α->Shared->Prop}{f:Value->Value->Sem α}
  (hf:∀ v u s2 x y H2,Inv X pins σ H2 s2->RelV x v->RelV y u->R x y H2->wpAny (model X.prog X.w) X.A (f v u) Q X.xe s2):
  wpAny (model X.prog X.w) X.A (eval a X.env) (λ v s₁=>wpAny (model X.prog X.w) X.A (eval b X.env) (λ u s₂=>wpAny (model X.prog X.w) X.A (f v u) Q X.xe s₂) X.xe s₁) X.xe s:=by
 refine cA (ha pins s σ H _ I h) λ v s1 ⟨x,H1,I1,r1,q1⟩=>?_
 refine cA (hb pins s1 σ H1 _ I1 q1) λ u s2 ⟨y,H2,I2,r2,q2⟩=>?_
 exact hf v u s2 x y H2 I2 r1 r2 q2
def j0(i:Nat):TE:=λ σ H Q=>∃ v,σ[i]? = some (some v) /\ Q v H
def tC(v:V):TE:=λ _ H Q=>Q v H
theorem Ks(hN:X.N[i]? = some x)(hv:TR X.env.scope x)(hd:(x == ("__debug__" : Str))=false:=by decide)(hcd:(x == ("__classdict__" : Str))=false:=by decide):PE X (.Name x pos) (j0 i):=by
 intro pins s σ H Q I h
 obtain ⟨v,e,h⟩:=h
 obtain ⟨m,hn,hl⟩:=I.loc
 obtain ⟨u,r,l⟩:=hl i x v hN e hv
 have fin:EP X pins σ Q u s:=⟨v,H,I,r,h⟩
 rcases l with ⟨hk,hm⟩ | ⟨hk,c,hc,hcell⟩
 ·exact wpAny_Name (wpAny_loadName_local I.ok.kind hk hn hm fin) hd
 ·rcases hk with hk | hk
  ·exact wpAny_Name (wpAny_loadName_cell I.ok.kind hk hc hcell fin) hd
  ·exact wpAny_Name (wpAny_loadName_free I.ok.kind hk hc hcell fin hcd) hd
theorem az{i j pos}:PE X (.Constant (.int i) j pos) (tC (.int i)):=λ _ _ _ H _ I h=>wpAny_Constant_int ⟨.int i,H,I.tok _,⟨_,rfl⟩,h⟩
theorem qC{b j pos}:PE X (.Constant (.bool b) j pos) (tC (.bl b)):=λ _ _ _ H _ I h=>Constant_bool ⟨.bl b,H,I,rfl,h⟩
theorem oq{j pos}:PE X (.Constant .none j pos) (tC .cP):=λ _ _ _ H _ I h=>Constant_none ⟨.cP,H,I,rfl,h⟩
theorem fU{x j pos}:PE X (.Constant (.str x) j pos) (tC (.str x)):=λ _ _ _ H _ I h=>Calls.Constant_str ⟨.str x,H,I.tok _,⟨_,rfl⟩,h⟩
def Gl(X:Cx)(x:Str):Prop:=X.env.kindOf x=some .globalImplicit
theorem yG{σ:St}{Q:Value->Shared->Prop}(I:Inv X pins σ H s)(hg:Gl X x)(hm:X.mg x=some u)(h:Q u s)
  (hd:(x == ("__debug__" : Str))=false:=by decide):wpAny (model X.prog X.w) X.A (eval (.Name x pos) X.env) Q E s :=
 Calls.Name_function_global I.ok.kind hg (Calls.loadGlobal_global (by rw [I.ok.glob]; exact I.mod.glob.keeps I.bk) hm h) hd
theorem gu{σ:St}{Q:Value->Shared->Prop}(I:Inv X pins σ H s)(hg:Gl X x)(hm:X.mg x=none)(hv:bootBuiltins x=some u)(h:Q u s)
  (hn:x ≠ "__name__" := by decide)(hd:(x == ("__debug__" : Str))=false:=by decide):wpAny (model X.prog X.w) X.A (eval (.Name x pos) X.env) Q E s:=by
 obtain ⟨mb,h1,h2⟩:=I.mod.blt
 exact Calls.Name_function_global I.ok.kind hg (Calls.loadGlobal_builtin (by rw [I.ok.glob]; exact I.mod.glob.keeps I.bk) hm (by rw [I.ok.blt]; exact h1.keeps I.bk) ((h2 x hn).trans hv) h) hd
theorem gH(hg:Gl X x)(hm:X.mg x=some u)(r:RelV v u)(hd:(x == ("__debug__" : Str))=false:=by decide):PE X (.Name x pos) (tC v) :=
 λ _ _ _ H _ I h=>yG I hg hm ⟨v,H,I,r,h⟩ hd
theorem F5{u:Value}(hg:Gl X x)(hm:X.mg x=none)(hv:bootBuiltins x=some u)(r:RelV v u)(hn:x ≠ "__name__" := by decide)(hd:(x == ("__debug__" : Str))=false:=by decide):PE X (.Name x pos) (tC v) :=
 λ _ _ _ H _ I h=>gu I hg hm hv ⟨v,H,I,r,h⟩ hn hd
variable {a b:Expr}{ta tb:TE}{pos:Pos}
def PC(X:Cx)(op:CmpOp)(a b:Expr)(t:TE):Prop :=
 ∀ (pins:List (Addr × Obj)) (s:Shared) (σ:St) (H:Hp) (Q:VK),Inv X pins σ H s->t σ H Q ->
  wpAny (model X.prog X.w) X.A (eval a X.env) (λ v s₁=>wpAny (model X.prog X.w) X.A (eval b X.env) (λ u s₂=>wpAny (model X.prog X.w) X.A (compareOp op v u) (EP X pins σ Q) X.xe s₂) X.xe s₁) X.xe s
theorem Cs(b:Expr)(h:op ≠ .In)(h2:op ≠ .NotIn):behindInMarks op b=false:=by
 have e1:(op == CmpOp.In)=false:=by cases op <;> first | rfl | exact absurd rfl h
 have e2:(op == CmpOp.NotIn)=false:=by cases op <;> first | rfl | exact absurd rfl h2
 cases b <;> simp [behindInMarks,e1,e2]
def tB(t:TE):TT:=λ σ H Q=>t σ H λ x H1=>∃ c,x=.bl c /\ Q c H1
theorem Ku(h:PC X op a b t)(h1:behindInMarks op b=false:=by first | exact Cs _ (by decide) (by decide) | rfl):PT X (.Compare a [op] [b] pos) (tB t):=by
 intro pins s σ H Q I hw
 refine wpAny_isTrue_Compare1 (cA (h pins s σ H _ I hw) λ v s1 h1=>cA h1 λ u s2 h2=>cA h2 λ c s3 ⟨x,H1,I1,r1,q1⟩=>?_) h1
 obtain ⟨d,rfl,q⟩:=q1
 cases r1
 exact wpAny_truthy_bool ⟨H1,I1,q⟩
theorem Kv(h:PE X e t)(he:∀ whole,isTrue e X.env whole=(do let v <- whole; standAt e.pos; holding [v] (truthy v)):=by intro _; rfl):PT X e (tB t):=by
 intro pins s σ H Q I hw
 refine isTrue_plain (cA (h pins s σ H _ I hw) λ v s1 ⟨x,H1,I1,r1,q1⟩=>?_) (he _)
 obtain ⟨d,rfl,q⟩:=q1
 cases r1
 exact wpAny_truthy_bool ⟨H1,I1,q⟩
variable {tA RZ:TT}{rest:List Expr}
def NY(t u:TT):TT:=λ σ H Q=>t σ H λ c H1=>if c=true then u σ H1 Q else Q false H1
def WS(t u:TT):TT:=λ σ H Q=>t σ H λ c H1=>if c=true then Q true H1 else u σ H1 Q
def NZ(t:TT):TT:=λ σ H Q=>t σ H λ c H1=>Q (!c) H1
theorem yH(ha:PT X a tA):PW X (.BoolOp .And [a] pos) tA:=by
 intro wh pins s σ H Q I h
 refine isTrue_and (cA (ha pins s σ H Q I h) λ c s1 e=>?_)
 cases c with
 | true=>exact isTrue_and_nil e
 | false=>exact e
theorem rP(ha:PT X a tA):PW X (.BoolOp .Or [a] pos) tA:=by
 intro wh pins s σ H Q I h
 refine isTrue_or (cA (ha pins s σ H Q I h) λ c s1 e=>?_)
 cases c with
 | false=>exact isTrue_or_nil e
 | true=>exact e
theorem Ct(ha:PT X a tA)(hb:PW X (.BoolOp .And (b :: rest) pos) RZ):PW X (.BoolOp .And (a :: b :: rest) pos) (NY tA RZ):=by
 intro wh pins s σ H Q I h
 refine isTrue_and (cA (ha pins s σ H _ I h) λ c s1 ⟨H1,I1,q1⟩=>?_)
 cases c with
 | true=>exact hb wh pins s1 σ H1 Q I1 q1
 | false=>exact ⟨H1,I1,q1⟩
theorem tL(ha:PT X a tA)(hb:PW X (.BoolOp .Or (b :: rest) pos) RZ):PW X (.BoolOp .Or (a :: b :: rest) pos) (WS tA RZ):=by
 intro wh pins s σ H Q I h
 refine isTrue_or (cA (ha pins s σ H _ I h) λ c s1 ⟨H1,I1,q1⟩=>?_)
 cases c with
 | true=>exact ⟨H1,I1,q1⟩
 | false=>exact hb wh pins s1 σ H1 Q I1 q1
theorem Kw(ha:PT X a tA):PT X (.UnaryOp .Not a pos) (NZ tA):=by
 intro pins s σ H Q I h
 exact isTrue_not (ha pins s σ H (λ c H1=>Q (!c) H1) I h)
def WT(t:TT)(ta tb:TE):TE:=λ σ H Q=>t σ H λ c H1=>if c=true then ta σ H1 Q else tb σ H1 Q
theorem gw(hc:PT X c tA)(ha:PE X a ta)(hb:PE X b tb):PE X (.IfExp c a b pos) (WT tA ta tb):=by
 intro pins s σ H Q I h
 refine wpAny_IfExp (cA (hc pins s σ H _ I h) λ d s1 ⟨H1,I1,q1⟩=>?_)
 cases d with
 | true=>exact ha pins s1 σ H1 Q I1 q1
 | false=>exact hb pins s1 σ H1 Q I1 q1
end
def bI(K:ay)(H:Hp)(a:Addr)(xs:List V):Prop :=
 Rd H a (.lst xs) \/
  ∃ (o:Obj) (its:Array Value) (n:Nat),K.lookup a=some o /\ o.cls=.type "list" /\ o.dict=none /\ o.data=.seq its n /\ its.size <= sizeLine /\ Vals xs its.toList
def gm(K:ay)(H:Hp)(a:Addr)(xs:List V):Prop :=
 Rd H a (.tup xs) \/
  ∃ (o:Obj) (its:Array Value) (n:Nat),K.lookup a=some o /\ o.cls=.type "tuple" /\ o.data=.seq its n /\ its.size <= sizeLine /\ Vals xs its.toList
def TX:Value->Option V
 | .none=>some .cP
 | .bool b=>some (.bl b)
 | .int i _=>some (.int i)
 | .str x _=>some (.str x)
 | .bytes b _=>some (.Au b)
 | .float b _=>some (.Nr b)
 | .ref a=>some (.ref a)
 | .type n=>some (.ty n)
 | _=>none
theorem RelV.abs{x:V}(r:RelV x u):TX u=some x:=by
 cases x with
 | cP=>cases r; rfl
 | bl _=>cases r; rfl
 | int _=>obtain ⟨t,rfl⟩:=r; rfl
 | str _=>obtain ⟨t,rfl⟩:=r; rfl
 | Au _=>obtain ⟨t,rfl⟩:=r; rfl
 | Nr _=>obtain ⟨t,rfl⟩:=r; rfl
 | ref _=>cases r; rfl
 | ty _=>cases r; rfl
theorem RelV.inj{x y:V}(r:RelV x u)(q:RelV y u):x=y:=Option.some.inj (r.abs.symm.trans q.abs)
theorem Vals.inj:∀ {xs ys:List V} {us:List Value},Vals xs us->Vals ys us->xs=ys
 | _,_,_,.nil,.nil=>rfl
 | _,_,_,.cons r t,.cons r' t'=>by rw [r.inj r',Vals.inj t t']
section
variable {X:Cx}{pins:List (Addr × Obj)}{σ:St}{H:Hp}{s:Shared}{a:Addr}{xs ys:List V}
theorem bI.of(h:H a=some (.lst xs)):bI K H a xs:=.inl (.inl h)
theorem gm.of(h:H a=some (.tup xs)):gm K H a xs:=.inl (.inl h)
theorem Inv.list(I:Inv X pins σ H s)(h:bI X.K H a xs):∃ its:List Value,Vals xs its /\ PlainL s.heap a its.toArray /\ xs.length <= sizeLine:=by
 rcases h with h | ⟨o,its,n,hk,hc,hd,hs,hz,r⟩
 ·obtain ⟨z,its,n,r,e⟩:=h.ok I.hok
  exact ⟨its,r,⟨_,n,e,rfl,rfl,rfl⟩,z⟩
 ·refine ⟨its.toList,r,⟨o,n,I.rO a o hk,hc,hd,by simpa using hs⟩,?_⟩
  have e:=r.length
  simp only [bT] at e
  omega
theorem Inv.tuple(I:Inv X pins σ H s)(h:gm X.K H a xs):∃ its:List Value,Vals xs its /\ IsTup s.heap a its.toArray /\ xs.length <= sizeLine:=by
 rcases h with h | ⟨o,its,n,hk,hc,hs,hz,r⟩
 ·obtain ⟨z,its,r,p⟩:=h.ok I.hok
  exact ⟨its,r,p,z⟩
 ·refine ⟨its.toList,r,⟨o,I.rO a o hk,hc,n,by simpa using hs⟩,?_⟩
  have e:=r.length
  simp only [bT] at e
  omega
theorem Inv.Cu(I:Inv X pins σ H s)(h:bI X.K H a xs)(h':bI X.K H a ys):xs=ys:=by
 obtain ⟨its,r,⟨o,n,e,_,_,d⟩,_⟩:=I.list h
 obtain ⟨its',r',⟨o',n',e',_,_,d'⟩,_⟩:=I.list h'
 rw [e] at e'; cases e'
 rw [d] at d'
 injection d' with d1 _
 have:its=its':=by simpa using congrArg Array.toList d1
 subst this
 exact r.inj r'
theorem Inv.Ay(I:Inv X pins σ H s)(h:gm X.K H a xs)(h':gm X.K H a ys):xs=ys:=by
 obtain ⟨its,r,⟨o,e,_,n,d⟩,_⟩:=I.tuple h
 obtain ⟨its',r',⟨o',e',_,n',d'⟩,_⟩:=I.tuple h'
 rw [e] at e'; cases e'
 rw [d] at d'
 injection d' with d1 _
 have:its=its':=by simpa using congrArg Array.toList d1
 subst this
 exact r.inj r'
end
abbrev Cx.lV(X:Cx)(E:Value->Shared->Prop):Cx:={ X with xe:=E }
abbrev Cx.Az(X:Cx):Cx:=X.lV λ _ _=>False
theorem Cx.Ok.lV(ok:X.Ok)(E:Value->Shared->Prop):(X.lV E).Ok :=
 ⟨ok.mod,ok.kind,ok.glob,ok.blt,ok.above,ok.inj,ok.has,ok.NV,ok.hd,ok.frames,ok.stk,ok.WO,ok.bs,ok.Cf,ok.Aw,ok.Ax,ok.lT,ok.IK⟩
theorem Cx.Ok.gU(ok:(X.lV E).Ok):X.Ok :=
 ⟨ok.mod,ok.kind,ok.glob,ok.blt,ok.above,ok.inj,ok.has,ok.NV,ok.hd,ok.frames,ok.stk,ok.WO,ok.bs,ok.Cf,ok.Aw,ok.Ax,ok.lT,ok.IK⟩
section
variable {X:Cx}{pins:List (Addr × Obj)}{σ:St}{H:Hp}{s:Shared}{E:Value->Shared->Prop}
theorem Inv.lV(I:Inv X pins σ H s)(E:Value->Shared->Prop):Inv (X.lV E) pins σ H s:=⟨I.ok.lV E,I.os,I.bare,I.base,I.loc,I.cell,I.free,I.gr,I.pin,I.hok,I.len⟩
theorem Inv.gU(I:Inv (X.lV E) pins σ H s):Inv X pins σ H s:=⟨I.ok.gU,I.os,I.bare,I.base,I.loc,I.cell,I.free,I.gr,I.pin,I.hok,I.len⟩
theorem SP.gU{f:Flow}{s':Shared}(h:SP (X.lV E) pins D f s'):SP X pins D f s':=by
 cases f with
 | next=>obtain ⟨σ',H',I,q⟩:=h; exact ⟨σ',H',I.gU,q⟩
 | brk=>obtain ⟨σ',H',I,q⟩:=h; exact ⟨σ',H',I.gU,q⟩
 | cont=>obtain ⟨σ',H',I,q⟩:=h; exact ⟨σ',H',I.gU,q⟩
 | ret u=>obtain ⟨v,σ',H',I,r,q⟩:=h; exact ⟨v,σ',H',I.gU,r,q⟩
theorem PE.Az(h:PE X.Az e t):PE X e t:=λ pins s σ H Q I hw =>
 wpAny_mono (h pins s σ H Q (I.lV _) hw) (λ _ _ ⟨v,H',I',r,q⟩=>⟨v,H',I'.gU,r,q⟩) λ _ _ z=>False.elim z
theorem PT.Az{t:TT}(h:PT X.Az e t):PT X e t:=λ pins s σ H Q I hw =>
 wpAny_mono (h pins s σ H Q (I.lV _) hw) (λ _ _ ⟨H',I',q⟩=>⟨H',I'.gU,q⟩) λ _ _ z=>False.elim z
theorem ql.Az{st:List Stmt}{t:TS}(h:ql X.Az st t):ql X st t:=λ pins s σ H D I hw =>
 wpAny_mono (h pins s σ H D (I.lV _) hw) (λ _ _ q=>q.gU) λ _ _ z=>False.elim z
end
section
variable {X:Cx}{st:Stmt}{rest:List Stmt}{t u:TS}{e:Expr}{te:TE}{pos:Pos}
def IL:TS:=λ D σ H=>D.nx σ H
def Kx(t u:TS):TS:=λ D σ H=>t { D with nx:=u D } σ H
theorem dj:ql X [] IL:=λ _ _ σ H _ I h=>wpAny_execs_nil ⟨σ,H,I,h⟩
theorem ao(h1:PS X st t)(h2:ql X rest u):ql X (st :: rest) (Kx t u):=by
 intro pins s σ H D I h
 refine wpAny_execs_cons (cA (h1 pins s σ H { D with nx:=u D } I h) λ f s1 q=>?_)
 cases f with
 | next =>
  obtain ⟨σ',H',I',q⟩:=q
  exact h2 pins s1 σ' H' D I' q
 | ret v=>exact q
 | brk=>exact q
 | cont=>exact q
theorem aC(h1:PS X st t):ql X [st] t:=by
 intro pins s σ H D I h
 refine wpAny_execs_cons (cA (h1 pins s σ H D I h) λ f s1 q=>?_)
 cases f with
 | next=>exact wpAny_execs_nil q
 | ret v=>exact q
 | brk=>exact q
 | cont=>exact q
theorem Inv.quiet{σ:St}(I:Inv X pins σ H s):interactive X.env=false:=by simp [interactive,I.ok.kind]
def IM(te:TE):TS:=λ D σ H=>te σ H λ _ H1=>D.nx σ H1
theorem cQ(he:PE X e te)(hs:swapsWith e none pos.line X.env=pure false:=by rfl):PS X (.Expr e pos) (IM te):=by
 intro pins s σ H D I h
 exact wpAny_Expr_any (cA (he pins s σ H _ I h) λ v s1 ⟨x,H1,I1,r1,q1⟩=>⟨σ,H1,I1,q1⟩) I.quiet hs
def N1(te:TE):TS:=λ D σ H=>te σ H D.rt
theorem bB(he:PE X e te):PS X (.Return (some e) pos) (N1 te):=by
 intro pins s σ H D I h
 exact wpAny_Return_some (cA (he pins s σ H _ I h) λ v s1 ⟨x,H1,I1,r1,q1⟩=>⟨x,σ,H1,I1,r1,q1⟩)
def N2(c:TT)(t u:TS):TS:=λ D σ H=>c σ H λ b H1=>if b=true then t D σ H1 else u D σ H1
theorem ia{a b:List Stmt}{tc:TT}(hc:PT X c tc)(ha:ql X a t)(hb:ql X b u):PS X (.If c a b pos) (N2 tc t u):=by
 intro pins s σ H D I h
 refine wpAny_If (cA (hc pins s σ H _ I h) λ d s1 ⟨H1,I1,q1⟩=>?_)
 cases d with
 | true=>exact ha pins s1 σ H1 D I1 q1
 | false=>exact hb pins s1 σ H1 D I1 q1
end
abbrev TG:=V->St->Hp->(St->Hp->Prop)->Prop
abbrev FP:=List V->St->Hp->(St->Hp->Prop)->Prop
def PG(X:Cx)(target:Expr)(t:TG):Prop :=
 ∀ (pins:List (Addr × Obj)) (s:Shared) (σ:St) (H:Hp) (v:V) (u:Value) (Q:St->Hp->Prop),Inv X pins σ H s->RelV v u->t v σ H Q ->
  wpAny (model X.prog X.w) X.A (assign target X.env u) (λ _ s'=>∃ σ' H',Inv X pins σ' H' s' /\ Q σ' H') X.xe s
def N3(X:Cx)(ts:List Expr)(t:FP):Prop :=
 ∀ (pins:List (Addr × Obj)) (s:Shared) (σ:St) (H:Hp) (vs:List V) (us:List Value) (Q:St->Hp->Prop),Inv X pins σ H s->Vals vs us->t vs σ H Q ->
  wpAny (model X.prog X.w) X.A (assignInOrder ((assignEach ts X.env).map (·.2)) us) (λ _ s'=>∃ σ' H',Inv X pins σ' H' s' /\ Q σ' H') X.xe s
abbrev TY:=V->V->V->Hp->(Hp->Prop)->Prop
def TZ(X:Cx)(t:TY):Prop :=
 ∀ (pins:List (Addr × Obj)) (s:Shared) (σ:St) (H:Hp) (o i v:V) (ov iv u:Value) (Q:Hp->Prop),Inv X pins σ H s->RelV o ov->RelV i iv->RelV v u->t o i v H Q ->
  wpAny (model X.prog X.w) X.A (setItem ov iv u) (λ _ s'=>∃ H',Inv X pins σ H' s' /\ Q H') X.xe s
section
variable {X:Cx}{pos:Pos}
def fV(i:Nat):TG:=λ v σ H Q=>Q (σ.set i (some v)) H
theorem bE(hN:X.N.Nodup)(hi:X.N[i]? = some x)(hx:Loc X.env.scope x)(hf:X.fn x=true \/ X.env.scope.names.lookup x=some .local:=by first | exact .inl rfl | exact .inr rfl | assumption):PG X (.Name x pos) (fV i):=by
 intro pins s σ H v u Q I r h
 exact wpAny_assign_Name (om I hN hi hx r (λ s' I'=>⟨_,H,I',h⟩) hf)
def N4:FP:=λ vs σ H Q=>vs=[] /\ Q σ H
def IP(t:TG)(u:FP):FP:=λ vs σ H Q=>∃ v r,vs=v :: r /\ t v σ H λ σ' H'=>u r σ' H' Q
theorem jv:N3 X [] N4:=by
 intro pins s σ H vs us Q I r h
 obtain ⟨e,h⟩:=h
 subst e
 cases r
 exact assignInOrder_nil ⟨σ,H,I,h⟩
theorem cS{es:List Expr}{t:TG}{u:FP}(h1:PG X e t)(h2:N3 X es u)
  (hs:(assignEach (e :: es) X.env).map (·.2)=assign e X.env :: (assignEach es X.env).map (·.2):=by rfl):N3 X (e :: es) (IP t u):=by
 intro pins s σ H vs us Q I r h
 obtain ⟨v,vr,e1,h⟩:=h
 subst e1
 cases r with
 | cons r rr =>
  rw [hs]
  refine assignInOrder_cons (cA (h1 pins s σ H _ _ _ I r h) λ _ s1 ⟨σ1,H1,I1,q1⟩=>?_)
  exact h2 pins s1 σ1 H1 _ _ Q I1 rr q1
def Ky(K:ay)(n:Nat)(t:FP):TG:=λ v σ H Q=>∃ a xs,v=.ref a /\ gm K H a xs /\ xs.length=n /\ t xs σ H Q
theorem ou{es:List Expr}{t:FP}(hc:X.calm=true)(h:N3 X es t)
  (hn:(assignEach es X.env).length=n:=by rfl)(hst:(assignEach es X.env).findIdx? (·.1)=none:=by rfl):PG X (.Tuple es k pos) (Ky X.K n t):=by
 intro pins s σ H v u Q I r hw
 obtain ⟨a,xs,e1,hq,hl,hw⟩:=hw
 subst e1
 cases r
 obtain ⟨its,rv,ht,hz⟩:=I.tuple hq
 refine assign_Tuple_tuple (I.ok.hd hc) ht (by simp [hn,<- hl,rv.length]) hst λ h' hx=>?_
 have I1:Inv X pins σ H { s with heap:=h' }:=I.kept (t':=s.toks) λ b o e=>hx b o (aO (aD e)) e
 exact h pins _ σ H xs _ Q I1 (by simpa using rv) hw
def N5(te:TE)(g:TG):TS:=λ D σ H=>te σ H λ x H1=>g x σ H1 D.nx
theorem aT{te:TE}{pos':Pos}(hN:X.N.Nodup)(hi:X.N[i]? = some x)(hx:Loc X.env.scope x)(he:PE X e te)(hs:swapsWith e (some (.Name x pos')) pos.line X.env=pure false:=by rfl)(hf:X.fn x=true \/ X.env.scope.names.lookup x=some .local:=by first | exact .inl rfl | exact .inr rfl | assumption):
  PS X (.Assign [.Name x pos'] e pos) (N5 te (fV i)):=by
 intro pins s σ H D I h
 refine wpAny_Assign_Name (cA (he pins s σ H _ I h) λ v s1 ⟨y,H1,I1,r1,q1⟩=>?_) hs
 exact om I1 hN hi hx r1 (λ s2 I2=>⟨_,H1,I2,q1⟩) hf
def Cv(c:TT)(tb:TS):TS:=λ D σ H=>∃ W:Nat->St->Hp->Prop,(∃ m,W m σ H) /\ ∀ m σ H,W m σ H ->
 c σ H λ b H1=>if b=true then ∃ N:St->Hp->Prop,(∀ σ' H',N σ' H'->∃ m',m' < m /\ W m' σ' H') /\ tb { D with nx:=N,ct:=N,bk:=D.nx } σ H1 else D.nx σ H1
theorem oz{tc:TT}(hp:PassesOwn (model X.prog X.w) X.A X.env X.xe)(hc:PT X c tc)(hb:ql X body tb):PS X (.While c body [] pos) (Cv tc tb):=by
 intro pins s σ H D I h
 obtain ⟨W,⟨m0,w0⟩,turn⟩:=h
 refine wpAny_While (codeAny_whileLoop (λ n s'=>∃ σ' H',Inv X pins σ' H' s' /\ W n σ' H') ?_ m0 ⟨σ,H,I,w0⟩)
 rintro n s1 ⟨σ1,H1,I1,w1⟩
 refine wpAny_passesOwn hp (cA (hc pins s1 σ1 H1 _ I1 (turn n σ1 H1 w1)) λ b s2 ⟨H2,I2,q2⟩=>?_)
 cases b with
 | true =>
  obtain ⟨N,hN,q2⟩:=q2
  rw [if_pos rfl]
  refine wpAny_passesOwn hp (cA (hb pins s2 σ1 H2 _ I2 q2) λ f s3 q3=>?_)
  cases f with
  | next =>
   obtain ⟨σ3,H3,I3,n3⟩:=q3
   obtain ⟨m',hm,w3⟩:=hN σ3 H3 n3
   exact ⟨m',hm,σ3,H3,I3,w3⟩
  | cont =>
   obtain ⟨σ3,H3,I3,n3⟩:=q3
   obtain ⟨m',hm,w3⟩:=hN σ3 H3 n3
   exact ⟨m',hm,σ3,H3,I3,w3⟩
  | brk=>exact q3
  | ret v=>exact q3
 | false =>
  rw [if_neg iD]
  exact wpAny_execs_nil ⟨σ1,H2,I2,q2⟩
end
structure It where
 go:Nat->Hp->Prop
 Cg:Nat->Hp->V->Hp->Prop
 stop:Nat->Hp->Prop
def c9(X:Cx)(pins:List (Addr × Obj))(H:Hp)(b:Addr):Prop :=
 H b=none /\ b ≠ X.env.locals /\ b ∉ X.fs /\ (b∈X.ex \/ X.s₀.heap.objs.size <= b) /\ (∀ x c,X.env.cells.lookup x=some c->c ≠ b) /\ ∀ p∈X.pn++pins,p.1 ≠ b
theorem Inv.jJ{σ:St}{H':Hp}{s:Shared}(I:Inv X pins σ H s)(hb:s.heap.objs.size <= b)(hn:H' b=none):c9 X pins H' b:=by
 refine ⟨hn,jb (bN I.lt hb),I.Kq hb,.inr (br I.sz hb),λ x c e z=>?_,λ p hp z=>?_⟩
 ·obtain ⟨v,q⟩:=I.cell x c e
  exact absurd (bN q.lt (by rw [z]; exact hb)) (cV _)
 ·exact absurd (bN (aD (I.pin p hp).1) (by rw [z]; exact hb)) (cV _)
structure Turn (P:Program) (w:World) (K:ay) (tg:Expr) (J:It) (fp:List Addr) (it:Addr) (tn:Nat->Heap->Prop):Prop where
 mem:it∈fp
 obj:∀ i h,tn i h->∀ b∈fp,∃ o,h.get? b=some o /\ ∀ v,o.data ≠ .cell v
 keep:∀ i h h',tn i h->(∀ b∈fp,∀ o,h.get? b=some o->h'.get? b=some o)->tn i h'
 item:∀ (X:Cx),X.prog=P->X.w=w->X.K=K->X.calm=true->∀ (i:Nat) (pins:List (Addr × Obj)) (s:Shared) (σ:St) (H:Hp) (E:Value->Shared->Prop),Inv X pins σ H s->(∀ b∈fp,c9 X pins H b)->tn i s.heap->J.go i H ->
  wpAny (model P w) X.A (pyNext (.ref it)) (λ r s1=>∃ u,r=some u /\
   wpAny (model P w) X.A (letOwnedTupleGo tg (.ref it) u) (λ _ s2=>∃ x H',Inv X pins σ H' s2 /\ RelV x u /\ J.Cg i H x H' /\ tn (i + 1) s2.heap /\ ∀ b∈fp,H' b=none) E s1) E s
 done:∀ (X:Cx),X.prog=P->X.w=w->X.K=K->X.calm=true->∀ (i:Nat) (pins:List (Addr × Obj)) (s:Shared) (σ:St) (H:Hp) (E:Value->Shared->Prop),Inv X pins σ H s->(∀ b∈fp,c9 X pins H b)->tn i s.heap->J.stop i H ->
  wpAny (model P w) X.A (pyNext (.ref it)) (λ r s1=>r=none /\ Inv X pins σ H s1) E s
 self:∀ (A:Around) (i:Nat) (s:Shared) (Q:Value->Shared->Prop) (E:Value->Shared->Prop),tn i s.heap->Q (.ref it) s->wpAny (model P w) A (pyIter (.ref it)) Q E s
abbrev TI:=St->Hp->(It->Hp->Prop)->Prop
def WU(X:Cx)(pins:List (Addr × Obj))(σ:St)(tg:Expr)(R:It->Hp->Prop)(itv:Value)(s2:Shared):Prop :=
 ∃ (it:Addr) (fp:List Addr) (tn:Nat->Heap->Prop) (J:It) (H':Hp),itv=.ref it /\ Inv X pins σ H' s2 /\ Turn X.prog X.w X.K tg J fp it tn /\ tn 0 s2.heap /\ (∀ b∈fp,c9 X pins H' b) /\ R J H'
def PI(X:Cx)(tg iter:Expr)(wi:TI):Prop :=
 ∀ (pins:List (Addr × Obj)) (s:Shared) (σ:St) (H:Hp) (R:It->Hp->Prop),Inv X pins σ H s->wi σ H R ->
  wpAny (model X.prog X.w) X.A (eval iter X.env) (λ v s1=>wpAny (model X.prog X.w) X.A (pyIter v) (WU X pins σ tg R) X.xe s1) X.xe s
theorem tM{it:Addr}{o:Obj}{n:String}{vs:Array Value}(ho:s.heap.get? it=some o)(hc:o.cls=.type n)(hd:o.data=.fields vs)
    (hn:["enumerate", "zip", "dict_itemiterator", "dict_reverseitemiterator", "odict_iterator", "itertools.zip_longest", "itertools.pairwise"].contains n=false)(hQ:Q () s):wpAny M A (letOwnedTupleGo tg (.ref it) u) Q E s:=by
  unfold letOwnedTupleGo
  cases tg <;> first
    | exact aE hQ
    | (cases u <;> first
        | exact aE hQ
        | (refine af (wpAny_load ho ?_)
           rw [hc,hd]
           show wpAny M A (if (["enumerate", "zip", "dict_itemiterator", "dict_reverseitemiterator", "odict_iterator", "itertools.zip_longest", "itertools.pairwise"].contains n && vs[0]? == some (rawInt _))=true then _ else _) Q E s
           rw [if_neg (by intro h; rw [hn,nS] at h; cases h)]
           exact aE hQ))
def F6(K:ay)(a:Addr):It :=
 ⟨λ i H=>∃ xs x,bI K H a xs /\ xs[i]? = some x,λ i H x H'=>H'=H /\ ∀ xs,bI K H a xs->xs[i]? = some x,λ i H=>∃ xs,bI K H a xs /\ xs.length <= i⟩
def IQ(K:ay)(a:Addr):It :=
 ⟨λ i H=>∃ xs x,gm K H a xs /\ xs[i]? = some x,λ i H x H'=>H'=H /\ ∀ xs,gm K H a xs->xs[i]? = some x,λ i H=>∃ xs,gm K H a xs /\ xs.length <= i⟩
def ko(lo:Int)(n:Nat):It:=⟨λ i _=>i < n,λ i H x H'=>H'=H /\ x=.int (lo + i),λ i _=>n <= i⟩
theorem AA(a it:Addr):Turn P w K tg (F6 K a) [it] it (λ i h=>h.IsListIter it a i) where
 mem:=by simp
 obj:=λ i h st b hb=>by
  have e:b=it:=by simpa using hb
  subst e
  obtain ⟨o,e,c,d⟩:=st
  exact ⟨o,e,λ v z=>by rw [d] at z; cases z⟩
 keep:=λ i h h' st k=>st.at λ o e=>k it (by simp) o e
 item:=by
  intro X hP hw hK hc i pins s σ H E I hf st hg
  subst hP hw hK
  obtain ⟨xs,x,hq,hx⟩:=hg
  obtain ⟨its,rv,p,hz⟩:=I.list hq
  obtain ⟨u,hu,ru⟩:=rv.get hx
  obtain ⟨f0,f1,f2,f3,f4,f5⟩:=hf it (by simp)
  refine wpAny_pyNext_list_item st p.isList (x:=u) (by simpa using hu) λ h' st' sb=>?_
  have I1:Inv X pins σ H { s with heap:=h' }:=I.turned (t':=s.toks) (λ b o hb e=>(sb.2 b hb).trans e) f0 f1 f3 f4 f5
  obtain ⟨o,e,c,d⟩:=id st'
  exact ⟨u,rfl,tM (s:={ s with heap:=h' }) e c d (by decide) ⟨x,H,I1,ru,⟨rfl,λ ys hy=>by rw [I.Cu hy hq]; exact hx⟩,st',λ b hb=>(hf b hb).1⟩⟩
 done:=by
  intro X hP hw hK hc i pins s σ H E I hf st hg
  subst hP hw hK
  obtain ⟨xs,hq,hx⟩:=hg
  obtain ⟨its,rv,p,hz⟩:=I.list hq
  obtain ⟨f0,f1,f2,f3,f4,f5⟩:=hf it (by simp)
  have hl:=rv.length
  exact wpAny_pyNext_list_end (I.ok.hd hc) st p.isList (by simp; omega) λ h' eb=>⟨rfl,I.turned (t':=s.toks) (λ b o hb e=>eb b o hb e) f0 f1 f3 f4 f5⟩
 self:=λ _ _ _ _ _ st h=>wpAny_pyIter_listiter st h
theorem wJ(a it:Addr):Turn P w K tg (IQ K a) [it] it (λ i h=>h.IsTupleIter it a i) where
 mem:=by simp
 obj:=λ i h st b hb=>by
  have e:b=it:=by simpa using hb
  subst e
  obtain ⟨o,e,c,d⟩:=st
  exact ⟨o,e,λ v z=>by rw [d] at z; cases z⟩
 keep:=λ i h h' st k=>st.at λ o e=>k it (by simp) o e
 item:=by
  intro X hP hw hK hc i pins s σ H E I hf st hg
  subst hP hw hK
  obtain ⟨xs,x,hq,hx⟩:=hg
  obtain ⟨its,rv,p,hz⟩:=I.tuple hq
  obtain ⟨u,hu,ru⟩:=rv.get hx
  obtain ⟨f0,f1,f2,f3,f4,f5⟩:=hf it (by simp)
  refine wpAny_pyNext_tuple_item st (show s.heap.IsTuple a its.toArray from p) (x:=u) (by simpa using hu) λ h' st' sb=>?_
  have I1:Inv X pins σ H { s with heap:=h' }:=I.turned (t':=s.toks) (λ b o hb e=>(sb.2 b hb).trans e) f0 f1 f3 f4 f5
  obtain ⟨o,e,c,d⟩:=id st'
  exact ⟨u,rfl,tM (s:={ s with heap:=h' }) e c d (by decide) ⟨x,H,I1,ru,⟨rfl,λ ys hy=>by rw [I.Ay hy hq]; exact hx⟩,st',λ b hb=>(hf b hb).1⟩⟩
 done:=by
  intro X hP hw hK hc i pins s σ H E I hf st hg
  subst hP hw hK
  obtain ⟨xs,hq,hx⟩:=hg
  obtain ⟨its,rv,p,hz⟩:=I.tuple hq
  obtain ⟨f0,f1,f2,f3,f4,f5⟩:=hf it (by simp)
  have hl:=rv.length
  exact wpAny_pyNext_tuple_end (I.ok.hd hc) st (show s.heap.IsTuple a its.toArray from p) (by simp; omega) λ h' eb=>⟨rfl,I.turned (t':=s.toks) (λ b o hb e=>eb b o hb e) f0 f1 f3 f4 f5⟩
 self:=λ _ _ _ _ _ st h=>wpAny_pyIter_tupleiter st h
theorem wK(it:Addr)(lo:Int)(n:Nat):Turn P w K tg (ko lo n) [it] it (λ i h=>IsRangeIter h it (lo + (i:Nat) * 1) ((n:Int) - (i:Nat)) 1) where
 mem:=by simp
 obj:=λ i h st b hb=>by
  have e:b=it:=by simpa using hb
  subst e
  exact ⟨_,st,λ v z=>by
   have z':Data.fields _=Data.cell v:=z
   cases z'⟩
 keep:=λ i h h' st k=>k it (by simp) _ st
 item:=by
  intro X hP hw hK hc i pins s σ H E I hf st hg
  subst hP hw hK
  obtain ⟨f0,f1,f2,f3,f4,f5⟩:=hf it (by simp)
  have W:=Walks.range (prog:=X.prog) (w:=X.w) (I.ok.hd hc) it lo 1 n
  refine W.item i s _ _ hg st λ v h' tk hv st' kk=>?_
  obtain ⟨t,rfl⟩:=hv
  have I1:Inv X pins σ H { s with heap:=h',toks:=tk }:=I.turned (λ b o hb e=>kk b o (by simpa using hb) e) f0 f1 f3 f4 f5
  refine ⟨_,rfl,tM (s:={ s with heap:=h',toks:=tk }) (n := "range_iterator") st' rfl rfl (by decide) ⟨.int (lo + i),H,I1,⟨t,?_⟩,⟨rfl,rfl⟩,st',λ b hb=>(hf b hb).1⟩⟩
  rw [Int.mul_one]
 done:=by
  intro X hP hw hK hc i pins s σ H E I hf st hg
  subst hP hw hK
  obtain ⟨f0,f1,f2,f3,f4,f5⟩:=hf it (by simp)
  exact wpAny_pyNext_range_end (I.ok.hd hc) st (by have:n <= i:=hg; omega) λ h' eb=>⟨rfl,I.turned (t':=s.toks) (λ b o hb e=>eb b o hb e) f0 f1 f3 f4 f5⟩
 self:=λ _ _ _ _ _ st h=>wpAny_pyIter_rangeiter st h
section
variable {X:Cx}{tg:Expr}
def IS(K:ay)(tl:TE):TI:=λ σ H R=>tl σ H λ x H1=>∃ a,x=.ref a /\ (∃ xs,bI K H1 a xs) /\ R (F6 K a) H1
def N6(K:ay)(tl:TE):TI:=λ σ H R=>tl σ H λ x H1=>∃ a,x=.ref a /\ (∃ xs,gm K H1 a xs) /\ R (IQ K a) H1
theorem ck{l:Expr}{tl:TE}(hl:PE X l tl):PI X tg l (IS X.K tl):=by
 intro pins s σ H R I h
 refine cA (hl pins s σ H _ I h) λ v s1 ⟨x,H1,I1,r1,q1⟩=>?_
 obtain ⟨a,e,⟨xs,hq⟩,q⟩:=q1
 subst e
 cases r1
 obtain ⟨its,rv,p,hz⟩:=I1.list hq
 refine wpAny_pyIter_list p.isList ?_
 refine ⟨s1.heap.objs.size,[s1.heap.objs.size],_,_,H1,rfl,I1.kept (t':=s1.toks) λ b o e=>bS _ e,AA a _,⟨_,fJ _ rfl,rfl,rfl⟩,λ b hb=>?_,q⟩
 have e:b=s1.heap.objs.size:=by simpa using hb
 subst e
 exact I1.jJ (ak _) (I1.hok.fresh (ak _))
theorem Kz{l:Expr}{tl:TE}(hl:PE X l tl):PI X tg l (N6 X.K tl):=by
 intro pins s σ H R I h
 refine cA (hl pins s σ H _ I h) λ v s1 ⟨x,H1,I1,r1,q1⟩=>?_
 obtain ⟨a,e,⟨xs,hq⟩,q⟩:=q1
 subst e
 cases r1
 obtain ⟨its,rv,p,hz⟩:=I1.tuple hq
 refine wpAny_pyIter_tuple (show s1.heap.IsTuple a its.toArray from p) ?_
 refine ⟨s1.heap.objs.size,[s1.heap.objs.size],_,_,H1,rfl,I1.kept (t':=s1.toks) λ b o e=>bS _ e,wJ a _,⟨_,fJ _ rfl,rfl,rfl⟩,λ b hb=>?_,q⟩
 have e:b=s1.heap.objs.size:=by simpa using hb
 subst e
 exact I1.jJ (ak _) (I1.hok.fresh (ak _))
theorem Cw{σ:St}{R:It->Hp->Prop}{lo hi:Int}{t u v:Tok}{tk:Nat}(I:Inv X pins σ H s)(h1:-(2 ^ 62) <= lo)(h2:lo < 2 ^ 62)(h3:-(2 ^ 62) <= hi)(h4:hi < 2 ^ 62)
  (q:R (ko lo (hi - lo).toNat) H):wpAny (model X.prog X.w) X.A (pyIter (.ref s.heap.objs.size)) (WU X pins σ tg R) E { s with heap:=s.heap.push { cls:=.type "range", data:=.fields #[.int lo t,.int hi u,.int 1 v] },toks:=tk }:=by
 refine wpAny_pyIter_range (IsRange.new ..) (small_one h1 h2 h3 h4) ?_
 have I1:Inv X pins σ H { s with heap:=s.heap.push { cls:=.type "range", data:=.fields #[.int lo t,.int hi u,.int 1 v] },toks:=tk }:=I.kept λ b o e=>bS _ e
 refine ⟨(s.heap.push { cls:=.type "range", data:=.fields #[.int lo t,.int hi u,.int 1 v] }).objs.size,[(s.heap.push { cls:=.type "range", data:=.fields #[.int lo t,.int hi u,.int 1 v] }).objs.size],_,_,H,rfl,
  I1.kept (t':=tk) λ b o e=>bS _ e,wK _ lo (hi - lo).toNat,?_,λ b hb=>?_,q⟩
 ·have e1:lo + ((0:Nat):Int) * 1=lo:=by simp
  have e2:(((hi - lo).toNat:Nat):Int) - ((0:Nat):Int)=Builtin.Range.rangeSize lo hi 1:=by rw [rangeSize_one]; split <;> omega
  show IsRangeIter _ _ (lo + ((0:Nat):Int) * 1) ((((hi - lo).toNat:Nat):Int) - ((0:Nat):Int)) 1
  rw [e1,e2]
  exact fJ _ rfl
 ·have e:b=(s.heap.push { cls:=.type "range", data:=.fields #[.int lo t,.int hi u,.int 1 v] }).objs.size:=by simpa using hb
  subst e
  exact I1.jJ (ak _) (I1.hok.fresh (ak _))
def IT(ta:TA):TI:=λ σ H R=>ta σ H λ vs H1=>∃ j:Int,vs=[.int j] /\ -(2 ^ 62) <= j /\ j < 2 ^ 62 /\ R (ko 0 j.toNat) H1
theorem lW{a:Expr}{ta:TA}{p:Pos}(hg:Gl X "range")(hm:X.mg "range" = none)(ha:PA X [a] ta)(hs:starEach [a] X.env=[(false,eval a X.env)]:=by rfl):PI X tg (.Call (.Name "range" p) [a] [] pos) (IT ta):=by
 intro pins s σ H R I h
 refine Call_ (gu I hg hm boot_range (iJ (cA (ha pos pins s σ H _ I h) λ us s1 ⟨vs,H1,I1,r1,q1⟩=>?_) hs rfl))
 obtain ⟨j,e,q1,q2,q⟩:=q1
 subst e
 cases r1 with
 | cons r rr =>
  cases rr
  obtain ⟨t,rfl⟩:=r
  exact call_range_1 (Cw I1 (by omega) (by omega) q1 q2 (by simpa using q))
def N7(wi:TI)(g:TG)(tb:TS):TS:=λ D σ H=>wi σ H λ J H1=>∃ W:Nat->Nat->St->Hp->Prop,(∃ m,W 0 m σ H1) /\ ∀ i m σ H,W i m σ H ->
 (J.stop i H /\ D.nx σ H) \/ (J.go i H /\ ∃ N:St->Hp->Prop,(∀ σ' H',N σ' H'->∃ m',m' < m /\ W (i + 1) m' σ' H') /\ ∀ x H',J.Cg i H x H'->g x σ H' λ σ2 H2=>tb { D with nx:=N,ct:=N,bk:=D.nx } σ2 H2)
def jd(fp:List Addr)(h:Heap):List (Addr × Obj):=fp.filterMap λ b=>(h.get? b).map λ o=>(b,o)
theorem cH{o:Obj}(hb:b∈fp)(e:h.get? b=some o):(b,o)∈jd fp h:=List.mem_filterMap.mpr ⟨b,hb,by rw [e]; rfl⟩
theorem lX{p:Addr × Obj}(hp:p∈jd fp h):p.1∈fp /\ h.get? p.1=some p.2:=by
 obtain ⟨b,hb,e⟩:=List.mem_filterMap.mp hp
 cases q:h.get? b with
 | none=>rw [q] at e; cases e
 | some o =>
  rw [q] at e
  have e':(b,o)=p:=Option.some.inj e
  subst e'
  exact ⟨hb,q⟩
theorem Inv.pinned{σ:St}(I:Inv X pins σ H s)(hf:∀ b∈fp,c9 X pins H b)(ho:∀ b∈fp,∃ o,s.heap.get? b=some o /\ ∀ v,o.data ≠ .cell v):Inv X (pins++jd fp s.heap) σ H s :=
 I.ju λ p hp=>(aK.mp hp).elim (λ z=>I.pin p (bg _ z)) λ z=>by
  obtain ⟨hb,e⟩:=lX z
  obtain ⟨f0,f1,f2,_⟩:=hf p.1 hb
  obtain ⟨o,e',d⟩:=ho p.1 hb
  rw [e] at e'; cases e'
  exact ⟨e,f0,f1,f2,d⟩
theorem Inv.je{pl:List (Addr × Obj)}{σ:St}(I:Inv X (pins++pl) σ H s):Inv X pins σ H s:=I.ju λ p hp=>I.pin p (bg _ (gR _ hp))
theorem dM{iter:Expr}{wi:TI}(hp:PassesOwn (model X.prog X.w) X.A X.env X.xe)(hc:X.calm=true)(hi:PI X tg iter wi)(hg:PG X tg g)(hb:ql X body tb)
  (hs:∀ x,foldedSetIterable iter X.env x=pure x:=by intro _; rfl):PS X (.For tg iter body [] pos) (N7 wi g tb):=by
 intro pins s σ H D I h
 refine wpAny_For (cA (hi pins s σ H _ I h) λ v s1 h1=>cA h1 λ itv s2 h2=>?_) hs
 obtain ⟨it,fp,tn,J,H2,e,I2,T,st2,f2,W,⟨m0,w0⟩,turn⟩:=h2
 subst e
 have oA:∀ {H':Hp},(∀ b∈fp,H' b=none)->∀ b∈fp,c9 X pins H' b:=λ hn b hb=>⟨hn b hb,(f2 b hb).2⟩
 refine codeAny_forLoop_any (λ n s'=>∃ i σ' H',Inv X pins σ' H' s' /\ tn i s'.heap /\ (∀ b∈fp,H' b=none) /\ W i n σ' H') ?_ m0 ⟨0,σ,H2,I2,st2,λ b hb=>(f2 b hb).1,w0⟩
 rintro n s3 ⟨i,σ3,H3,I3,st3,IU,w3⟩
 rcases turn i n σ3 H3 w3 with ⟨stop,qn⟩ | ⟨go,N,hN,step⟩
 ·refine wpAny_passesOwn hp (cA (T.done X rfl rfl rfl hc i pins s3 σ3 H3 X.xe I3 (oA IU) st3 stop) λ r s4 ⟨hr,I4⟩=>?_)
  subst hr
  exact wpAny_execs_nil ⟨σ3,H3,I4,qn⟩
 ·refine wpAny_passesOwn hp (cA (T.item X rfl rfl rfl hc i pins s3 σ3 H3 X.xe I3 (oA IU) st3 go) λ r s4 ⟨u,hr,h4⟩=>?_)
  subst hr
  refine wpAny_passesOwn hp (cA h4 λ _ s5 ⟨x,H5,I5,r5,y5,wL,N8⟩=>?_)
  have N9:=I5.pinned (oA N8) (T.obj _ _ wL)
  refine wpAny_passesOwn hp (cA (hg _ s5 σ3 H5 x u _ N9 r5 (step x H5 y5)) λ _ s6 ⟨σ6,H6,I6,q6⟩=>?_)
  refine wpAny_passesOwn hp (cA (hb _ s6 σ6 H6 _ I6 q6) λ f s7 q7=>?_)
  have again:∀ {σ7:St} {H7:Hp},Inv X (pins++jd fp s5.heap) σ7 H7 s7->N σ7 H7->∃ m,m < n /\ ∃ i σ' H',Inv X pins σ' H' s7 /\ tn i s7.heap /\ (∀ b∈fp,H' b=none) /\ W i m σ' H':=λ {σ7 H7} I7 n7=>by
   obtain ⟨m',hm,w7⟩:=hN σ7 H7 n7
   refine ⟨m',hm,i + 1,σ7,H7,I7.je,T.keep _ _ _ wL λ b hb o e=>(I7.pin (b,o) (bg _ (bg _ (cH hb e)))).1,λ b hb=>?_,w7⟩
   obtain ⟨o,e,d⟩:=T.obj _ _ wL b hb
   exact (I7.pin (b,o) (bg _ (bg _ (cH hb e)))).2.1
  cases f with
  | next=>obtain ⟨σ7,H7,I7,n7⟩:=q7; exact again I7 n7
  | cont=>obtain ⟨σ7,H7,I7,n7⟩:=q7; exact again I7 n7
  | brk=>obtain ⟨σ7,H7,I7,q7⟩:=q7; exact ⟨σ7,H7,I7.je,q7⟩
  | ret v=>obtain ⟨x7,σ7,H7,I7,r7,q7⟩:=q7; exact ⟨x7,σ7,H7,I7.je,r7,q7⟩
end
theorem Cy{σ:St}(Pv:Nat->St->Hp->Prop)(h0:Pv 0 σ H)(hl:∀ i σ H,i <= xs.length->Pv i σ H->bI K H a xs)
  (hs:∀ i x σ H,xs[i]? = some x->Pv i σ H->g x σ H λ σ2 H2=>tb { D with nx:=Pv (i + 1),ct:=Pv (i + 1),bk:=D.nx } σ2 H2)(hd:∀ σ H,Pv xs.length σ H->D.nx σ H):
  ∃ W:Nat->Nat->St->Hp->Prop,(∃ m,W 0 m σ H) /\ ∀ i m σ H,W i m σ H ->
   ((F6 K a).stop i H /\ D.nx σ H) \/ ((F6 K a).go i H /\ ∃ N:St->Hp->Prop,(∀ σ' H',N σ' H'->∃ m',m' < m /\ W (i + 1) m' σ' H') /\ ∀ x H',(F6 K a).Cg i H x H'->g x σ H' λ σ2 H2=>tb { D with nx:=N,ct:=N,bk:=D.nx } σ2 H2):=by
 refine ⟨λ i m σ H=>m=xs.length - i /\ i <= xs.length /\ Pv i σ H,⟨xs.length,by simp,aL _,h0⟩,?_⟩
 rintro i m σ H ⟨rfl,hi,p⟩
 have q:=hl i σ H hi p
 by_cases hlt:i < xs.length
 ·refine .inr ⟨⟨xs,xs[i],q,by simp [hlt]⟩,Pv (i + 1),λ σ' H' p'=>⟨xs.length - (i + 1),by omega,rfl,hlt,p'⟩,λ x H' y=>?_⟩
  obtain ⟨e,y⟩:=y
  subst e
  exact hs i x σ _ (y xs q) p
 ·have e:i=xs.length:=by omega
  subst e
  exact .inl ⟨⟨xs,q,ak _⟩,hd σ H p⟩
theorem F7{σ:St}(Pv:Nat->St->Hp->Prop)(h0:Pv 0 σ H)(hl:∀ i σ H,i <= xs.length->Pv i σ H->gm K H a xs)
  (hs:∀ i x σ H,xs[i]? = some x->Pv i σ H->g x σ H λ σ2 H2=>tb { D with nx:=Pv (i + 1),ct:=Pv (i + 1),bk:=D.nx } σ2 H2)(hd:∀ σ H,Pv xs.length σ H->D.nx σ H):
  ∃ W:Nat->Nat->St->Hp->Prop,(∃ m,W 0 m σ H) /\ ∀ i m σ H,W i m σ H ->
   ((IQ K a).stop i H /\ D.nx σ H) \/ ((IQ K a).go i H /\ ∃ N:St->Hp->Prop,(∀ σ' H',N σ' H'->∃ m',m' < m /\ W (i + 1) m' σ' H') /\ ∀ x H',(IQ K a).Cg i H x H'->g x σ H' λ σ2 H2=>tb { D with nx:=N,ct:=N,bk:=D.nx } σ2 H2):=by
 refine ⟨λ i m σ H=>m=xs.length - i /\ i <= xs.length /\ Pv i σ H,⟨xs.length,by simp,aL _,h0⟩,?_⟩
 rintro i m σ H ⟨rfl,hi,p⟩
 have q:=hl i σ H hi p
 by_cases hlt:i < xs.length
 ·refine .inr ⟨⟨xs,xs[i],q,by simp [hlt]⟩,Pv (i + 1),λ σ' H' p'=>⟨xs.length - (i + 1),by omega,rfl,hlt,p'⟩,λ x H' y=>?_⟩
  obtain ⟨e,y⟩:=y
  subst e
  exact hs i x σ _ (y xs q) p
 ·have e:i=xs.length:=by omega
  subst e
  exact .inl ⟨⟨xs,q,ak _⟩,hd σ H p⟩
theorem AB{lo:Int}{σ:St}(Pv:Nat->St->Hp->Prop)(h0:Pv 0 σ H)
  (hs:∀ i σ H,i < n->Pv i σ H->g (.int (lo + i)) σ H λ σ2 H2=>tb { D with nx:=Pv (i + 1),ct:=Pv (i + 1),bk:=D.nx } σ2 H2)(hd:∀ σ H,Pv n σ H->D.nx σ H):
  ∃ W:Nat->Nat->St->Hp->Prop,(∃ m,W 0 m σ H) /\ ∀ i m σ H,W i m σ H ->
   ((ko lo n).stop i H /\ D.nx σ H) \/ ((ko lo n).go i H /\ ∃ N:St->Hp->Prop,(∀ σ' H',N σ' H'->∃ m',m' < m /\ W (i + 1) m' σ' H') /\ ∀ x H',(ko lo n).Cg i H x H'->g x σ H' λ σ2 H2=>tb { D with nx:=N,ct:=N,bk:=D.nx } σ2 H2):=by
 refine ⟨λ i m σ H=>m=n - i /\ i <= n /\ Pv i σ H,⟨n,by simp,aL _,h0⟩,?_⟩
 rintro i m σ H ⟨rfl,hi,p⟩
 by_cases hlt:i < n
 ·refine .inr ⟨hlt,Pv (i + 1),λ σ' H' p'=>⟨n - (i + 1),by omega,rfl,hlt,p'⟩,λ x H' y=>?_⟩
  obtain ⟨e,y⟩:=y
  subst e y
  exact hs i σ _ hlt p
 ·have e:i=n:=by omega
  subst e
  exact .inl ⟨ak _,hd σ H p⟩
abbrev R2:=V->V->Hp->VK->Prop
def kg(X:Cx)(f:Value->Value->Sem Value)(r:R2):Prop :=
 ∀ (pins:List (Addr × Obj)) (s:Shared) (σ:St) (H:Hp) (x y:V) (v u:Value) (Q:VK),Inv X pins σ H s->RelV x v->RelV y u->r x y H Q ->
  wpAny (model X.prog X.w) X.A (f v u) (EP X pins σ Q) X.xe s
def T3(X:Cx)(f:Value->Sem Value)(r:V->Hp->VK->Prop):Prop :=
 ∀ (pins:List (Addr × Obj)) (s:Shared) (σ:St) (H:Hp) (x:V) (v:Value) (Q:VK),Inv X pins σ H s->RelV x v->r x H Q ->
  wpAny (model X.prog X.w) X.A (f v) (EP X pins σ Q) X.xe s
def cX(X:Cx)(f:Value)(r:List V->Hp->VK->Prop):Prop :=
 ∀ (pins:List (Addr × Obj)) (s:Shared) (σ:St) (H:Hp) (xs:List V) (us:List Value) (Q:VK),Inv X pins σ H s->Vals xs us->r xs H Q ->
  wpAny (model X.prog X.w) X.A (call f us) (EP X pins σ Q) X.xe s
def T4(X:Cx)(r:V->Hp->(Bool->Hp->Prop)->Prop):Prop :=
 ∀ (pins:List (Addr × Obj)) (s:Shared) (σ:St) (H:Hp) (x:V) (v:Value) (Q:Bool->Hp->Prop),Inv X pins σ H s->RelV x v->r x H Q ->
  wpAny (model X.prog X.w) X.A (truthy v) (TP X pins σ Q) X.xe s
def KA(r:R2)(ta tb:TE):TE:=λ σ H Q=>ta σ H λ x H1=>tb σ H1 λ y H2=>r x y H2 Q
def WV(r:V->Hp->VK->Prop)(ta:TE):TE:=λ σ H Q=>ta σ H λ x H1=>r x H1 Q
def rI(C:Int->Int->Prop)(g:Int->Int->V):R2:=λ x y H Q=>∃ i j,x=.int i /\ y=.int j /\ C i j /\ Q (g i j) H
def Nv(g:Int->Int->V):R2:=λ x y H Q=>∃ i j,x=.int i /\ y=.int j /\ Q (g i j) H
def rU(g:Int->V):V->Hp->VK->Prop:=λ x H Q=>∃ i,x=.int i /\ Q (g i) H
section
variable {X:Cx}{a b c:Expr}{ta tb tc:TE}{pos:Pos}
theorem KC(ha:PE X a ta)(hb:PE X b tb){σ:St}{R:V->V->Hp->Prop}(I:Inv X pins σ H s)
  (h:ta σ H λ x H1=>tb σ H1 λ y H2=>R x y H2){Q:Value->Shared->Prop}
  (hf:∀ v u s2 x y H2,Inv X pins σ H2 s2->RelV x v->RelV y u->R x y H2->wpAny (model X.prog X.w) X.A (f v u) Q X.xe s2):
  wpAny (model X.prog X.w) X.A (eval a X.env) (λ v s₁=>wpAny (model X.prog X.w) X.A (eval b X.env) (λ u s₂=>wpAny (model X.prog X.w) X.A (f v u) Q X.xe s₂) X.xe s₁) X.xe s:=by
 refine cA (ha pins s σ H _ I h) λ v s1 ⟨x,H1,I1,r1,q1⟩=>?_
 refine cA (hb pins s1 σ H1 _ I1 q1) λ u s2 ⟨y,H2,I2,r2,q2⟩=>?_
 exact hf v u s2 x y H2 I2 r1 r2 q2
theorem bD{op:Operator}(ho:kg X (binaryOp op) r)(ha:PE X a ta)(hb:PE X b tb):PE X (.BinOp a op b pos) (KA r ta tb):=by
 intro pins s σ H Q I h
 exact wpAny_BinOp (KC ha hb I h λ v u s2 x y H2 I2 rx ry q=>ho pins s2 σ H2 x y v u Q I2 rx ry q)
theorem yI{op:UnaryOp}{r:V->Hp->VK->Prop}(ho:T3 X (unaryOp op) r)(ha:PE X a ta):PE X (.UnaryOp op a pos) (WV r ta):=by
 intro pins s σ H Q I h
 exact UnaryOp_ (cA (ha pins s σ H _ I h) λ v s1 ⟨x,H1,I1,r1,q1⟩=>ho pins s1 σ H1 x v Q I1 r1 q1)
theorem T5{C:Int->Int->Prop}{g:Int->Int->Int}
  (rule:∀ (i j:Int) (t u:Tok) (s:Shared) (Q:Value->Shared->Prop) (E:Value->Shared->Prop),C i j->Q (.int (g i j) s.toks) { s with toks:=s.toks + 1 } -> wpAny (model X.prog X.w) X.A (f (.int i t) (.int j u)) Q E s):
  kg X f (rI C λ i j=>.int (g i j)):=by
 intro pins s σ H x y v u Q I rx ry h
 obtain ⟨i,j,rfl,rfl,hc,q⟩:=h
 obtain ⟨t,rfl⟩:=rx
 obtain ⟨t',rfl⟩:=ry
 exact rule i j t t' s _ _ hc ⟨.int (g i j),H,I.tok _,⟨_,rfl⟩,q⟩
theorem Oa{g:Int->Int->Int}
  (rule:∀ (i j:Int) (t u:Tok) (s:Shared) (Q:Value->Shared->Prop) (E:Value->Shared->Prop),Q (.int (g i j) s.toks) { s with toks:=s.toks + 1 } -> wpAny (model X.prog X.w) X.A (f (.int i t) (.int j u)) Q E s):
  kg X f (Nv λ i j=>.int (g i j)):=by
 intro pins s σ H x y v u Q I rx ry h
 obtain ⟨i,j,rfl,rfl,q⟩:=h
 obtain ⟨t,rfl⟩:=rx
 obtain ⟨t',rfl⟩:=ry
 exact rule i j t t' s _ _ ⟨.int (g i j),H,I.tok _,⟨_,rfl⟩,q⟩
theorem T6{g:Int->Int->Bool}
  (rule:∀ (i j:Int) (t u:Tok) (s:Shared) (Q:Value->Shared->Prop) (E:Value->Shared->Prop),Q (.bool (g i j)) s->wpAny (model X.prog X.w) X.A (f (.int i t) (.int j u)) Q E s):
  kg X f (Nv λ i j=>.bl (g i j)):=by
 intro pins s σ H x y v u Q I rx ry h
 obtain ⟨i,j,rfl,rfl,q⟩:=h
 obtain ⟨t,rfl⟩:=rx
 obtain ⟨t',rfl⟩:=ry
 exact rule i j t t' s _ _ ⟨.bl (g i j),H,I,rfl,q⟩
def T7(i j:Int):Prop:=0 < j /\ j < 1073741824
def KD(i j:Int):Prop:=(-(2 ^ 64) < i /\ i < 2 ^ 64) \/ (-(2 ^ 64) < j /\ j < 2 ^ 64)
theorem KD.ok{i j:Int}(h:KD i j):IntMulOk i j:=by
 rcases h with ⟨h1,h2⟩ | ⟨h1,h2⟩
 ·exact .of_left (intBits_le_64 h1 h2)
 ·exact .of_right (intBits_le_64 h1 h2)
theorem cR:kg X (binaryOp .Add) (Nv λ i j=>.int (i + j)):=Oa λ _ _ _ _ _ _ _ q=>add_int q
theorem oB:kg X (binaryOp .Sub) (Nv λ i j=>.int (i - j)):=Oa λ _ _ _ _ _ _ _ q=>sub_int q
theorem oE:kg X (binaryOp .Mult) (rI KD λ i j=>.int (i * j)):=T5 λ _ _ _ _ _ _ _ hc q=>mul_int q hc.ok
theorem rQ:kg X (binaryOp .FloorDiv) (rI T7 λ i j=>.int (i / j)):=T5 λ i j _ _ _ _ _ hc q=>by
 have h1:(0:Int) < j:=hc.1
 have h2:j < 1073741824:=hc.2
 exact floordiv_int (by omega) (by rw [Int.fdiv_eq_ediv_of_nonneg i (by omega)]; exact q) (.inl (PyProof.noPylong_small (by omega)))
theorem jf:kg X (binaryOp .Mod) (rI (λ _ j=>0 < j) λ i j=>.int (i % j)):=T5 λ i j _ _ _ _ _ hc q=>by
 have h1:(0:Int) < j:=hc
 exact mod_int' (by omega) (by rw [Int.fmod_eq_emod_of_nonneg i (by omega)]; exact q)
theorem Yg{f:Value->Sem Value}{g:Int->Int}
  (rule:∀ (i:Int) (t:Tok) (s:Shared) (Q:Value->Shared->Prop) (E:Value->Shared->Prop),Q (.int (g i) s.toks) { s with toks:=s.toks + 1 } -> wpAny (model X.prog X.w) X.A (f (.int i t)) Q E s):
  T3 X f (rU λ i=>.int (g i)):=by
 intro pins s σ H x v Q I rx h
 obtain ⟨i,rfl,q⟩:=h
 obtain ⟨t,rfl⟩:=rx
 exact rule i t s _ _ ⟨.int (g i),H,I.tok _,⟨_,rfl⟩,q⟩
theorem rR:T3 X (unaryOp .USub) (rU λ i=>.int (-i)):=Yg λ _ _ _ _ _ q=>neg_int q
end
def Ob:V->V->Bool
 | .cP,.cP=>true | .cP,.int _=>true | .int _,.cP=>true | .cP,.bl _=>true | .bl _,.cP=>true | .cP,.str _=>true | .str _,.cP=>true
 | .int _,.int _=>true | .bl _,.bl _=>true | .str _,.str _=>true | .Au _,.Au _=>true
 | .int _,.str _=>true | .str _,.int _=>true | .bl _,.str _=>true | .str _,.bl _=>true
 | _,_=>false
def T8:R2:=λ x y H Q=>Ob x y=true /\ Q (.bl (decide (x=y))) H
def WW:R2:=λ x y H Q=>Ob x y=true /\ Q (.bl (!decide (x=y))) H
theorem yJ{i j:Int}:decide (V.int i=V.int j)=(i == j):=by
 rw [Bool.eq_iff_iff]
 simp
theorem Cz{i j:Bool}:decide (V.bl i=V.bl j)=(i == j):=by
 rw [Bool.eq_iff_iff]
 simp
theorem yK{i j:Str}:decide (V.str i=V.str j)=(i == j):=by
 rw [Bool.eq_iff_iff]
 simp
theorem yL{i j:Array UInt8}:decide (V.Au i=V.Au j)=(i.toList == j.toList):=by
 rw [Bool.eq_iff_iff]
 cases i
 cases j
 simp
section
variable {X:Cx}{a b c:Expr}{ta tb tc:TE}{pos:Pos}
theorem bC{σ:St}{Q:VK}{k k':Bool}(I:Inv X pins σ H s)(q:Q (.bl k) H)(e:k=k'):EP X pins σ Q (.bool k') s:=by
 subst e
 exact ⟨.bl k,H,I,rfl,q⟩
theorem oF:kg X (compareOp .Eq) T8:=by
 intro pins s σ H x y v u Q I rx ry h
 obtain ⟨hs,q⟩:=h
 cases x with
 | cP =>
  cases rx
  cases y with
  | cP=>cases ry; exact PySem.EqNone.eq_none_none (bC I q (by simp))
  | bl j=>cases ry; exact PySem.EqNone.eq_none_bool (bC I q (by simp))
  | int j=>obtain ⟨t',rfl⟩:=ry; exact PySem.EqNone.eq_none_int (bC I q (by simp))
  | str j=>obtain ⟨t',rfl⟩:=ry; exact PySem.EqNone.eq_none_str (bC I q (by simp))
  | _=>exact absurd (show false=true from hs) iD
 | bl i =>
  cases rx
  cases y with
  | cP=>cases ry; exact PySem.EqNone.eq_bool_none (bC I q (by simp))
  | bl j=>cases ry; exact eq_bool (bC I q Cz)
  | str j=>obtain ⟨t',rfl⟩:=ry; exact PySem.EqMixed.eq_bool_str (bC I q (by simp))
  | _=>exact absurd (show false=true from hs) iD
 | int i =>
  obtain ⟨t,rfl⟩:=rx
  cases y with
  | cP=>cases ry; exact PySem.EqNone.eq_int_none (bC I q (by simp))
  | int j=>obtain ⟨t',rfl⟩:=ry; exact eq_int (bC I q yJ)
  | str j=>obtain ⟨t',rfl⟩:=ry; exact PySem.EqMixed.eq_int_str (bC I q (by simp))
  | _=>exact absurd (show false=true from hs) iD
 | str i =>
  obtain ⟨t,rfl⟩:=rx
  cases y with
  | cP=>cases ry; exact PySem.EqNone.eq_str_none (bC I q (by simp))
  | bl j=>cases ry; exact PySem.EqMixed.eq_str_bool (bC I q (by simp))
  | int j=>obtain ⟨t',rfl⟩:=ry; exact PySem.EqMixed.eq_str_int (bC I q (by simp))
  | str j=>obtain ⟨t',rfl⟩:=ry; exact eq_str (bC I q yK)
  | _=>exact absurd (show false=true from hs) iD
 | Au i =>
  obtain ⟨t,rfl⟩:=rx
  cases y with
  | Au j=>obtain ⟨t',rfl⟩:=ry; exact PySem.W.eq_bytes (bC I q yL)
  | _=>exact absurd (show false=true from hs) iD
 | _=>cases y <;> exact absurd (show false=true from hs) iD
theorem qD:kg X (compareOp .NotEq) WW:=by
 intro pins s σ H x y v u Q I rx ry h
 obtain ⟨hs,q⟩:=h
 cases x with
 | cP =>
  cases rx
  cases y with
  | cP=>cases ry; exact PySem.EqNone.ne_none_none (bC I q (by simp))
  | bl j=>cases ry; exact PySem.EqNone.ne_none_bool (bC I q (by simp))
  | int j=>obtain ⟨t',rfl⟩:=ry; exact PySem.EqNone.ne_none_int (bC I q (by simp))
  | str j=>obtain ⟨t',rfl⟩:=ry; exact PySem.EqNone.ne_none_str (bC I q (by simp))
  | _=>exact absurd (show false=true from hs) iD
 | bl i =>
  cases rx
  cases y with
  | cP=>cases ry; exact PySem.EqNone.ne_bool_none (bC I q (by simp))
  | bl j=>cases ry; exact ne_bool (bC I q (congrArg not Cz))
  | str j=>obtain ⟨t',rfl⟩:=ry; exact PySem.EqMixed.ne_bool_str (bC I q (by simp))
  | _=>exact absurd (show false=true from hs) iD
 | int i =>
  obtain ⟨t,rfl⟩:=rx
  cases y with
  | cP=>cases ry; exact PySem.EqNone.ne_int_none (bC I q (by simp))
  | int j=>obtain ⟨t',rfl⟩:=ry; exact ne_int (bC I q (congrArg not yJ))
  | str j=>obtain ⟨t',rfl⟩:=ry; exact PySem.EqMixed.ne_int_str (bC I q (by simp))
  | _=>exact absurd (show false=true from hs) iD
 | str i =>
  obtain ⟨t,rfl⟩:=rx
  cases y with
  | cP=>cases ry; exact PySem.EqNone.ne_str_none (bC I q (by simp))
  | bl j=>cases ry; exact PySem.EqMixed.ne_str_bool (bC I q (by simp))
  | int j=>obtain ⟨t',rfl⟩:=ry; exact PySem.EqMixed.ne_str_int (bC I q (by simp))
  | str j=>obtain ⟨t',rfl⟩:=ry; exact ne_str (bC I q (congrArg not yK))
  | _=>exact absurd (show false=true from hs) iD
 | Au i =>
  obtain ⟨t,rfl⟩:=rx
  cases y with
  | Au j=>obtain ⟨t',rfl⟩:=ry; exact PySem.W.ne_bytes (bC I q (congrArg not yL))
  | _=>exact absurd (show false=true from hs) iD
 | _=>cases y <;> exact absurd (show false=true from hs) iD
theorem IV:kg X (compareOp .Lt) (Nv λ i j=>.bl (decide (i < j))):=T6 λ _ _ _ _ _ _ _ q=>lt_int q
theorem KH:kg X (compareOp .Is) (λ x y H Q=>y=.cP /\ Q (.bl (decide (x=.cP))) H):=by
 intro pins s σ H x y v u Q I rx ry h
 obtain ⟨rfl,q⟩:=h
 cases ry
 refine is_none_gen (bC I q ?_)
 cases x <;> first
  | (cases rx; rfl)
  | (obtain ⟨t,rfl⟩:=rx; rfl)
theorem kg.or{r':R2}(h:kg X f r)(h':kg X f r'):kg X f (λ x y H Q=>r x y H Q \/ r' x y H Q):=by
 intro pins s σ H x y v u Q I rx ry q
 rcases q with q | q
 ·exact h pins s σ H x y v u Q I rx ry q
 ·exact h' pins s σ H x y v u Q I rx ry q
theorem cI(b:Expr)(h:op ≠ .In:=by decide)(h2:op ≠ .NotIn:=by decide):behindInMarks op b=false:=by
 have e1:(op == CmpOp.In)=false:=by cases op <;> first | rfl | exact absurd rfl h
 have e2:(op == CmpOp.NotIn)=false:=by cases op <;> first | rfl | exact absurd rfl h2
 cases b <;> simp [behindInMarks,e1,e2]
theorem F8(ho:kg X (compareOp op) r)(ha:PE X a ta)(hb:PE X b tb)(hm:behindInMarks op b=false):PE X (.Compare a [op] [b] pos) (KA r ta tb):=by
 intro pins s σ H Q I h
 exact wpAny_Compare1 (KC ha hb I h λ v u s2 x y H2 I2 rx ry q=>ho pins s2 σ H2 x y v u Q I2 rx ry q) hm
def IW(t:TE):TT:=λ σ H Q=>t σ H λ x H'=>∃ k,x=.bl k /\ Q k H'
theorem aW(ho:kg X (compareOp op) r)(ha:PE X a ta)(hb:PE X b tb)(hm:behindInMarks op b=false):PT X (.Compare a [op] [b] pos) (IW (KA r ta tb)):=by
 intro pins s σ H Q I h
 refine wpAny_isTrue_Compare1 (cA (ha pins s σ H _ I h) λ v s1 ⟨x,H1,I1,r1,q1⟩=>cA (hb pins s1 σ H1 _ I1 q1) λ u s2 ⟨y,H2,I2,r2,q2⟩ =>
  cA (ho pins s2 σ H2 x y v u _ I2 r1 r2 q2) λ c s3 ⟨z,H3,I3,r3,k,e,q3⟩=>?_) hm
 subst e
 cases r3
 exact wpAny_truthy_bool ⟨H3,I3,q3⟩
def F9(K:ay)(x:V)(H:Hp)(k:Bool):Prop :=
 match x with
 | .cP=>k=false
 | .bl b=>k=b
 | .int i=>k=(i != 0)
 | .str y=>y.length <= sizeLine /\ k=((y.length:Int) != 0)
 | .Au y=>y.size <= sizeLine /\ k=((y.size:Int) != 0)
 | .ref p=>(∃ xs,bI K H p xs /\ k = !xs.isEmpty) \/ (∃ xs,gm K H p xs /\ k = !xs.isEmpty) \/ ∃ kvs,H p=some (.dK kvs) /\ k = !kvs.isEmpty
 | _=>False
theorem wM{κ:Type}{kvs:List (κ × V)}{vs:List (κ × Value)}(r:KV kvs vs):(!vs.isEmpty) = !kvs.isEmpty:=by
 cases r <;> rfl
theorem oG{its:List Value}(r:Vals xs its):(!its.toArray.isEmpty) = !xs.isEmpty:=by
 cases r <;> simp
theorem oH:(sizeLine:Nat) < 2 ^ 63:=by rw [sizeLine_eq]; decide
theorem KI:T4 X (λ x H Q=>∃ k,F9 X.K x H k /\ Q k H):=by
 intro pins s σ H x v Q I rx h
 obtain ⟨k,e,q⟩:=h
 have hl:=oH
 have hs:sizeLine=16777216:=sizeLine_eq
 cases x with
 | cP =>
  cases rx
  have e':k=false:=e
  subst e'
  exact truthy_none ⟨H,I,q⟩
 | bl b =>
  cases rx
  have e':k=b:=e
  subst e'
  exact wpAny_truthy_bool ⟨H,I,q⟩
 | int i =>
  obtain ⟨t,rfl⟩:=rx
  have e':k=(i != 0):=e
  subst e'
  exact PySem.P.truthy_int ⟨H,I,q⟩
 | str y =>
  obtain ⟨t,rfl⟩:=rx
  obtain ⟨hy,e'⟩:y.length <= sizeLine /\ k=((y.length:Int) != 0):=e
  subst e'
  exact PySem.P.truthy_str (by omega) ⟨H,I.tok _,q⟩
 | Au y =>
  obtain ⟨t,rfl⟩:=rx
  obtain ⟨hy,e'⟩:y.size <= sizeLine /\ k=((y.size:Int) != 0):=e
  subst e'
  exact PySem.W.truthy_bytes (by omega) ⟨H,I.tok _,q⟩
 | ref p =>
  cases rx
  have e':(∃ xs,bI X.K H p xs /\ k = !xs.isEmpty) \/ (∃ xs,gm X.K H p xs /\ k = !xs.isEmpty) \/ ∃ kvs,H p=some (.dK kvs) /\ k = !kvs.isEmpty:=e
  rcases e' with ⟨xs,hx,e'⟩ | ⟨xs,hx,e'⟩ | ⟨kvs,hx,e'⟩
  ·subst e'
   obtain ⟨its,r,pl,hz⟩:=I.list hx
   have hlen:=r.length
   exact wpAny_truthy_list pl.isList (by simp only [aM]; omega) ⟨H,I.tok _,by rw [oG r]; exact q⟩
  ·subst e'
   obtain ⟨its,r,pl,hz⟩:=I.tuple hx
   have hlen:=r.length
   exact truthy_tuple pl (by simp only [aM]; omega) ⟨H,I.tok _,by rw [oG r]; exact q⟩
  ·subst e'
   obtain ⟨hz,hS,vs,r,m⟩:kvs.length <= sizeLine /\ (p == sysModules)=false /\ ∃ vs,KV kvs vs /\ s.heap.DictOf (bJ X.prog X.w) p vs:=I.hok p _ hx
   have hlen:kvs.length=vs.length:=f7 r
   exact wpAny_truthy_dict hS m (by omega) ⟨H,I.tok _,by rw [wM r]; exact q⟩
 | _=>exact (show False from e).elim
theorem CA(ha:PE X a ta)(he:∀ whole,isTrue a X.env whole=(do let v <- whole; standAt a.pos; holding [v] (truthy v))):
  PT X a (λ σ H Q=>ta σ H λ x H'=>∃ k,F9 X.K x H' k /\ Q k H'):=by
 intro pins s σ H Q I h
 exact isTrue_plain (cA (ha pins s σ H _ I h) λ v s1 ⟨x,H1,I1,r1,q1⟩=>KI pins s1 σ H1 x v Q I1 r1 q1) (he _)
theorem vals1{x:V}(r:Vals [x] us):∃ u,us=[u] /\ RelV x u:=by
 cases r with
 | cons r1 r2=>cases r2; exact ⟨_,rfl,r1⟩
theorem vals2{x y:V}(r:Vals [x,y] us):∃ u w',us=[u,w'] /\ RelV x u /\ RelV y w':=by
 cases r with
 | cons r1 r2 =>
  cases r2 with
  | cons r3 r4=>cases r4; exact ⟨_,_,rfl,r1,r3⟩
end
structure KJ (h:Heap) (x dx C:Addr) (mA:Str->Option Value):Prop where
 obj:h.get? x=some (PySem.W.instObj C dx)
 ns:h.Ns1 dx mA
 ne:dx ≠ x
theorem AD{dx:Addr}{mA:Str->Option Value}(n:h.Ns1 dx mA):∃ od,h.get? dx=some od /\ ∀ name,PySem.W.lookIn name od=some (mA name):=by
 obtain ⟨o,es,ep,ho,hd,hk,_,hm⟩:=n
 refine ⟨o,ho,λ name=>?_⟩
 have e:=hm name
 unfold nsFind findBy at e
 rw [<- Array.find?_toList] at e
 unfold PySem.W.lookIn
 rw [hd]
 dsimp only
 split
 ·rename_i y q
  rw [q] at e
  exact congrArg some e
 ·rename_i q
  rw [q] at e
  have a:es.toList.any (·.refKey)=false:=by
   rw [List.any_eq_false]
   intro y hy
   obtain ⟨z,t,hkey⟩:=hk y (Array.mem_toList_iff.mp hy)
   simp [DictEntry.refKey,hkey]
  have a':¬ es.toList.any (·.refKey)=true:=by rw [a]; exact iD
  rw [if_neg a']
  exact congrArg some e
theorem KJ.look{x dx C:Addr}{mA:Str->Option Value}(I:KJ h x dx C mA):∃ od,PySem.W.InstAt h x (PySem.W.instObj C dx) C (some od) /\ ∀ name,PySem.W.lookIn name od=some (mA name) :=
 let ⟨od,ho,hl⟩:=AD I.ns
 ⟨od,⟨I.obj,rfl,rfl,ho⟩,hl⟩
section
variable {prog:Program}{w:World}{A:Around}{E:Value->Shared->Prop}{s:Shared}{K:ay}{x dx C f:Addr}{mA:Str->Option Value}{name:Str}{v:Value}
end
theorem jZ.some_of{o:Option Value}(r:jZ (some v) o):∃ u,o=some u /\ RelV v u:=by
 cases o with
 | none=>exact (show False from r).elim
 | some u=>exact ⟨u,rfl,r⟩
section
variable {P:Program}{w:World}{H H':Hp}{h h':Heap}{a C dx:Addr}{fs fs':List (Str × V)}
theorem Ga(hok:iY P w H h)(e:H a=some (.ins C dx fs)):∃ mA,KJ h a dx C mA /\ (∀ f,jZ (fs.lookup f) (mA f)) /\ PySem.Within mA (fs.map (·.1)) /\ fs.length <= 1000 /\ H dx=some (.own a):=by
 obtain ⟨d,z,ne,ob,mA,n,r,q⟩:=(show bU P w H h a (.ins C dx fs) from hok a _ e)
 exact ⟨mA,⟨ob,n,ne⟩,r,q,z,d⟩
end
structure T9 (K:ay) (C:Addr):Prop where
 pg:PySem.W.plainGet K C Str.empty=true
 hd:PySem.W.hasDictIn K C=true
 po:PySem.W.plainOver K C=true
 sa:PySem.W.findIn K (.ref C) "__setattr__" = some (some (.builtin "object.__setattr__"))
theorem T9.get{C:Addr}(c:T9 K C)(f:Str):PySem.W.plainGet K C f=true:=c.pg
section
variable {X:Cx}{pins:List (Addr × Obj)}{σ:St}{H:Hp}{s:Shared}{a C dx:Addr}{fs:List (Str × V)}{f:Str}{v:V}{A:Around}{E:Value->Shared->Prop}
theorem Inv.made(I:Inv X pins σ H s):Inv X pins σ (upd (upd H s.heap.objs.size (.own (s.heap.objs.size + 1))) (s.heap.objs.size + 1) (.ins C s.heap.objs.size []))
  { s with heap:=(s.heap.push PySem.W.emptyDict).push (PySem.W.instObj C s.heap.objs.size) }:=by
 have e1:(s.heap.push PySem.W.emptyDict).get? s.heap.objs.size=some PySem.W.emptyDict:=fJ s.heap rfl
 have e2:((s.heap.push PySem.W.emptyDict).push (PySem.W.instObj C s.heap.objs.size)).get? (s.heap.objs.size + 1)=some (PySem.W.instObj C s.heap.objs.size):=by
  have:=fJ (s.heap.push PySem.W.emptyDict) (o:=PySem.W.instObj C s.heap.objs.size) rfl
  rwa [cU] at this
 have e3:(s.heap.push PySem.W.emptyDict).Ns s.heap.objs.size (λ _=>none):=⟨PySem.W.emptyDict,#[],_,e1,rfl,(λ e he=>absurd he (by simp)),λ _=>rfl⟩
 have I1:=I.laid (a:=s.heap.objs.size) (o:=.own (s.heap.objs.size + 1)) (h':=s.heap.push PySem.W.emptyDict) (t':=s.toks) (λ b u q=>bS _ q) (ak _) ⟨_,e1⟩
 refine I1.laid (a:=s.heap.objs.size + 1) (o:=.ins C s.heap.objs.size []) (t':=s.toks) (λ b u q=>bS _ q) (Nat.le_of_eq (cU _ _)) ?_
 have ne:s.heap.objs.size ≠ s.heap.objs.size + 1:=aO (jX _)
 refine ⟨by rw [aP ne,cE],aL _,ne,e2,λ _=>none,(Heap.Ns1.of_empty e3).at λ o q=>bS _ q,λ _=>dQ,λ y hy=>absurd rfl hy⟩
end
def Oc(X:Cx)(op:Operator)(rd:V->V->Hp->VK->Prop):Prop :=
 ∀ (pins:List (Addr × Obj)) (s:Shared) (σ:St) (H:Hp) (x y:V) (u v:Value) (Q:VK),Inv X pins σ H s->RelV x u->RelV y v->rd x y H Q->wpAny (model X.prog X.w) X.A (inplaceOp op u v) (EP X pins σ Q) X.xe s
section
variable {X:Cx}{o e value:Expr}{f:Str}{pos pos' tpos:Pos}{ta tv:TE}
def Od:V->V->Hp->VK->Prop:=λ x y H Q=>∃ i j,x=.int i /\ y=.int j /\ Q (.int (i - j)) H
theorem KL:Oc X .Sub Od:=by
 rintro pins s σ H x y u v Q I rx ry ⟨i,j,rfl,rfl,q⟩
 obtain ⟨t,rfl⟩:=(show ∃ t,u=Value.int i t from rx)
 obtain ⟨t',rfl⟩:=(show ∃ t',v=Value.int j t' from ry)
 exact PyProof.Rows.isub_int ⟨.int (i - j),H,I.tok _,⟨_,rfl⟩,q⟩
end
section
variable {X:Cx}{pins:List (Addr × Obj)}{σ:St}{H:Hp}{s:Shared}{A:Around}{E:Value->Shared->Prop}{Q:Value->Shared->Prop}{c:Value}{b:Bool}
inductive kq (K:ay) (H:Hp):V->Value->Prop where
 | cP:kq K H .cP (.type "NoneType")
 | bl (x:Bool):kq K H (.bl x) (.type "bool")
 | int (i:Int):kq K H (.int i) (.type "int")
 | str (x:Str):kq K H (.str x) (.type "str")
 | Nr (x:UInt64):kq K H (.Nr x) (.type "float")
 | lst {a:Addr} {xs:List V} (e:H a=some (.lst xs)):kq K H (.ref a) (.type "list")
 | tE {a:Addr} {o:Obj} {xs:List V} (e:H a=some (.tE o (.lst xs))):kq K H (.ref a) (.type "list")
 | tup {a:Addr} {xs:List V} (e:H a=some (.tup xs)):kq K H (.ref a) (.type "tuple")
 | dK {a:Addr} {kvs:List (Key × V)} (e:H a=some (.dK kvs)):kq K H (.ref a) (.type "dict")
 | dT {a:Addr} {kvs:List (List Key × V)} (e:H a=some (.dT kvs)):kq K H (.ref a) (.type "dict")
 | ins {a C dx:Addr} {fs:List (Str × V)} (e:H a=some (.ins C dx fs)) (cl:T9 K C) (ha:PySem.W.findIn K (.ref C) "__class__" = some (some (.builtin "object.__class__")))
   (hn:PySem.W.specialIn K (.builtin "object.__class__") "__get__" = some (some (.builtin "getset_descriptor.__get__"))) (htk:PySem.W.takesIn K (.builtin "object.__class__")=some true)
   (hm:PySem.W.mroIn K C (.type "object")=some true):kq K H (.ref a) (.ref C)
theorem AE{x:V}{t:Value}(I:Inv X pins σ H s)(rx:RelV x u)(ty:kq X.K H x t)(e:PySem.W.kitOne X.K t c=some b)(h:∀ tk,Q (.bool b) { s with toks:=tk }):
  wpAny (model X.prog X.w) A (call (.builtin "isinstance") [u,c]) Q E s:=by
 cases ty with
 | cP=>cases (show u=Value.none from rx); exact dP PySem.W.kitx_none I.rO dQ e (λ z=>nomatch z) h
 | bl y=>cases (show u=Value.bool y from rx); exact dP PySem.W.kitx_bool I.rO dQ e (λ z=>nomatch z) h
 | int i=>obtain ⟨t,q⟩:=(show ∃ t,u=Value.int i t from rx); cases q; exact dP PySem.W.kitx_int I.rO dQ e (λ z=>nomatch z) h
 | str y=>obtain ⟨t,q⟩:=(show ∃ t,u=Value.str y t from rx); cases q; exact dP PySem.W.kitx_str I.rO dQ e (λ z=>nomatch z) h
 | Nr y=>obtain ⟨t,q⟩:=(show ∃ t,u=Value.float y t from rx); cases q; exact dP PySem.W.kitx_float I.rO dQ e (λ z=>nomatch z) h
 | @lst a xs ea =>
  cases (show u=Value.ref a from rx)
  obtain ⟨_,_,n,_,h1⟩:=(show bU X.prog X.w H s.heap a (.lst xs) from I.hok a _ ea)
  exact dP PySem.W.kitx_list I.rO ⟨_,h1,rfl⟩ e (λ z=>nomatch z) h
 | @tE a ob xs ea =>
  cases (show u=Value.ref a from rx)
  obtain ⟨_,_,_,n,_,h1⟩:=(show bU X.prog X.w H s.heap a (.tE ob (.lst xs)) from I.hok a _ ea)
  exact dP PySem.W.kitx_list I.rO ⟨_,h1,rfl⟩ e (λ z=>nomatch z) h
 | @tup a xs ea =>
  cases (show u=Value.ref a from rx)
  obtain ⟨_,_,_,p⟩:=(show bU X.prog X.w H s.heap a (.tup xs) from I.hok a _ ea)
  obtain ⟨o,h1,h2,_⟩:=p
  exact dP PySem.W.kitx_tuple I.rO ⟨o,h1,h2⟩ e (λ z=>nomatch z) h
 | @dK a kvs ea =>
  cases (show u=Value.ref a from rx)
  obtain ⟨_,_,vs,_,p⟩:=(show bU X.prog X.w H s.heap a (.dK kvs) from I.hok a _ ea)
  obtain ⟨o,es,ep,h1,h2,_⟩:=p
  exact dP PySem.W.kitx_dict I.rO ⟨o,h1,h2.1⟩ e (λ z=>nomatch z) h
 | @dT a kvs ea =>
  cases (show u=Value.ref a from rx)
  obtain ⟨_,_,xs,_,o,es,ep,h1,h2,_⟩:=(show bU X.prog X.w H s.heap a (.dT kvs) from I.hok a _ ea)
  exact dP PySem.W.kitx_dict I.rO ⟨o,h1,h2.1⟩ e (λ z=>nomatch z) h
 | @ins a C dx fs ea cl ha hn htk hm =>
  cases (show u=Value.ref a from rx)
  obtain ⟨mA,O,_⟩:=Ga I.hok ea
  obtain ⟨od,J,_⟩:=O.look
  exact dP (PySem.W.kitx_own (cl.get _) cl.hd ha hn htk hm) I.rO J e (λ z=>nomatch z) h
end
structure fE (k:Nat) (A:Around):Prop where
 hd:A.handled=none
 dp:A.depth + 3 * k + 5 < recursionLimit
 un:A.units + 16 * k + 200 < cLine
theorem fE.mono{j k:Nat}{A:Around}(r:fE k A)(h:j <= k):fE j A:=⟨r.hd,by have:=r.dp; omega,by have:=r.un; omega⟩
theorem fE.deeper(r:fE (k + 1) A)(env:Env):fE k (A.deeper env) :=
 ⟨r.hd,by have:=r.dp; show A.depth + 1 + 3 * k + 5 < _; omega,by have:=r.un; show A.units + 3 + 16 * k + 200 < _; omega⟩
theorem fE.in1(r:fE (k + 1) A):fE k A.in1 :=
 ⟨r.hd,by have:=r.dp; show A.depth + 3 * k + 5 < _; omega,by have:=r.un; show A.units + 1 + 16 * k + 200 < _; omega⟩
theorem fE.depth(r:fE k A):A.depth < recursionLimit:=by have:=r.dp; omega
theorem fE.units(r:fE k A):A.units + 64 < cLine:=by have:=r.un; omega
def Oe:TA:=λ _ H Q=>Q [] H
def IY(ta:TE)(tr:TA):TA:=λ σ H Q=>ta σ H λ x H1=>tr σ H1 λ xs H2=>Q (x :: xs) H2
section
variable {X:Cx}{e:Expr}{es:List Expr}{te:TE}{t:TA}{pos:Pos}
theorem ai:PA X [] Oe:=λ _ _ _ _ H Q I h=>Calls.spliced_nil ⟨[],H,I,.nil,h⟩
theorem aa(ha:PE X e te)(hr:PA X es t)(hs:starEach (e :: es) X.env=(false,eval e X.env) :: starEach es X.env:=by rfl):PA X (e :: es) (IY te t):=by
 intro pos pins s σ H Q I h
 rw [hs]
 show wpAny _ _ (spliced ((false,eval e X.env) :: backTo pos (starEach es X.env))) _ _ s
 refine nU (cA (ha pins s σ H _ I h) λ u s1 ⟨x,H1,I1,r1,q1⟩=>?_)
 exact cA (hr pos pins s1 σ H1 _ I1 q1) λ us s2 ⟨xs,H2,I2,r2,q2⟩=>⟨x :: xs,H2,I2,.cons r1 r2,q2⟩
def Of(t:TA):TE:=λ σ H Q=>t σ H λ xs H1=>xs.length <= sizeLine /\ ∀ p,H1 p=none->Q (.ref p) (upd H1 p (.tup xs))
def Og(t:TA):TE:=λ σ H Q=>t σ H λ xs H1=>xs.length <= sizeLine /\ ∀ p,H1 p=none->Q (.ref p) (upd H1 p (.lst xs))
theorem dY{x1}(h:PA X es t):PE X (.Tuple es x1 pos) (Of t):=by
 intro pins s σ H Q I hq
 refine wpAny_Tuple_spliced (cA (h pos pins s σ H _ I hq) λ us s1 ⟨xs,H1,I1,r,z,q⟩=>⟨by rw [<- r.length]; exact z,?_⟩)
 have hf:H1 s1.heap.objs.size=none:=I1.hok.fresh (ak _)
 refine ⟨.ref s1.heap.objs.size,upd H1 s1.heap.objs.size (.tup xs),I1.laid (t':=s1.toks) (λ b u e=>bS _ e) (ak _) ?_,rfl,q _ hf⟩
 exact ⟨z,us,r,⟨_,fJ _ rfl,rfl,_,rfl⟩⟩
theorem dZ(h:PA X es t):PE X (.List es pos) (Og t):=by
 intro pins s σ H Q I hq
 refine wpAny_List_spliced (cA (h pos pins s σ H _ I hq) λ us s1 ⟨xs,H1,I1,r,z,q⟩=>⟨by rw [<- r.length]; exact z,?_⟩)
 have hf:H1 s1.heap.objs.size=none:=I1.hok.fresh (ak _)
 refine ⟨.ref s1.heap.objs.size,upd H1 s1.heap.objs.size (.lst xs),I1.laid (t':=s1.toks) (λ b u e=>bS _ e) (ak _) ?_,rfl,q _ hf⟩
 exact ⟨z,us,0,r,fJ _ rfl⟩
end
abbrev Sp:=List V->Hp->VK->XK->Prop
abbrev yM:=List Env->Hp->Shared->XK->Value->Shared->Prop
structure tN (P:Program) (w:World) (K:ay) (mg:Str->Option Value) (base:Heap) (A:Around) (outer:List Env) (s:Shared) (H:Hp):Prop where
 frames:A.frames=some outer
 mod:Mod K mg base
 bs:∀ b o,base.get? b=some o->s.heap.get? b=some o /\ H b=none
 Cf:base.objs.size <= s.heap.objs.size
 lT:s.heap.FunFrames base outer
 IK:∀ b∈frs outer,H b=none
 hok:iY P w H s.heap
 bare:AllBare s.gens
def CE(outer:List Env)(P:Program)(w:World)(H:Hp)(s:Shared)(Q:VK)(u:Value)(s':Shared):Prop :=
 ∃ v H',s'.os=s.os /\ AllBare s'.gens /\ Un (frs outer) [] H H' s.heap s'.heap /\ iY P w H' s'.heap /\ RelV v u /\ Q v H'
def CR(CX:yM)(outer:List Env)(P:Program)(w:World)(H:Hp)(s:Shared)(Q:VK)(E:XK)(r:Result)(s':Shared):Prop :=
 match r with
 | .ok (.ret u)=>CE outer P w H s Q u s'
 | .ok _=>False
 | .error e=>CX outer H s E e s'
structure cJ (P:Program) (w:World) (K:ay) (mg:Str->Option Value) (base:Heap) (CX:yM) (k:Nat) (f:Addr) (fd:FuncData) (ps:List Str) (sp:Sp):Prop where
 len:∀ vs H Q E,sp vs H Q E->vs.length=ps.length
 run:∀ (A:Around) (outer:List Env) (s:Shared) (H:Hp) (args:Args) (us:List Value) (vs:List V) (Q:VK) (E:XK),fE k A->tN P w K mg base A outer s H->BindsTo s fd args (ps.zip us)->Vals vs us->sp vs H Q E ->
  codeAny (model P w) A (.call (.ref f) args) (CR CX outer P w H s Q E) s
theorem cJ.mono{P:Program}{w:World}{K:ay}{mg:Str->Option Value}{base:Heap}{CX:yM}{j k:Nat}{f:Addr}{fd:FuncData}{ps:List Str}{sp:Sp}(F:cJ P w K mg base CX j f fd ps sp)(h:j <= k):
  cJ P w K mg base CX k f fd ps sp:=⟨F.len,λ A outer s H args us vs Q E hr=>F.run A outer s H args us vs Q E (hr.mono h)⟩
theorem cJ.imp{f:Addr}{fd:FuncData}{sp WX:Sp}(F:cJ P w K mg base CX k f fd ps sp)
  (h:∀ vs H Q E,WX vs H Q E->sp vs H Q E):cJ P w K mg base CX k f fd ps WX :=
 ⟨λ vs H Q E q=>F.len vs H Q E (h _ _ _ _ q),λ A outer s H args us vs Q E hr he hb hv hs=>F.run A outer s H args us vs Q E hr he hb hv (h _ _ _ _ hs)⟩
theorem tN.in1{outer:List Env}(e:tN P w K mg base A outer s H):
  tN P w K mg base A.in1 outer s H:=⟨e.frames,e.mod,e.bs,e.Cf,e.lT,e.IK,e.hok,e.bare⟩
section
variable {X:Cx}{pins:List (Addr × Obj)}{σ:St}{H:Hp}{s s':Shared}
theorem Inv.Ua(I:Inv X pins σ H s):tN X.prog X.w X.K X.mg X.base X.A X.stack s H :=
 ⟨I.ok.frames,I.ok.mod,I.bs,br I.ok.Cf I.sz,I.stack,I.nh,I.hok,I.bare⟩
theorem Inv.after{Q:VK}(I:Inv X pins σ H s)(h:CE X.stack X.prog X.w H s Q u s'):EP X pins σ Q u s':=by
 obtain ⟨v,H',os,bare,un,hok,r,q⟩:=h
 obtain ⟨hh,g,d,t,os'⟩:=s'
 obtain rfl:os'=s.os:=os
 exact ⟨v,H',I.call (h':=hh) (g':=g) (d':=d) (t':=t) (ch:=[]) un hok bare (λ b z=>absurd z (by simp)),r,q⟩
end
def CB(sp:Sp)(IZ:List V)(E:XK)(t:TA):TE:=λ σ H Q=>t σ H λ vs H1=>sp (vs++IZ) H1 Q E
def Binds(K:ay)(fd:FuncData)(ps:List Str)(ds:List Value):Prop :=
 ∀ (s:Shared) (us:List Value),K.In s.heap->(us++ds).length=ps.length->BindsTo s fd ⟨us,[]⟩ (ps.zip (us++ds))
theorem Binds.all{fd:FuncData}(h:∀ us:List Value,us.length=ps.length->bindArgs fd ⟨us,[]⟩=pure (ps.zip us)):Binds K fd ps []:=λ s us _ hl=>by
 rw [eE] at hl ⊢
 exact .of_eq (h us hl)
def Passes(CX:yM)(X:Cx)(E:XK):Prop:=∀ (pins:List (Addr × Obj)) (σ:St) (H:Hp) (s:Shared) (e:Value) (s':Shared),Inv X pins σ H s->CX X.stack H s E e s'->X.xe e s'
section
variable {X:Cx}{CX:yM}{k:Nat}{f C:Addr}{fd:FuncData}{ps:List Str}{sp:Sp}{IZ:List V}{ds:List Value}{E:XK}{x m:Str}{p pos apos:Pos}{e o:Expr}{es:List Expr}{ta:TE}{t:TA}
theorem KN{σ:St}{Q:VK}{vs:List V}(F:cJ X.prog X.w X.K X.mg X.base CX k f fd ps sp)(hr:fE k X.A)(hb:Binds X.K fd ps ds)(hd:Vals IZ ds)(hx:Passes CX X E)
  (I:Inv X pins σ H s)(r:Vals vs us)(h:sp (vs++IZ) H Q E):wpAny (model X.prog X.w) X.A (call (.ref f) us) (EP X pins σ Q) X.xe s:=by
 have r2:Vals (vs++IZ) (us++ds):=r.append hd
 have hl:(us++ds).length=ps.length:=by rw [<- r2.length]; exact F.len _ _ _ _ h
 refine wpAny_call (codeAny_mono (F.run X.A X.stack s H ⟨us,[]⟩ (us++ds) (vs++IZ) Q E hr I.Ua (hb s us I.rO hl) r2 h) λ r s' hq=>?_)
 cases r with
 | error e=>exact hx pins σ H s e s' I hq
 | ok fl =>
  cases fl with
  | ret u=>exact I.after hq
  | next=>exact False.elim hq
  | brk=>exact False.elim hq
  | cont=>exact False.elim hq
theorem Gb(F:cJ X.prog X.w X.K X.mg X.base CX k f fd ps sp)(hr:fE k X.A)(hg:Gl X x)(hm:X.mg x=some (.ref f))(hk:PySem.W.keepIn X.K (.ref f)=true)(hb:Binds X.K fd ps ds)(hd:Vals IZ ds)(hx:Passes CX X E)
  (ha:PA X (e :: es) t)(hdb:(x == ("__debug__" : Str))=false:=by decide)(he:starEach (e :: es) X.env=(false,eval e X.env) :: starEach es X.env:=by rfl)(hpl:(backTo pos (starEach es X.env)).any (·.1)=false:=by rfl):
  PE X (.Call (.Name x p) (e :: es) [] pos) (CB sp IZ E t):=by
 intro pins s σ H Q I h
 refine wpAny_Call_Name_kw (yG I hg hm ?_ hdb)
 refine PySem.W.callWith_K (h₀:=X.base) I.ok.mod.Nu hk (cA (ha pos pins s σ H _ I h) λ us s1 ⟨vs,H1,I1,r,q⟩=>⟨I1.rO,?_⟩) he hpl
 exact KN F hr hb hd hx I1 r q
end
section
variable {X:Cx}{CX:yM}{k:Nat}{f C:Addr}{fd:FuncData}{ps ks:List Str}{sp:Sp}{E:XK}{x m:Str}{p pos apos kpos:Pos}{e o:Expr}{es:List Expr}{kws:List Keyword}{te ta:TE}{t tk:TA}{nm:Option Str}
variable {g:List Value->List Value->List Value}{gV:List V->List V->List V}
end
structure aY (N P:List Str) (sc:Scope):Prop where
 kind:sc.kind=.function
 co:sc.isCoroutine=false
 gen:sc.isGenerator=false
 nd:N.Nodup
 pre:N.take P.length=P
 par:∀ x∈P,sc.names.lookup x=some .local \/ sc.names.lookup x=some .cell
 KO:∀ y∈sc.names,y.2 ≠ .free
theorem qE{kindOf:Str->Option NameKind}{x:Str}:∀ {binds:List (Str × Value)} {m:Str->Option Value},(∀ v,(x,v) ∉ binds)->bindL kindOf binds m x=m x
 | [],_,_=>rfl
 | (n,v) :: r,m,h=>by
  unfold bindL
  rw [qE λ w hw=>h w (cu _ hw)]
  split
  ·have:x ≠ n:=by rintro rfl; exact h v gq
   simp [this]
  ·rfl
theorem qF{kindOf:Str->Option NameKind}{x:Str}:∀ {binds:List (Str × Value)} {m:Str->Option Value},(∀ v,(x,v) ∉ binds)->bindC kindOf binds m x=m x
 | [],_,_=>rfl
 | (n,v) :: r,m,h=>by
  unfold bindC
  rw [qF λ w hw=>h w (cu _ hw)]
  split
  ·rfl
  ·have:x ≠ n:=by rintro rfl; exact h v gq
   simp [this]
theorem qG{kindOf:Str->Option NameKind}{x:Str}{v:Value}:∀ {P:List Str} {vs:List Value} {i:Nat} {m:Str->Option Value},P.Nodup->P[i]? = some x->vs[i]? = some v->kindOf x=some .local ->
  bindL kindOf (P.zip vs) m x=some v
 | [],_,_,_,_,h,_,_=>by simp at h
 | _ :: _,[],_,_,_,_,h,_=>by simp at h
 | p :: P,w :: vs,0,m,nd,h1,h2,hk=>by
  simp at h1 h2; subst h1; subst h2
  show bindL kindOf ((p,w) :: P.zip vs) m p=_
  unfold bindL
  rw [qE λ v hv=>(fz.mp nd).1 (List.of_mem_zip hv).1,if_pos hk]
  simp
 | p :: P,w :: vs,i + 1,m,nd,h1,h2,hk=>by
  show bindL kindOf ((p,w) :: P.zip vs) m x=_
  unfold bindL
  exact qG (i:=i) (fz.mp nd).2 (by simpa using h1) (by simpa using h2) hk
theorem qH{kindOf:Str->Option NameKind}{x:Str}{v:Value}:∀ {P:List Str} {vs:List Value} {i:Nat} {m:Str->Option Value},P.Nodup->P[i]? = some x->vs[i]? = some v->kindOf x ≠ some .local ->
  bindC kindOf (P.zip vs) m x=some v
 | [],_,_,_,_,h,_,_=>by simp at h
 | _ :: _,[],_,_,_,_,h,_=>by simp at h
 | p :: P,w :: vs,0,m,nd,h1,h2,hk=>by
  simp at h1 h2; subst h1; subst h2
  show bindC kindOf ((p,w) :: P.zip vs) m p=_
  unfold bindC
  rw [qF λ v hv=>(fz.mp nd).1 (List.of_mem_zip hv).1,if_neg hk]
  simp
 | p :: P,w :: vs,i + 1,m,nd,h1,h2,hk=>by
  show bindC kindOf ((p,w) :: P.zip vs) m x=_
  unfold bindC
  exact qH (i:=i) (fz.mp nd).2 (by simpa using h1) (by simpa using h2) hk
def start(N:List Str)(vs:List V):St:=vs.map some++List.replicate (N.length - vs.length) none
def rS(CX:yM)(P:Program)(w:World)(K:ay)(mg:Str->Option Value)(base:Heap)(N:List Str)(qual:Str)(scope:Scope)(f:Addr)(cd:Value)(A:Around)(outer:List Env)(s:Shared)(H:Hp)(E:XK):Cx where
 prog:=P
 w:=w
 K:=K
 mg:=mg
 base:=base
 A:=A.deeper (envOfC qual scope s.heap.objs.size f cd)
 N:=N
 s₀:=s
 H₀:=H
 env:=envOfC qual scope s.heap.objs.size f cd
 outer:=outer
 stack:=envOfC qual scope s.heap.objs.size f cd :: outer
 ex:=[]
 calm:=true
 fn:=λ _=>true
 pn:=[]
 xe:=λ e s'=>wpAny (model P w) (A.deeper (envOfC qual scope s.heap.objs.size f cd)) (leaving (envOfC qual scope s.heap.objs.size f cd) e) (λ _ s''=>CX outer H s E e s'') (λ e' s''=>CX outer H s E e' s'') s'
theorem tO{sc:Scope}(h:sc.names.lookup x=some .cell):∃ c,(cellsFrom n sc.names []).lookup x=some c:=by
 have q:=PySem.W.cellsFrom_some sc.names n [] (.inl h)
 exact Option.isSome_iff_exists.mp q
theorem AF{qual:Str}{scope:Scope}{f:Addr}{cd:Value}{outer:List Env}{s1:Shared}{E:XK}{vs:List V}
  (S:aY N ps scope)(hd:A.handled=none)(e0:tN P w K mg base A outer s H)(hl:vs.length=ps.length)(r:Vals vs us)
  (x:InCallC s s.heap.objs.size (bindL (envOfC qual scope s.heap.objs.size f cd).kindOf (ps.zip us) λ _=>none) (cellsFrom (s.heap.objs.size + 1) scope.names []) (bindC (envOfC qual scope s.heap.objs.size f cd).kindOf (ps.zip us) λ _=>none) s1):
  Inv (rS CX P w K mg base N qual scope f cd A outer s H E) [] (start N vs) H s1:=by
 have hpl:ps.length <= N.length:=by have:=congrArg List.length S.pre; rw [bV] at this; omega
 obtain ⟨h1,tk,rfl,hk⟩:=x.done
 have Oh:∀ b:Addr,b ∉ (rS CX P w K mg base N qual scope f cd A outer s H E).ex:=λ b z=>absurd (show b∈([]:List Addr) from z) (by simp)
 refine ⟨⟨e0.mod,S.kind,rfl,rfl,ak _,λ y z c h1 h2=>?_,λ y hy=>?_,λ y c _ h=>?_,λ _=>hd,Around.frames_deeper e0.frames,.inr ⟨rfl,rfl⟩,λ b z=>absurd z (Oh b),e0.bs,e0.Cf,λ b _ _=>Oh b,λ b z=>absurd z (Oh b),e0.lT,e0.IK⟩,
  rfl,e0.bare,Un.kept hk,⟨_,x.toInCall.ns,λ i y v h1 h2 h3=>?_⟩,λ y c h=>⟨_,x.cell y c h⟩,e0.hok.fresh (ak _),λ y c h=>?_,λ p hp=>absurd (show p∈([]:List (Addr × Obj)) from hp) (by simp),e0.hok.kept hk,?_⟩
 ·exact name_of_addr x.apart (eO h1) (eO h2)
 ·have hy:scope.names.lookup y=some .cell \/ scope.names.lookup y=some .free:=hy
  rcases hy with hy | hy
  ·exact tO hy
  ·exact absurd rfl (S.KO _ (eO hy))
 ·exact gS (x.above y c (eO h))
 ·have hi:i < vs.length:=by
   unfold start at h2
   by_cases hi:i < vs.length
   ·exact hi
   ·rw [i7 (by simpa using hi)] at h2
    rw [List.getElem?_replicate] at h2
    split at h2 <;> cases h2
  have ha:vs[i]? = some v:=by
   unfold start at h2
   rw [nZ (by simpa using hi),aS] at h2
   cases e:vs[i]? with
   | none=>rw [e] at h2; cases h2
   | some a=>rw [e] at h2; cases h2; rfl
  obtain ⟨u,hu,rv⟩:=r.get ha
  have hp:ps[i]? = some y:=by
   rw [<- S.pre,lM (by omega)]; exact h1
  have WY:ps.Nodup:=by rw [<- S.pre]; exact S.nd.sublist (List.take_sublist _ _)
  refine ⟨u,rv,?_⟩
  rcases S.par y (fm hp) with k | k
  ·exact .inl ⟨k,qG WY hp hu k⟩
  ·obtain ⟨c,e⟩:=tO (n:=s.heap.objs.size + 1) k
   refine .inr ⟨.inl k,c,e,?_⟩
   have q:=x.cell y c e
   rw [qH WY hp hu (by show scope.names.lookup y ≠ _; rw [k]; decide)] at q
   exact q
 ·exact e0.hok.fresh (gS (x.above y c (eO h)))
 ·unfold start
  show _=N.length
  rw [aN,aq,List.length_replicate]
  omega
theorem CC{f:Addr}{name qual:Str}{params:Arguments}{scope:Scope}{dV kV doc pm cdv ct oc:Value}{an od:Option Addr}
  {osl:Array (Option Value)}{sp:Sp}(lk:K.lookup f=some ⟨oc,od,.func (PySem.W.fnOf name qual params body scope dV kV doc pm an cdv ct),osl⟩)(hcd:PySem.W.codeIn K cdv qual=true)(S:aY N ps scope)
  (len:∀ vs H Q E,sp vs H Q E->vs.length=ps.length)
  (hbody:∀ (A:Around) (outer:List Env) (s:Shared) (H:Hp) (vs:List V) (Q:VK) (E:XK),fE k (A.deeper (envOfC qual scope s.heap.objs.size f cdv))->sp vs H Q E ->
   ∃ t,ql (rS CX P w K mg base N qual scope f cdv A outer s H E) body t /\ t { nx:=λ _ H'=>Q .cP H',rt:=Q } (start N vs) H):
  cJ P w K mg base CX (k + 1) f (PySem.W.fnOf name qual params body scope dV kV doc pm an cdv ct) ps sp:=by
 refine ⟨len,λ A outer s H args us vs Q E hr e0 hb r wC=>?_⟩
 have hl:=len _ _ _ _ wC
 have KX:K.In s.heap:=e0.mod.Nu.keeps λ b o e=>(e0.bs b o e).1
 have lim:s.heap.NoLimit:=e0.mod.nolimit.keeps λ b o e=>(e0.bs b o e).1
 have hkind:∀ y∈ps.zip us,scope.names.lookup y.1=some .local \/ (scope.names.lookup y.1=some .cell /\ ((cellsFrom (s.heap.objs.size + 1) scope.names []).lookup y.1).isSome=true):=λ ⟨n,v⟩ hy=>by
  rcases S.par n (List.of_mem_zip hy).1 with q | q
  ·exact .inl q
  ·exact .inr ⟨q,PySem.W.cellsFrom_some _ _ _ (.inl q)⟩
 refine codeAny_call_function hr.depth (KX _ _ lk) rfl S.co S.gen rfl (PySem.W.codeRec_of KX hcd) (hb _ _ _ _ ?_)
 refine wpAny_newFunctionEnv_cells S.kind hkind λ env he s1 x=>?_
 subst he
 refine ⟨lim.keeps x.toInCall.keep,codeAny_func ?_⟩
 obtain ⟨t,ht,hq⟩:=hbody A outer s H vs Q E (hr.deeper _) wC
 have I:Inv (rS CX P w K mg base N qual scope f cdv A outer s H E) [] (start N vs) H s1:=AF S hr.hd e0 hl r x
 refine wpAny_mono (ht [] s1 (start N vs) H _ I hq) (λ fl s' hs=>?_) λ e s' hs=>hs
 have fin:∀ {σ':St} {H':Hp} {v:V} {u:Value},Inv (rS CX P w K mg base N qual scope f cdv A outer s H E) [] σ' H' s'->RelV v u->Q v H'->CE outer P w H s Q u s' :=
  λ {σ' H' v u} J rv q=>⟨v,H',J.os,J.bare,J.base,J.hok,rv,q⟩
 cases fl with
 | ret u =>
  obtain ⟨v,σ',H',J,rv,q⟩:=hs
  exact fin J rv q
 | next =>
  obtain ⟨σ',H',J,q⟩:=hs
  exact fin (v:=V.cP) (u:=Value.none) J rfl q
 | brk =>
  obtain ⟨_,_,_,q⟩:=hs
  exact False.elim q
 | cont =>
  obtain ⟨_,_,_,q⟩:=hs
  exact False.elim q
section
variable {X:Cx}{x:Str}{p pos:Pos}{e:Expr}{es:List Expr}{t:TA}{id T:String}{r:List V->Hp->VK->Prop}
def Ub(r:List V->Hp->VK->Prop)(t:TA):TE:=λ σ H Q=>t σ H λ vs H1=>r vs H1 Q
theorem bA(hc:cX X (.builtin id) r)(hg:Gl X x)(hm:X.mg x=none)(hv:bootBuiltins x=some (.builtin id))(ha:PA X (e :: es) t)(hn:x ≠ "__name__" := by decide)(hdb:(x == ("__debug__" : Str))=false:=by decide)
  (he:starEach (e :: es) X.env=(false,eval e X.env) :: starEach es X.env:=by rfl)(hpl:(backTo pos (starEach es X.env)).any (·.1)=false:=by rfl):PE X (.Call (.Name x p) (e :: es) [] pos) (Ub r t):=by
 intro pins s σ H Q I h
 refine wpAny_Call_Name_kw (gu I hg hm hv ?_ hn hdb)
 exact PyProof.Rows.callWith_builtin1 (cA (ha pos pins s σ H _ I h) λ us s1 ⟨vs,H1,I1,r1,q1⟩=>hc pins s1 σ H1 vs us Q I1 r1 q1) he hpl
theorem gn(hc:cX X (.type T) r)(hg:Gl X x)(hm:X.mg x=none)(hv:bootBuiltins x=some (.type T))(ha:PA X (e :: es) t)(hn:x ≠ "__name__" := by decide)(hdb:(x == ("__debug__" : Str))=false:=by decide)
  (he:starEach (e :: es) X.env=(false,eval e X.env) :: starEach es X.env:=by rfl)(hpl:(backTo pos (starEach es X.env)).any (·.1)=false:=by rfl):PE X (.Call (.Name x p) (e :: es) [] pos) (Ub r t):=by
 intro pins s σ H Q I h
 refine wpAny_Call_Name_kw (gu I hg hm hv ?_ hn hdb)
 exact iJ (cA (ha pos pins s σ H _ I h) λ us s1 ⟨vs,H1,I1,r1,q1⟩=>hc pins s1 σ H1 vs us Q I1 r1 q1) he hpl
end
end L2
namespace HT
open PySem PyProof.Rows
section
open PySem.SeqAt
open PySem.AutoSeq1 (wpAny_loadPart')
open PySem.MeetsSeq PySem.MeetsSeq2 PySem.MeetsSeq3
end
section
variable {prog:Program}{w:World}{A:Around}{E:Value->Shared->Prop}{s:Shared}
def e8(n d:Nat):Option Int->Nat
 | none=>d
 | some v=>if v < 0 then (v + (n:Int)).toNat else min v.toNat n
theorem CD(n d:Nat):e8 n d none=d:=rfl
theorem Gd(n d k:Nat):e8 n d (some (k:Int))=min k n:=by
 show (if (k:Int) < 0 then ((k:Int) + (n:Int)).toNat else min (k:Int).toNat n)=min k n
 rw [if_neg (by omega),eB]
theorem KP(n d:Nat)(hd:d <= n)(o:Option Int):e8 n d o <= n:=by
 cases o with
 | none=>exact hd
 | some v =>
  show (if v < 0 then (v + (n:Int)).toNat else min v.toNat n) <= n
  by_cases hv:v < 0
  ·rw [if_pos hv]; omega
  ·rw [if_neg hv]; exact Nat.min_le_right _ _
theorem yN(v:Int)(n d:Nat):(if v < 0 then max (v + (n:Int)) 0 else min v (n:Int))=((e8 n d (some v):Nat):Int):=by
 show (if v < 0 then max (v + (n:Int)) 0 else min v (n:Int))=(((if v < 0 then (v + (n:Int)).toNat else min v.toNat n):Nat):Int)
 by_cases hv:v < 0
 ·simp only [if_pos hv]; omega
 ·simp only [if_neg hv]; omega
theorem wN(lo hi:Option Int)(n:Nat):Builtin.Slice.sliceAdjust lo hi 1 (n:Int)=(((e8 n 0 lo:Nat):Int),((e8 n n hi:Nat):Int)):=by
 have h1:¬ ((1:Int) < 0):=by omega
 unfold Builtin.Slice.sliceAdjust
 simp only [h1,if_false]
 refine Prod.ext ?_ ?_
 ·cases lo with
  | none=>rfl
  | some v=>exact yN v n 0
 ·cases hi with
  | none=>rfl
  | some v=>exact yN v n n
theorem wO(i j:Nat):Builtin.Slice.slicePlaces (i:Int) (j:Int) 1=j - i:=by
 unfold Builtin.Slice.slicePlaces
 have h1:(1:Int) > 0:=by omega
 simp only [h1,if_true,Int.ediv_one]
 split <;> omega
theorem oJ{v:Value}{o:Option Int}{Q:Option Int->Shared->Prop}(p:IsPart v o)(h:Q o s):wpAny (model prog w) A (Builtin.Slice.slicePartIndex v) Q E s:=by
 cases p with
 | none=>exact slicePart_none h
 | int i t=>exact slicePart_int h
theorem lY{sl:Addr}{vl vu:Value}{lo hi:Option Int}{n:Nat}{Q:Int × Int × Nat->Shared->Prop}(hs:s.heap.IsSliceOf sl vl vu .none)(pl:IsPart vl lo)(pu:IsPart vu hi)
  (h:Q (((e8 n 0 lo:Nat):Int),1,e8 n n hi - e8 n 0 lo) s):wpAny (model prog w) A (Builtin.Slice.sliceApplied (.ref sl) (pure (n:Int))) Q E s:=by
 obtain ⟨os,hos,hcs,hds⟩:=id hs
 unfold Builtin.Slice.sliceApplied Builtin.Slice.sliceFields
 refine af (af (wpAny_field hos hds (x:=vl) rfl (af (wpAny_field hos hds (x:=vu) rfl (af (wpAny_field hos hds (x:=.none) rfl (aE ?_)))))))
 refine af (slicePart_none ?_)
 show wpAny _ _ (if ((1:Int) == 0)=true then _ else _) _ _ s
 rw [if_neg (by decide)]
 refine af (oJ pl (af (oJ pu (af (aE ?_)))))
 show wpAny _ _ (match Builtin.Slice.sliceAdjust lo hi 1 (n:Int) with | (lo,hi)=>pure (lo,(1:Int),Builtin.Slice.slicePlaces lo hi 1)) _ _ s
 rw [wN lo hi n]
 show wpAny _ _ (pure (((e8 n 0 lo:Nat):Int),(1:Int),Builtin.Slice.slicePlaces ((e8 n 0 lo:Nat):Int) ((e8 n n hi:Nat):Int) 1)) _ _ s
 rw [wO]
 exact aE h
theorem CF(xs:Array Value)(i k:Nat):((List.range k).filterMap λ (m:Nat)=>xs[((i:Int) + (m:Int) * 1).toNat]?).toArray=((xs.toList.drop i).take k).toArray:=by
 have e:(λ (m:Nat)=>xs[((i:Int) + (m:Int) * 1).toNat]?)=λ m=>xs[i + m]?:=by
  funext m
  have:((i:Int) + (m:Int) * 1).toNat=i + m:=by omega
  rw [this]
 rw [e]
 have:=pick_run xs i k
 rw [List.filterMap_map] at this
 have e2:((λ x=>xs[x]?) ∘ λ x=>i + x)=λ m=>xs[i + m]?:=rfl
 rw [e2] at this
 rw [this]
theorem kr{t sl:Addr}{items:Array Value}{vl vu:Value}{lo hi:Option Int}{Q:Value->Shared->Prop}(ht:IsTup s.heap t items)(hs:s.heap.IsSliceOf sl vl vu .none)(pl:IsPart vl lo)(pu:IsPart vu hi)
  (hw:¬ (e8 items.size 0 lo=0 /\ e8 items.size items.size hi=items.size))
  (h:Q (.ref s.heap.objs.size) { s with heap:=s.heap.push { cls:=.type "tuple", data:=.seq ((items.toList.drop (e8 items.size 0 lo)).take (e8 items.size items.size hi - e8 items.size 0 lo)).toArray } })
  (hsz:items.size <= sizeLine):wpAny (model prog w) A (getItem (.ref t) (.ref sl)) Q E s:=by
 have yO:sizeOk (.seq ((items.toList.drop (e8 items.size 0 lo)).take (e8 items.size items.size hi - e8 items.size 0 lo)).toArray):=by
  show ((items.toList.drop (e8 items.size 0 lo)).take (e8 items.size items.size hi - e8 items.size 0 lo)).toArray.size <= sizeLine
  rw [aM,bV,List.length_drop,bT]
  omega
 have hj:e8 items.size items.size hi <= items.size:=KP _ _ (ak _) hi
 obtain ⟨os,hos,hcs,hds⟩:=id hs
 have Yh:s.TypeIs (.ref sl) "slice" := ⟨os,hos,hcs⟩
 unfold getItem
 try with_reducible refine wpAny_holding ?_
 first | refine af (aE ?_) | skip
 refine af (wpAny_sequenceKey ht.typeIs (by decide) ?_)
 refine af (wpAny_callSpecial?_slot (name:=Str.ofString "__getitem__") ht.typeIs PyProof.Rows.slot_tuple_getitem
  (wpAny_call_entry PyProof.Rows.slot_tuple_getitem ht.typeIs entry_tuple_getitem ?_ (args_tuple_getitem _ _)))
 show wpAny _ _ (Builtin.Tuple.tupleItemsOf (.ref t) >>= _) _ _ s
 refine af (tupleItemsOf_ ht ?_)
 refine af (wpAny_typeOf Yh ?_)
 rw [if_pos (by decide)]
 refine af (lY hs pl pu ?_)
 have hno:¬ ((((e8 items.size 0 lo:Nat):Int) == 0 && (1:Int) == 1 && (e8 items.size items.size hi - e8 items.size 0 lo) == items.size)=true):=by
  intro q
  rw [mJ,mJ] at q
  have q1:((e8 items.size 0 lo:Nat):Int)=0:=eq_of_beq q.1.1
  have q2:e8 items.size items.size hi - e8 items.size 0 lo=items.size:=eq_of_beq q.2
  exact hw ⟨by omega,by omega⟩
 show wpAny _ _ (if (((e8 items.size 0 lo:Nat):Int) == 0 && (1:Int) == 1 && (e8 items.size items.size hi - e8 items.size 0 lo) == items.size)=true then _ else _) _ _ s
 rw [if_neg hno,CF]
 first
  | exact af (m:=Builtin.Tuple.tupleExact _) (wpAny_newObj_type (aE ⟨_,rfl,aE h⟩) yO)
  | exact af (m:=Builtin.Tuple.tupleExact _) (wpAny_newObj_type (af (aE (aE ⟨_,rfl,aE h⟩))) yO)
  | exact af (af (m:=Builtin.Tuple.tupleExact _) (wpAny_newObj_type (aE (aE ⟨_,rfl,aE h⟩)) yO))
  | exact af (af (m:=Builtin.Tuple.tupleExact _) (wpAny_newObj_type (aE ⟨_,rfl,aE h⟩) yO))
end
end HT
namespace L2
open PySem PySem.Spec PyProof.Rows
variable {n t':Nat}{H H':Hp}{s:Shared}{xs:List (List Key × Addr × Value)}{its:List Value}{y x:V}{u:Value}{P:Program}{w:World}{kvs:List (List Key × V)}{b:Addr}
abbrev TO:=St->Hp->(Option Int->Hp->Prop)->Prop
def PO(X:Cx)(e:Option Expr)(t:TO):Prop :=
 ∀ (pins:List (Addr × Obj)) (s:Shared) (σ:St) (H:Hp) (Q:Option Int->Hp->Prop),Inv X pins σ H s->t σ H Q ->
  wpAny (model X.prog X.w) X.A (evalPart e X.env) (λ u s'=>∃ o H',Inv X pins σ H' s' /\ IsPart u o /\ Q o H') X.xe s
def yP:TO:=λ _ H Q=>Q none H
def I0(t:TE):TO:=λ σ H Q=>t σ H λ x H1=>∃ i,x=.int i /\ Q (some i) H1
section
variable {X:Cx}{e:Expr}{te:TE}{lo hi:Option Expr}{tl th:TO}{pos p2:Pos}
theorem rT:PO X none yP:=by
 intro pins s σ H Q I h
 rw [evalPart_none]
 exact aE ⟨none,H,I,.none,h⟩
theorem rV(h:PE X e te):PO X (some e) (I0 te):=by
 intro pins s σ H Q I hw
 rw [evalPart_some]
 refine cA (h pins s σ H _ I hw) λ u s1 ⟨x,H1,I1,r1,q1⟩=>?_
 obtain ⟨i,rfl,q⟩:=q1
 obtain ⟨t,rfl⟩:=r1
 exact ⟨some i,H1,I1,.int i t,q⟩
def KQ(X:Cx)(r:V->Option Int->Option Int->Hp->VK->Prop):Prop :=
 ∀ (pins:List (Addr × Obj)) (s:Shared) (σ:St) (H:Hp) (x:V) (v vl vu:Value) (lo hi:Option Int) (sl:Addr) (Q:VK),Inv X pins σ H s->RelV x v->s.heap.IsSliceOf sl vl vu .none->IsPart vl lo->IsPart vu hi->r x lo hi H Q ->
  ∃ T id,typeLookup (.type T) "__getitem__" = pure (some (.builtin id)) /\ s.TypeIs v T /\ wpAny (model X.prog X.w) X.A (getItem v (.ref sl)) (EP X pins σ Q) X.xe s
theorem KQ.or{r r':V->Option Int->Option Int->Hp->VK->Prop}(h:KQ X r)(h':KQ X r'):KQ X (λ x lo hi H Q=>r x lo hi H Q \/ r' x lo hi H Q):=by
 intro pins s σ H x v vl vu lo hi sl Q I rx hs pl pu q
 rcases q with q | q
 ·exact h pins s σ H x v vl vu lo hi sl Q I rx hs pl pu q
 ·exact h' pins s σ H x v vl vu lo hi sl Q I rx hs pl pu q
def WZ(r:V->Option Int->Option Int->Hp->VK->Prop)(te:TE)(tl th:TO):TE:=λ σ H Q=>te σ H λ x H1=>tl σ H1 λ l H2=>th σ H2 λ u H3=>r x l u H3 Q
theorem oK{r:V->Option Int->Option Int->Hp->VK->Prop}(hr:KQ X r)(he:PE X e te)(hl:PO X lo tl)(hu:PO X hi th):PE X (.Subscript e (.Slice lo hi none p2) pos) (WZ r te tl th):=by
 intro pins s σ H Q I h
 refine Subscript_ (cA (he pins s σ H _ I h) λ v s1 ⟨x,H1,I1,r1,q1⟩=>?_)
 refine wpAny_Slice (cA (hl pins s1 σ H1 _ I1 q1) λ vl s2 ⟨l,H2,I2,pl,q2⟩=>cA (hu pins s2 σ H2 _ I2 q2) λ vu s3 ⟨u,H3,I3,pu,q3⟩=>?_)
 rw [evalPart_none]
 refine aE ?_
 have I4:Inv X pins σ H3 { s3 with heap:=s3.heap.push { cls:=.type "slice", data:=.fields #[vl,vu,.none] } }:=I3.kept (t':=s3.toks) λ b ob q=>bS _ q
 obtain ⟨T,id,hT,ht,hg⟩:=hr pins { s3 with heap:=s3.heap.push { cls:=.type "slice", data:=.fields #[vl,vu,.none] } } σ H3 x v vl vu l u s3.heap.objs.size Q I4 r1 (Heap.IsSliceOf.new ..) pl pu q3
 show wpAny (model X.prog X.w) X.A (subscriptTail e (.Slice lo hi none p2) v (.ref s3.heap.objs.size)) (EP X pins σ Q) X.xe { s3 with heap:=s3.heap.push { cls:=.type "slice", data:=.fields #[vl,vu,.none] } }
 exact tail_any (ops:=[.ref s3.heap.objs.size,v]) ht hT hg (by with_unfolding_all rfl)
def lZ(xs:List V)(lo hi:Option Int):List V:=(xs.drop (HT.e8 xs.length 0 lo)).take (HT.e8 xs.length xs.length hi - HT.e8 xs.length 0 lo)
theorem mL(xs:List V)(lo hi:Option Int):(lZ xs lo hi).length <= xs.length:=by
 unfold lZ
 rw [bV,List.length_drop]
 omega
def Oi(K:ay):V->Option Int->Option Int->Hp->VK->Prop:=λ x lo hi H Q=>∃ a xs,x=.ref a /\ gm K H a xs /\
 ¬ (HT.e8 xs.length 0 lo=0 /\ HT.e8 xs.length xs.length hi=xs.length) /\ ∀ p,H p=none->Q (.ref p) (upd H p (.tup (lZ xs lo hi)))
theorem KR:KQ X (Oi X.K):=by
 intro pins s σ H x v vl vu lo hi sl Q I rx hs pl pu h
 obtain ⟨a,xs,rfl,hx,hw,q⟩:=h
 cases rx
 obtain ⟨its,r,ht,hz⟩:=I.tuple hx
 have hlen:its.toArray.size=xs.length:=by rw [aM]; exact r.length.symm
 refine ⟨"tuple", _,PyProof.Rows.slot_tuple_getitem.lookup,ht.typeIs,?_⟩
 refine HT.kr ht hs pl pu (by rw [hlen]; exact hw) ?_ (by rw [hlen]; exact hz)
 rw [hlen]
 refine ⟨.ref s.heap.objs.size,_,I.laid (t':=s.toks) (o:=.tup (lZ xs lo hi)) (λ b ob q=>bS _ q) (ak _) ?_,rfl,q _ (I.hok.fresh (ak _))⟩
 exact ⟨br (mL xs lo hi) hz,_,(r.drop (HT.e8 xs.length 0 lo)).take (HT.e8 xs.length xs.length hi - HT.e8 xs.length 0 lo),IsTup.new _ _⟩
end
def I9(n:Nat)(i:Int):Option Nat:=if 0 <= i then (if i < n then some i.toNat else none) else if -(n:Int) <= i then some (i + n).toNat else none
def rW{α:Type}(xs:List α)(i:Int):Option α:=(I9 xs.length i).bind λ j=>xs[j]?
theorem yQ{i:Int}{j:Nat}(h:I9 n i=some j):seqIndex? i n=some j /\ j < n /\ -(n:Int) <= i /\ i < n:=by
 unfold I9 at h
 by_cases h0:0 <= i
 ·rw [if_pos h0] at h
  by_cases h1:i < n
  ·rw [if_pos h1] at h
   have e:i.toNat=j:=Option.some.inj h
   exact ⟨by rw [seqIndex_of h0 h1,e],by omega,by omega,h1⟩
  ·rw [if_neg h1] at h; cases h
 ·rw [if_neg h0] at h
  by_cases h1:-(n:Int) <= i
  ·rw [if_pos h1] at h
   have e:(i + n).toNat=j:=Option.some.inj h
   exact ⟨by rw [seqIndex_neg (by omega) h1,e],by omega,h1,by omega⟩
  ·rw [if_neg h1] at h; cases h
theorem yR{α:Type}{xs:List α}{i:Int}{v:α}(h:rW xs i=some v):∃ j,seqIndex? i xs.length=some j /\ xs[j]? = some v /\ j < xs.length /\ -(xs.length:Int) <= i /\ i < xs.length:=by
 unfold rW at h
 cases e:I9 xs.length i with
 | none=>rw [e] at h; cases h
 | some j =>
  rw [e] at h
  obtain ⟨h1,h2,h3,h4⟩:=yQ e
  exact ⟨j,h1,h,h2,h3,h4⟩
theorem fK{α:Type}{xs:List α}{j:Nat}{v:α}(h:xs[j]? = some v):rW xs (j:Int)=some v:=by
 have hj:j < xs.length:=(e9 h).1
 have e:I9 xs.length (j:Int)=some j:=by
  unfold I9
  rw [if_pos (by omega),if_pos (by omega)]; simp
 unfold rW; rw [e]; exact h
def Ge(b:Expr):Prop:=∀ o i,subscripted b false o i=operate [o,i] (getItem o i)
def Gf(X:Cx)(r:R2):Prop :=
 ∀ (value slice:Expr) (pins:List (Addr × Obj)) (s:Shared) (σ:St) (H:Hp) (x y:V) (v u:Value) (Q:VK),Inv X pins σ H s->RelV x v->RelV y u->r x y H Q ->
  subscripted slice false v u=operate [v,u] (getItem v u)->wpAny (model X.prog X.w) X.A (subscriptTail value slice v u) (EP X pins σ Q) X.xe s
def Nx(X:Cx)(id:String)(r:V->List V->Hp->VK->Prop):Prop :=
 ∀ (pins:List (Addr × Obj)) (s:Shared) (σ:St) (H:Hp) (x:V) (xs:List V) (v:Value) (us:List Value) (Q:VK),Inv X pins σ H s->RelV x v->Vals xs us->r x xs H Q ->
  wpAny (model X.prog X.w) X.A (call (.builtin id) (v :: us)) (EP X pins σ Q) X.xe s
section
variable {X:Cx}{a b:Expr}{ta tb:TE}{pos:Pos}
theorem Gf.or{r r':R2}(h:Gf X r)(h':Gf X r'):Gf X (λ x y H Q=>r x y H Q \/ r' x y H Q):=by
 intro value slice pins s σ H x y v u Q I rx ry q hs
 rcases q with q | q
 ·exact h value slice pins s σ H x y v u Q I rx ry q hs
 ·exact h' value slice pins s σ H x y v u Q I rx ry q hs
theorem Nx.or{id:String}{r r':V->List V->Hp->VK->Prop}(h:Nx X id r)(h':Nx X id r'):Nx X id (λ x xs H Q=>r x xs H Q \/ r' x xs H Q):=by
 intro pins s σ H x xs v us Q I rx rs q
 rcases q with q | q
 ·exact h pins s σ H x xs v us Q I rx rs q
 ·exact h' pins s σ H x xs v us Q I rx rs q
theorem b8{r:R2}(hr:Gf X r)(ha:PE X a ta)(hb:PE X b tb)(hs:Ge b):PE X (.Subscript a b pos) (KA r ta tb):=by
 intro pins s σ H Q I h
 exact Subscript_ (KC ha hb I h λ v u s2 x y H2 I2 rx ry q=>hr a b pins s2 σ H2 x y v u Q I2 rx ry q (hs _ _))
def KS(K:ay):R2:=λ x y H Q=>∃ p xs i v,x=.ref p /\ y=.int i /\ bI K H p xs /\ rW xs i=some v /\ Q v H
def KU(K:ay):R2:=λ x y H Q=>∃ p xs i v,x=.ref p /\ y=.int i /\ gm K H p xs /\ rW xs i=some v /\ Q v H
theorem cK:Gf X (KS X.K):=by
 intro value slice pins s σ H x y v u Q I rx ry h hs
 obtain ⟨p,xs,i,z,rfl,rfl,hq,he,q⟩:=h
 cases rx
 obtain ⟨t,rfl⟩:=ry
 obtain ⟨its,r,pl,hz⟩:=I.list hq
 obtain ⟨j,h1,h2,h3,h4,h5⟩:=yR he
 obtain ⟨w,ew,rw'⟩:=r.get h2
 have hl:=r.length
 have hn:=oH
 have fin:EP X pins σ Q w s:=⟨z,H,I,rw',q⟩
 by_cases h0:0 <= i
 ·have hj:i.toNat=j:=by
   rw [seqIndex_of h0 h5] at h1
   exact Option.some.inj h1
  exact item_listR pl.isList h0 (by omega) (by rw [hj]; simpa using ew) fin hs
 ·have hj:(i + (its.toArray.size:Int)).toNat=j:=by
   rw [seqIndex_neg (by omega) h4] at h1
   rw [aM,<- hl]
   exact Option.some.inj h1
  exact subscriptTail_builtinR (x:=w) pl.isList.typeIs slot_list_getitem.lookup
   (wpAny_getItem_list_neg (Q:=λ r s'=>r=w /\ EP X pins σ Q r s') pl.isList (by omega) (by rw [aM] <;> omega) (by omega) (by rw [hj]; simpa using ew) ⟨rfl,fin⟩) hs
theorem fF:Gf X (KU X.K):=by
 intro value slice pins s σ H x y v u Q I rx ry h hs
 obtain ⟨p,xs,i,z,rfl,rfl,hq,he,q⟩:=h
 cases rx
 obtain ⟨t,rfl⟩:=ry
 obtain ⟨its,r,pl,hz⟩:=I.tuple hq
 obtain ⟨j,h1,h2,h3,h4,h5⟩:=yR he
 obtain ⟨w,ew,rw'⟩:=r.get h2
 have hl:=r.length
 have hn:=oH
 have fin:EP X pins σ Q w s:=⟨z,H,I,rw',q⟩
 exact subscriptTail_builtinR (x:=w) pl.typeIs slot_tuple_getitem.lookup
  (getItem_tuple (j:=j) (Q:=λ r s'=>r=w /\ EP X pins σ Q r s') pl (by omega) (by omega) (by rw [aM,<- hl]; exact h1) (by simpa using ew) ⟨rfl,fin⟩) hs
theorem wQ(its:List Value)(n j:Nat)(u:Value):Obj.mapSeq (·.setIfInBounds j u) { cls:=.type "list", data:=.seq its.toArray n }={ cls:=.type "list", data:=.seq (its.set j u).toArray n }:=by
 simp [Obj.mapSeq]
theorem Inv.lst{pins:List (Addr × Obj)}{σ:St}{H:Hp}{s:Shared}{p:Addr}{xs:List V}(I:Inv X pins σ H s)(h:H p=some (.lst xs)):
  ∃ (its:List Value) (n:Nat),Vals xs its /\ s.heap.get? p=some { cls:=.type "list", data:=.seq its.toArray n } /\ xs.length <= sizeLine:=by
 obtain ⟨z,its,n,r,e⟩:=I.hok p _ h
 exact ⟨its,n,r,e,z⟩
theorem Inv.KW{pins:List (Addr × Obj)}{σ:St}{p:Addr}{xs ys:List V}{its':List Value}{n':Nat}{f:Obj->Obj}(I:Inv X pins σ H s)(h:H p=some (.lst xs))
  (ho:s.heap.get? p=some { cls:=.type "list", data:=.seq its.toArray n })(hf:f { cls:=.type "list", data:=.seq its.toArray n }={ cls:=.type "list", data:=.seq its'.toArray n' })(r:Vals ys its')(hz:ys.length <= sizeLine)(t:Nat):
  Inv X pins σ (upd H p (.lst ys)) { s with heap:=s.heap.update p f,toks:=t }:=by
 have e:(s.heap.update p f).get? p=some { cls:=.type "list", data:=.seq its'.toArray n' }:=by
  rw [c7 f ho (by rw [hf] <;> rfl),hf]
 refine I.write (x:=p) (e:=p) (by rw [h]; trivial) (.inl rfl) (λ b u hb q=>(ef _ _ (aZ hb)).trans q) ⟨_,e⟩ ?_
 exact ⟨hz,its',n',r,e⟩
def Oj:V->V->V->Hp->(Hp->Prop)->Prop:=λ o i v H Q=>∃ p xs k j,o=.ref p /\ i=.int k /\ H p=some (.lst xs) /\ I9 xs.length k=some j /\ Q (upd H p (.lst (xs.set j v)))
theorem set_list:TZ X Oj:=by
 intro pins s σ H o i v ov iv u Q I ro ri rv h
 obtain ⟨p,xs,k,j,rfl,rfl,hp,hj,q⟩:=h
 cases ro
 obtain ⟨t,rfl⟩:=ri
 obtain ⟨its,n,r,ho,hz⟩:=I.lst hp
 obtain ⟨h1,h2,h3,h4⟩:=yQ hj
 have hl:=r.length
 have hn:=oH
 have I':Inv X pins σ (upd H p (.lst (xs.set j v))) { s with heap:=s.heap.update p (Obj.mapSeq (·.setIfInBounds j u)) } :=
  I.KW hp ho (wQ its n j u) (r.set rv j) (by rw [List.length_set]; exact hz) s.toks
 by_cases h0:0 <= k
 ·have hk:k.toNat=j:=by
   rw [seqIndex_of h0 h4] at h1
   exact Option.some.inj h1
  exact PySem.W.ki_setAt ho h0 (by omega) (by rw [aM,<- hl]; exact h4) (by rw [hk]; exact ⟨_,I',q⟩)
 ·have hk:(k + (its.toArray.size:Int)).toNat=j:=by
   rw [seqIndex_neg (by omega) h3] at h1
   rw [aM,<- hl]
   exact Option.some.inj h1
  exact PySem.W.ki_setBack ho (by omega) (by rw [aM,<- hl]; exact h3) (by omega) (by rw [hk]; exact ⟨_,I',q⟩)
theorem rX(lo hi:Option Int)(n:Nat):(sliceBounds lo hi none n).1=((HT.e8 n 0 lo:Nat):Int) /\ (sliceBounds lo hi none n).2.1=((HT.e8 n n hi:Nat):Int) /\ (sliceBounds lo hi none n).2.2=1:=by
 refine ⟨?_,?_,rfl⟩
 ·cases lo with
  | none=>simp [sliceBounds,HT.e8]
  | some i =>
   simp only [sliceBounds,HT.e8,Option.getD_none,show (1:Int) > 0 by decide,if_true]
   by_cases h:i < 0
   ·simp only [h,if_true] <;> omega
   ·simp only [h,if_false] <;> omega
 ·cases hi with
  | none=>simp [sliceBounds,HT.e8]
  | some i =>
   simp only [sliceBounds,HT.e8,Option.getD_none,show (1:Int) > 0 by decide,if_true]
   by_cases h:i < 0
   ·simp only [h,if_true] <;> omega
   ·simp only [h,if_false] <;> omega
theorem qm(its:List Value)(lo hi:Option Int):slicePick its.toArray lo hi none=((its.drop (HT.e8 its.length 0 lo)).take (HT.e8 its.length its.length hi - HT.e8 its.length 0 lo)).toArray:=by
 obtain ⟨h1,h2,h3⟩:=rX lo hi its.toArray.size
 unfold slicePick
 rw [h1,h2,h3]
 simp only [sliceRange_one,pick_run,aM] <;> rfl
def Ol(K:ay):V->Option Int->Option Int->Hp->VK->Prop:=λ x lo hi H Q=>∃ a xs,x=.ref a /\ bI K H a xs /\ ∀ p,H p=none->Q (.ref p) (upd H p (.lst (lZ xs lo hi)))
theorem yS:KQ X (Ol X.K):=by
 intro pins s σ H x v vl vu lo hi sl Q I rx hs pl pu h
 obtain ⟨a,xs,rfl,hx,q⟩:=h
 cases rx
 obtain ⟨its,r,ht,hz⟩:=I.list hx
 have hlen:=r.length
 refine ⟨"list", _,slot_list_getitem.lookup,ht.isList.typeIs,?_⟩
 refine wpAny_getItem_list_slice ht.isList hs pl pu .none (by simp) ?_ (by rw [aM] <;> omega)
 rw [qm,<- hlen]
 refine ⟨.ref s.heap.objs.size,_,I.laid (t':=s.toks) (o:=.lst (lZ xs lo hi)) (λ b ob q=>bS _ q) (ak _) ?_,rfl,q _ (I.hok.fresh (ak _))⟩
 exact ⟨br (mL xs lo hi) hz,_,0,(r.drop (HT.e8 xs.length 0 lo)).take (HT.e8 xs.length xs.length hi - HT.e8 xs.length 0 lo),fJ _ rfl⟩
def iS:V->Bool
 | .cP=>true
 | .bl _=>true
 | .int _=>true
 | .str _=>true
 | _=>false
def Gg:V->V->Bool
 | .cP,.cP=>true
 | .bl a,.bl b=>a == b
 | .bl a,.int b=>(if a then 1 else 0) == b
 | .int a,.bl b=>a == (if b then 1 else 0)
 | .int a,.int b=>a == b
 | .str a,.str b=>a == b
 | _,_=>false
theorem KY{A:Around}{v:Value}(ry:RelV y u)(rx:RelV x v)(fy:iS y=true)(fx:iS x=true):SeqAt.EqAt A s u v (Gg y x):=by
 cases y with
 | cP =>
  cases ry
  cases x with
  | cP=>cases rx; exact SeqAt.EqAt.same _
  | bl b=>cases rx; exact SeqAt.EqAt.none_bool b
  | int b=>obtain ⟨t,rfl⟩:=rx; exact SeqAt.EqAt.none_int b t
  | str b=>obtain ⟨t,rfl⟩:=rx; exact SeqAt.EqAt.none_str b t
  | _=>exact absurd (show false=true from fx) iD
 | bl a =>
  cases ry
  cases x with
  | cP=>cases rx; exact SeqAt.EqAt.bool_none a
  | bl b=>cases rx; exact SeqAt.EqAt.bool_bool a b
  | int b=>obtain ⟨t,rfl⟩:=rx; exact SeqAt.EqAt.bool_int a b t
  | str b=>obtain ⟨t,rfl⟩:=rx; exact SeqAt.EqAt.bool_str a b t
  | _=>exact absurd (show false=true from fx) iD
 | int a =>
  obtain ⟨t',rfl⟩:=ry
  cases x with
  | cP=>cases rx; exact SeqAt.EqAt.int_none a t'
  | bl b=>cases rx; exact SeqAt.EqAt.int_bool a t' b
  | int b=>obtain ⟨t,rfl⟩:=rx; exact SeqAt.EqAt.int_int a t' b t
  | str b=>obtain ⟨t,rfl⟩:=rx; exact SeqAt.EqAt.int_str a t' b t
  | _=>exact absurd (show false=true from fx) iD
 | str a =>
  obtain ⟨t',rfl⟩:=ry
  cases x with
  | cP=>cases rx; exact SeqAt.EqAt.str_none a t'
  | bl b=>cases rx; exact SeqAt.EqAt.str_bool a t' b
  | int b=>obtain ⟨t,rfl⟩:=rx; exact SeqAt.EqAt.str_int a t' b t
  | str b=>obtain ⟨t,rfl⟩:=rx; exact SeqAt.EqAt.str_str a t' b t
  | _=>exact absurd (show false=true from fx) iD
 | _=>exact absurd (show false=true from fy) iD
def wR(x:V)(u:Value):Bool:=match u with
 | .none=>Gg .cP x
 | .bool b=>Gg (.bl b) x
 | .int i _=>Gg (.int i) x
 | .str z _=>Gg (.str z) x
 | _=>false
theorem CG(r:RelV y u)(f:iS y=true):wR x u=Gg y x:=by
 cases y with
 | cP=>cases r; rfl
 | bl b=>cases r; rfl
 | int i=>obtain ⟨t,rfl⟩:=r; rfl
 | str z=>obtain ⟨t,rfl⟩:=r; rfl
 | _=>exact absurd (show false=true from f) iD
theorem ku{x:V}:∀ {xs:List V} {us:List Value},Vals xs us->xs.all iS=true->us.any (wR x)=xs.any λ y=>Gg y x
 | _,_,.nil,_=>rfl
 | y :: xs,u :: us,.cons r t,f=>by
  rw [List.all_cons,mJ] at f
  rw [gP,gP,CG r f.1,ku t f.2]
theorem jg{A:Around}{s:Shared}{x:V}{v:Value}(rx:RelV x v)(fx:iS x=true):∀ {xs:List V} {us:List Value},Vals xs us->xs.all iS=true->∀ u∈us,SeqAt.EqAt A s u v (wR x u)
 | _,_,.nil,_=>λ u hu=>by cases hu
 | y :: xs,u :: us,.cons r t,f=>λ u' hu=>by
  rw [List.all_cons,mJ] at f
  rcases aB.mp hu with rfl | hu
  ·rw [CG r f.1]; exact KY r rx f.1 fx
  ·exact jg rx fx t f.2 u' hu
def tF(x:V)(xs:List V):Bool:=xs.any λ y=>Gg y x
def R1(K:ay)(neg:Bool):R2:=λ x y H Q=>∃ p xs,y=.ref p /\ (bI K H p xs \/ gm K H p xs) /\ iS x=true /\ xs.all iS=true /\ Q (.bl (if neg then !tF x xs else tF x xs)) H
theorem ic:kg X (compareOp .In) (R1 X.K false):=by
 intro pins s σ H x y v u Q I rx ry h
 obtain ⟨p,xs,rfl,hq,fx,fs,q⟩:=h
 cases ry
 rcases hq with hq | hq
 ·obtain ⟨its,r,pl,hz⟩:=I.list hq
  refine SeqAt.in_listAt (wR x) pl.isList (λ w hw=>jg rx fx r fs w (by simpa using hw)) ⟨.bl _,H,I,rfl,?_⟩
  rw [show its.toArray.any (wR x)=its.any (wR x) by simp,ku r fs]
  exact q
 ·obtain ⟨its,r,pl,hz⟩:=I.tuple hq
  refine SeqAt.in_tupleAt (wR x) pl (λ w hw=>jg rx fx r fs w (by simpa using hw)) ⟨.bl _,H,I,rfl,?_⟩
  rw [show its.toArray.any (wR x)=its.any (wR x) by simp,ku r fs]
  exact q
theorem rY:kg X (compareOp .NotIn) (R1 X.K true):=by
 intro pins s σ H x y v u Q I rx ry h
 obtain ⟨p,xs,rfl,hq,fx,fs,q⟩:=h
 cases ry
 rcases hq with hq | hq
 ·obtain ⟨its,r,pl,hz⟩:=I.list hq
  refine SeqAt.notIn_listAt (wR x) pl.isList (λ w hw=>jg rx fx r fs w (by simpa using hw)) ⟨.bl _,H,I,rfl,?_⟩
  rw [show its.toArray.any (wR x)=its.any (wR x) by simp,ku r fs]
  exact q
 ·obtain ⟨its,r,pl,hz⟩:=I.tuple hq
  refine SeqAt.notIn_tupleAt (wR x) pl (λ w hw=>jg rx fx r fs w (by simpa using hw)) ⟨.bl _,H,I,rfl,?_⟩
  rw [show its.toArray.any (wR x)=its.any (wR x) by simp,ku r fs]
  exact q
theorem rZ:cX X (.builtin "len") (λ xs H Q=>∃ p ys,xs=[.ref p] /\ (bI X.K H p ys \/ gm X.K H p ys) /\ Q (.int ys.length) H):=by
 intro pins s σ H xs us Q I r h
 obtain ⟨p,ys,rfl,hq,q⟩:=h
 obtain ⟨u,rfl,rx⟩:=vals1 r
 cases rx
 have hn:=oH
 rcases hq with hq | hq
 ·obtain ⟨its,r',pl,hz⟩:=I.list hq
  have hlen:=r'.length
  exact Calls.call_len_list pl.isList (by simp only [aM] <;> omega) ⟨.int ys.length,H,I.tok _,⟨s.toks + 1,by rw [aM,hlen]⟩,q⟩
 ·obtain ⟨its,r',pl,hz⟩:=I.tuple hq
  have hlen:=r'.length
  exact len_tuple pl (by simp only [aM] <;> omega) ⟨.int ys.length,H,I.tok _,⟨s.toks + 1,by rw [aM,hlen]⟩,q⟩
theorem cX.or{f:Value}{r r':List V->Hp->VK->Prop}(h:cX X f r)(h':cX X f r'):cX X f (λ xs H Q=>r xs H Q \/ r' xs H Q):=by
 intro pins s σ H xs us Q I rs q
 rcases q with q | q
 ·exact h pins s σ H xs us Q I rs q
 ·exact h' pins s σ H xs us Q I rs q
theorem r6:cX X (.type "list") (λ xs H Q=>∃ p ys,xs=[.ref p] /\ (bI X.K H p ys \/ gm X.K H p ys) /\ ∀ l,H l=none->Q (.ref l) (upd H l (.lst ys))):=by
 intro pins s σ H xs us Q I r h
 obtain ⟨p,ys,rfl,hq,q⟩:=h
 obtain ⟨u,rfl,rx⟩:=vals1 r
 cases rx
 have fin:∀ (its:List Value),Vals ys its->ys.length <= sizeLine->∀ (h':Heap) (c':Nat),(∀ b o',s.heap.get? b=some o'->h'.get? b=some o') ->
   h'.get? s.heap.objs.size=some { cls:=.type "list", dict:=none,data:=.seq its.toArray c',slots:=#[] } -> EP X pins σ Q (.ref s.heap.objs.size) { s with heap:=h' }:=λ its r' hz h' c' kp e =>
  ⟨.ref s.heap.objs.size,_,I.laid (t':=s.toks) kp (ak _) (show bU X.prog X.w _ h' _ (.lst ys) from ⟨hz,its,c',r',e⟩),rfl,q _ (I.hok.fresh (ak _))⟩
 rcases hq with hq | hq
 ·obtain ⟨its,r',pl,hz⟩:=I.list hq
  have hlen:=r'.length
  obtain ⟨o,ho,hc,n,hd⟩:=pl.isList
  exact call_list_seq p (.inl rfl) ho hc hd (λ h' c' kp e=>fin its r' hz h' c' kp e) (by simp only [aM] <;> omega)
 ·obtain ⟨its,r',pl,hz⟩:=I.tuple hq
  have hlen:=r'.length
  obtain ⟨o,ho,hc,n,hd⟩:=pl
  exact call_list_seq p (.inr rfl) ho hc hd (λ h' c' kp e=>fin its r' hz h' c' kp e) (by simp only [aM] <;> omega)
def Ny(K:ay)(T:String)(x:V)(H:Hp):Prop:=match x with
 | .str _=>T = "str"
 | .int _=>T = "int"
 | .ref p=>(T = "list" /\ ∃ xs,bI K H p xs) \/ (T = "tuple" /\ ∃ o,K.lookup p=some o /\ o.cls=.type "tuple" /\ o.dict=none) \/
   (T = "dict" /\ ((∃ kvs,H p=some (.dK kvs)) \/ ∃ kvs,H p=some (.dT kvs))) \/ (T = "set" /\ ∃ S n,H p=some (.set S n))
 | _=>False
theorem CH{pins:List (Addr × Obj)}{σ:St}{T:String}{v:Value}(I:Inv X pins σ H s)(r:RelV x v)(ty:Ny X.K T x H):
  s.TypeIs v T /\ ∀ a,v=.ref a->∃ ob,s.heap.get? a=some ob /\ ob.dict=none:=by
 cases x with
 | str z =>
  obtain ⟨t,rfl⟩:=r
  cases (show T = "str" from ty)
  exact ⟨typeIs_str s z t,λ _ e=>nomatch e⟩
 | int i =>
  obtain ⟨t,rfl⟩:=r
  cases (show T = "int" from ty)
  exact ⟨typeIs_int s i t,λ _ e=>nomatch e⟩
 | ref p =>
  cases r
  rcases ty with ⟨rfl,xs,hq⟩ | ⟨rfl,o,hk,hc,hd⟩ | ⟨rfl,hk⟩ | ⟨rfl,S,n,hk⟩
  ·obtain ⟨its,_,pl,_⟩:=I.list hq
   refine ⟨pl.isList.typeIs,λ a e=>?_⟩
   cases e
   obtain ⟨o,n,e,c,hd,_⟩:=pl
   exact ⟨o,e,hd⟩
  ·refine ⟨⟨o,I.rO p o hk,hc⟩,λ a e=>?_⟩
   cases e
   exact ⟨o,I.rO _ o hk,hd⟩
  ·have z:∃ o,s.heap.get? p=some o /\ o.ExactDict:=by
    rcases hk with ⟨kvs,hk⟩ | ⟨kvs,hk⟩
    ·obtain ⟨_,_,_,_,o,_,_,e,ex,_⟩:=I.hok p _ hk
     exact ⟨o,e,ex⟩
    ·obtain ⟨_,_,_,_,o,_,_,e,ex,_⟩:=I.hok p _ hk
     exact ⟨o,e,ex⟩
   obtain ⟨o,e,ex⟩:=z
   refine ⟨⟨o,e,ex.1⟩,λ a e2=>?_⟩
   cases e2
   exact ⟨o,e,ex.2.1⟩
  ·obtain ⟨o,_,_,_,e,ex,_⟩:=I.hok p _ hk
   refine ⟨⟨o,e,ex.1⟩,λ a e2=>?_⟩
   cases e2
   exact ⟨o,e,ex.2.1⟩
 | _=>exact False.elim ty
def Om(K:ay)(T:String)(r:V->List V->Hp->VK->Prop)(to:TE):TE:=λ σ H Q=>to σ H λ x H1=>Ny K T x H1 /\ r x [] H1 Q
def W2(K:ay)(T:String)(r:V->List V->Hp->VK->Prop)(to:TE)(t:TA):TE:=λ σ H Q=>to σ H λ x H1=>Ny K T x H1 /\ t σ H1 λ xs H2=>r x xs H2 Q
variable {o e:Expr}{es:List Expr}{to:TE}{t:TA}{name:Str}{apos cpos:Pos}{T id:String}{r:V->List V->Hp->VK->Prop}
theorem CJ(pa:PlainAttrs T)(slot:Slot T name id)(hty:typeOf (.builtin id)=pure (.type "method_descriptor"))(hm:Nx X id r)(ho:PE X o to)
  (hbase:attributeBase o name X.env (eval o X.env)=eval o X.env:=by rfl)(hline:(apos.endLine == cpos.line)=true:=by rfl):PE X (.Call (.Attribute o name apos) [] [] cpos) (Om X.K T r to):=by
 intro pins s σ H Q I h
 refine wpAny_Call_method0_late hbase hline (cA (ho pins s σ H _ I h) λ v s1 ⟨x,H1,I1,r1,ty,q1⟩=>?_)
 obtain ⟨h1,h2⟩:=CH I1 r1 ty
 exact ⟨T,id,pa,slot,hty,h1,h2,nT rfl (PySem.evalArgs_none (hm pins s1 σ H1 x [] v [] Q I1 r1 .nil q1))⟩
theorem fW(pa:PlainAttrs T)(slot:Slot T name id)(hty:typeOf (.builtin id)=pure (.type "method_descriptor"))(hm:Nx X id r)(ho:PE X o to)(ha:PA X (e :: es) t)
  (hbase:attributeBase o name X.env (eval o X.env)=eval o X.env:=by rfl)
  (hfew:((backTo cpos (starEach (e :: es) X.env)).all (λ x=>!x.1) && (backToKw cpos (keywordEach [] X.env)).all (λ x=>x.1.isSome)
   && decide ((e :: es).length + ([]:List Keyword).length + (if ([]:List Keyword).isEmpty then 0 else 1) < 30))=true:=by rfl)
  (hline:(apos.endLine == cpos.line)=true:=by rfl)(hs:starEach (e :: es) X.env=(false,eval e X.env) :: starEach es X.env:=by rfl)(hplain:(backTo cpos (starEach es X.env)).any (·.1)=false:=by rfl):
  PE X (.Call (.Attribute o name apos) (e :: es) [] cpos) (W2 X.K T r to t):=by
 intro pins s σ H Q I h
 refine wpAny_Call_method_late hbase hfew hline rfl (cA (ho pins s σ H _ I h) λ v s1 ⟨x,H1,I1,r1,ty,q1⟩=>?_)
 obtain ⟨h1,h2⟩:=CH I1 r1 ty
 refine ⟨T,id,pa,slot,hty,h1,h2,?_⟩
 have hA:=ha cpos pins s1 σ H1 _ I1 q1
 rw [hs] at hA ⊢
 refine nT (by show (false || (backTo cpos (starEach es X.env)).any (·.1))=false; rw [hplain] <;> rfl) (Calls.evalArgs_plain ?_)
 exact cA hA λ us s2 ⟨vs,H2,I2,r2,q2⟩=>hm pins s2 σ H2 x vs v us Q I2 r1 r2 q2
end
def R3(X:Cx)(id:String)(r:V->List V->Hp->VK->Prop):Prop :=
 ∀ (pins:List (Addr × Obj)) (s:Shared) (σ:St) (H:Hp) (x:V) (xs:List V) (v:Value) (us:List Value) (Q:VK),Inv X pins σ H s->RelV x v->Vals xs us->r x xs H Q ->
  wpAny (model X.prog X.w) X.A (call (.builtin id) (v :: us)) (EP X pins σ Q) X.xe s
theorem Vals.one:∀ {x:V} {us:List Value},Vals [x] us->∃ u,us=[u] /\ RelV x u
 | _,_,.cons r .nil=>⟨_,rfl,r⟩
theorem Vals.zero:∀ {us:List Value},Vals [] us->us=[]
 | _,.nil=>rfl
theorem Vals.dropLast{xs:List V}{us:List Value}(h:Vals xs us):Vals xs.dropLast us.dropLast:=by
 induction h with
 | nil=>exact .nil
 | cons r t ih =>
  cases t with
  | nil=>exact .nil
  | cons q t'=>exact .cons r ih
theorem Vals.eraseIdx:∀ {xs:List V} {us:List Value} (i:Nat),Vals xs us->Vals (xs.eraseIdx i) (us.eraseIdx i)
 | _,_,_,.nil=>.nil
 | _,_,0,.cons _ t=>t
 | _,_,i + 1,.cons r t=>.cons r (Vals.eraseIdx i t)
theorem Vals.reverse{xs:List V}{us:List Value}(h:Vals xs us):Vals xs.reverse us.reverse:=by
 induction h with
 | nil=>exact .nil
 | cons r t ih=>rw [List.reverse_cons,List.reverse_cons]; exact Vals.append ih (.cons r .nil)
theorem wU{α:Type}(l:List α):l.eraseIdx (l.length - 1)=l.dropLast:=by
 induction l with
 | nil=>rfl
 | cons a r ih =>
  cases r with
  | nil=>rfl
  | cons b r =>
   have e:(a :: b :: r).length - 1=((b :: r).length - 1) + 1:=by
    have h1:(a :: b :: r).length=r.length + 2:=rfl
    have h2:(b :: r).length=r.length + 1:=rfl
    omega
   rw [e,rN,ih]
   all_goals rfl
theorem qI{α:Type}:∀ (l:List α) (i:Nat),(l.eraseIdx i).length <= l.length
 | [],_=>ak _
 | _ :: _,0=>gT _
 | _ :: r,i + 1=>Nat.succ_le_succ (qI r i)
section
variable {X:Cx}{pins:List (Addr × Obj)}{σ:St}{H:Hp}{s:Shared}{l b:Addr}{xs ys zs:List V}
theorem Inv.Gh{its':List Value}{f:Array Value->Array Value}(I:Inv X pins σ H s)(hH:H l=some (.lst xs))
  (e:s.heap.get? l=some { cls:=.type "list", data:=.seq its.toArray n })(hf:f its.toArray=its'.toArray)(hv:Vals ys its')(hz:ys.length <= sizeLine):
  Inv X pins σ (upd H l (.lst ys)) { s with heap:=s.heap.update l (Obj.mapSeq f),toks:=t' }:=by
 have q:=PySem.IsL.update e f
 rw [hf] at q
 refine I.write (x:=l) (e:=l) (by rw [hH]; exact trivial) (.inl rfl) (λ b' u hb hu=>(ef s.heap (Obj.mapSeq f) (aZ hb)).trans hu) ⟨_,q⟩ ?_
 exact ⟨hz,its',_,hv,q⟩
theorem Inv.Uc(I:Inv X pins σ H s)(hv:Vals ys its)(hz:ys.length <= sizeLine):
  Inv X pins σ (upd H s.heap.objs.size (.lst ys)) { s with heap:=s.heap.push { cls:=.type "list", data:=.seq its.toArray },toks:=t' } :=
 I.laid (λ _ _ q=>bS _ q) (ak _) ⟨hz,its,0,hv,fJ _ rfl⟩
theorem Inv.fresh(I:Inv X pins σ H s):H s.heap.objs.size=none:=I.hok.fresh (ak _)
theorem Inv.wV(I:Inv X pins σ H s)(hH:H l=some (.lst xs)):xs.length <= sizeLine /\ ∃ (its:List Value) (n:Nat),Vals xs its /\ xs.length=its.length /\ s.heap.get? l=some { cls:=.type "list", data:=.seq its.toArray n }:=by
 obtain ⟨z,its,n,r,e⟩:=I.hok l _ hH
 exact ⟨z,its,n,r,r.length,e⟩
theorem CK(h:n <= sizeLine):Builtin.List.listTooLong n=false:=by
 unfold Builtin.List.listTooLong
 exact decide_eq_false (by omega)
end
section
variable {X:Cx}
def yT:V->List V->Hp->VK->Prop:=λ x vs H Q=>∃ l xs y,x=.ref l /\ vs=[y] /\ H l=some (.lst xs) /\ xs.length < sizeLine /\ Q .cP (upd H l (.lst (xs++[y])))
theorem cN:R3 X "list.append" yT:=by
 intro pins s σ H x vs v us Q I rx rv h
 obtain ⟨l,xs,y,rfl,rfl,hH,hz,q⟩:=h
 cases rx
 obtain ⟨u,rfl,ru⟩:=rv.one
 obtain ⟨z,its,n,r,hl,e⟩:=I.wV hH
 refine call_meets F.slot_list_append ⟨_,e,rfl⟩ F.entry_list_append (F.args_list_append_2 _ _) (PySem.list_append l its.toArray n u (by rw [aM]; omega)) ⟨e,?_⟩
 refine ⟨.cP,_,I.Gh (its':=its++[u]) hH e (by simp) (r.append (.cons ru .nil)) ?_,rfl,q⟩
 rw [aN,dW]
 omega
def yU:V->List V->Hp->VK->Prop:=λ x vs H Q=>∃ l b xs zs,x=.ref l /\ vs=[.ref b] /\ H l=some (.lst xs) /\ H b=some (.lst zs) /\ xs.length + zs.length <= sizeLine /\ Q .cP (upd H l (.lst (xs++zs)))
theorem jw:R3 X "list.extend" yU:=by
 intro pins s σ H x vs v us Q I rx rv h
 obtain ⟨l,b,xs,zs,rfl,rfl,hH,hB,hz,q⟩:=h
 cases rx
 obtain ⟨u,rfl,ru⟩:=rv.one
 cases ru
 obtain ⟨z,its,n,r,hl,e⟩:=I.wV hH
 obtain ⟨z2,its2,n2,r2,hl2,e2⟩:=I.wV hB
 have hsz:its.toArray.size + its2.toArray.size <= sizeLine:=by rw [aM,aM]; omega
 have Oo:¬ (!its.toArray.isEmpty && Builtin.List.listTooLong (its.toArray.size + its2.toArray.size))=true:=by
  rw [CK hsz,Bool.and_false]
  exact iD
 refine call_meets F.slot_list_extend ⟨_,e,rfl⟩ F.entry_list_extend (F.args_list_extend_2 _ _)
  (AutoSeq1.list_extend_list_list_0 l its.toArray n b its2.toArray n2 Oo (by rw [aM]; omega) (by omega)) ⟨e,e2,?_⟩
 refine ⟨.cP,_,I.Gh (its':=its++its2) hH e (by simp) (r.append r2) ?_,rfl,q⟩
 rw [aN]
 omega
def Oq:V->List V->Hp->VK->Prop:=λ x vs H Q=>∃ l xs y,x=.ref l /\ vs=[] /\ H l=some (.lst xs) /\ xs[xs.length - 1]? = some y /\ Q y (upd H l (.lst xs.dropLast))
theorem CL:R3 X "list.pop" Oq:=by
 intro pins s σ H x vs v us Q I rx rv h
 obtain ⟨l,xs,y,rfl,rfl,hH,hy,q⟩:=h
 cases rx
 have jy:=rv.zero
 subst jy
 obtain ⟨z,its,n,r,hl,e⟩:=I.wV hH
 obtain ⟨u,hu,ru⟩:=r.get hy
 have hy':its.toArray[its.toArray.size - 1]? = some u:=by
  show its.toArray[its.length - 1]? = some u
  rw [<- c6,<- hl]
  exact hu
 refine call_meets F.slot_list_pop ⟨_,e,rfl⟩ F.entry_list_pop (F.args_list_pop_1 _) (MeetsSeq.list_pop_last l its.toArray n u hy' (by rw [aM]; omega)) ⟨e,?_⟩
 refine ⟨y,_,I.Gh (its':=its.dropLast) hH e ?_ r.dropLast ?_,ru,q⟩
 ·show its.toArray.eraseIdxIfInBounds (its.toArray.size - 1)=its.dropLast.toArray
  rw [aM,List.eraseIdxIfInBounds_toArray,wU]
 ·rw [List.length_dropLast]
  omega
def CM:V->List V->Hp->VK->Prop:=λ x vs H Q=>∃ l xs i k y,x=.ref l /\ vs=[.int i] /\ H l=some (.lst xs) /\ -(2 ^ 63) <= i /\ i < 2 ^ 63 /\ seqIndex? i xs.length=some k /\ xs[k]? = some y /\ Q y (upd H l (.lst (xs.eraseIdx k)))
theorem CN:R3 X "list.pop" CM:=by
 intro pins s σ H x vs v us Q I rx rv h
 obtain ⟨l,xs,i,k,y,rfl,rfl,hH,h1,h2,hk,hy,q⟩:=h
 cases rx
 obtain ⟨u,rfl,ru⟩:=rv.one
 obtain ⟨t,rfl⟩:=ru
 obtain ⟨z,its,n,r,hl,e⟩:=I.wV hH
 obtain ⟨w,hw,rw'⟩:=r.get hy
 refine call_meets F.slot_list_pop ⟨_,e,rfl⟩ F.entry_list_pop (F.args_list_pop_2 _ _)
  (MeetsSeq.list_pop_at l its.toArray n i t k w (fitsIndex_both h1 h2) (by rw [aM,<- hl]; exact hk) (by rw [<- c6]; exact hw) (by rw [aM]; omega)) ⟨e,?_⟩
 refine ⟨y,_,I.Gh (its':=its.eraseIdx k) hH e ?_ (r.eraseIdx k) ?_,rw',q⟩
 ·show its.toArray.eraseIdxIfInBounds k=(its.eraseIdx k).toArray
  rw [List.eraseIdxIfInBounds_toArray]
 ·have:=qI xs k
  omega
def Ot:R2:=λ x y H Q=>∃ l b xs zs,x=.ref l /\ y=.ref b /\ H l=some (.lst xs) /\ H b=some (.lst zs) /\ xs.length + zs.length <= sizeLine /\ ∀ p,H p=none->Q (.ref p) (upd H p (.lst (xs++zs)))
theorem KZ:kg X (binaryOp .Add) Ot:=by
 intro pins s σ H x y v u Q I rx ry h
 obtain ⟨l,b,xs,zs,rfl,rfl,hH,hB,hz,q⟩:=h
 cases rx
 cases ry
 obtain ⟨z,its,n,r,hl,e⟩:=I.wV hH
 obtain ⟨z2,its2,n2,r2,hl2,e2⟩:=I.wV hB
 refine PySem.P.add_list e e2 ?_ (by rw [aM,aM]; omega)
 have ea:its.toArray++its2.toArray=(its++its2).toArray:=by simp
 rw [ea]
 exact ⟨.ref _,_,I.Uc (t':=s.toks) (r.append r2) (by rw [aN]; omega),rfl,q _ I.fresh⟩
end
section
variable {prog:Program}{w:World}{A:Around}{E:Value->Shared->Prop}{s:Shared}
end
section
variable {X:Cx}
end
section
variable {κ:Type} [DecidableEq κ]
def ie(kvs:List (κ × V))(k:κ):Option V:=(kvs.find? λ kv=>decide (kv.1=k)).map (·.2)
def putK(kvs:List (κ × V))(k:κ)(v:V):List (κ × V) :=
 if (kvs.any λ kv=>decide (kv.1=k))=true then kvs.map (λ kv=>if kv.1=k then (kv.1,v) else kv) else kvs++[(k,v)]
def Ja(kvs:List (κ × V))(k:κ):List (κ × V):=kvs.filter λ kv=>decide (kv.1 ≠ k)
theorem oM{p:κ × V}{r:List (κ × V)}{k:κ}(e:p.1=k):ie (p :: r) k=some p.2:=by simp [ie,fu,e]
theorem oN{p:κ × V}{r:List (κ × V)}{k:κ}(e:¬ p.1=k):ie (p :: r) k=ie r k:=by simp [ie,fu,e]
theorem kB(k:κ):∀ kvs:List (κ × V),(kvs.any λ kv=>decide (kv.1=k))=(ie kvs k).isSome
 | []=>rfl
 | p :: r=>by
  rw [gP]
  by_cases e:p.1=k
  ·simp only [oM e,decide_eq_true e,Bool.true_or,Option.isSome_some]
  ·rw [oN e,decide_eq_false e,Bool.false_or]; exact kB k r
theorem jh(kvs:List (κ × V))(k:κ)(v:V):(putK kvs k v).length <= kvs.length + 1:=by
 unfold putK
 split
 ·rw [aq]; omega
 ·rw [aN,dI,List.length_nil]; omega
theorem jZ.jz{o:Option V}{u:Option Value}(r:jZ o u):o.isSome=u.isSome:=by
 cases o with
 | none=>cases u with
  | none=>rfl
  | some _=>exact (show False from r).elim
 | some _=>cases u with
  | none=>exact (show False from r).elim
  | some _=>rfl
theorem jZ.getD{o:Option V}{u:Option Value}{d:V}{d':Value}(r:jZ o u)(rd:RelV d d'):RelV (o.getD d) (u.getD d'):=by
 cases o with
 | none=>cases u with
  | none=>exact rd
  | some _=>exact (show False from r).elim
 | some _=>cases u with
  | none=>exact (show False from r).elim
  | some _=>exact r
theorem KV.val{kvs:List (κ × V)}{vs:List (κ × Value)}(r:KV kvs vs)(k:κ):jZ (ie kvs k) (valueAt vs k):=by
 unfold KV at r
 induction r with
 | nil=>exact dQ
 | @cons p q ps qs h t ih =>
  obtain ⟨h1,h2⟩:=h
  by_cases e:p.1=k
  ·have e':q.1=k:=h1.symm.trans e
   have b:valueAt (q :: qs) k=some q.2:=by simp [valueAt,fu,e']
   rw [oM e,b]; exact h2
  ·have e':¬ q.1=k:=λ z=>e (h1.trans z)
   have b:valueAt (q :: qs) k=valueAt qs k:=by simp [valueAt,fu,e']
   rw [oN e,b]; exact ih
theorem KV.any{kvs:List (κ × V)}{vs:List (κ × Value)}(r:KV kvs vs)(k:κ):(kvs.any λ kv=>decide (kv.1=k))=vs.any λ kv=>decide (kv.1=k):=by
 unfold KV at r
 induction r with
 | nil=>rfl
 | cons h t ih=>rw [gP,gP,ih,h.1]
theorem KV.repl{kvs:List (κ × V)}{vs:List (κ × Value)}(r:KV kvs vs)(k:κ)(ry:RelV y u):
  KV (kvs.map λ kv=>if kv.1=k then (kv.1,y) else kv) (vs.map λ kv=>if kv.1=k then (kv.1,u) else kv):=by
 unfold KV at r ⊢
 induction r with
 | nil=>exact .nil
 | @cons p q ps qs h t ih =>
  rw [bq,bq]
  refine .cons ?_ ih
  obtain ⟨h1,h2⟩:=h
  by_cases e:p.1=k
  ·rw [if_pos e,if_pos (h1.symm.trans e)]; exact ⟨h1,ry⟩
  ·rw [if_neg e,if_neg (λ z=>e (h1.trans z))]; exact ⟨h1,h2⟩
theorem KV.put{kvs:List (κ × V)}{vs:List (κ × Value)}(r:KV kvs vs)(k:κ)(ry:RelV y u):KV (putK kvs k y) (stored vs k u):=by
 unfold putK stored
 rw [r.any k]
 by_cases e:(vs.any λ kv=>decide (kv.1=k))=true
 ·rw [if_pos e,if_pos e]; exact r.repl k ry
 ·rw [if_neg e,if_neg e]; exact bQ r ⟨rfl,ry⟩
theorem KV.drop{kvs:List (κ × V)}{vs:List (κ × Value)}(r:KV kvs vs)(k:κ):KV (Ja kvs k) (without vs k):=by
 unfold KV at r ⊢
 unfold Ja without
 induction r with
 | nil=>exact .nil
 | @cons p q ps qs h t ih =>
  obtain ⟨h1,h2⟩:=h
  rw [List.filter_cons,List.filter_cons]
  by_cases e:p.1=k
  ·have a:¬ decide (p.1 ≠ k)=true:=by simp [e]
   have b:¬ decide (q.1 ≠ k)=true:=by simp [h1.symm.trans e]
   rw [if_neg a,if_neg b]; exact ih
  ·have e':¬ q.1=k:=λ z=>e (h1.trans z)
   have a:decide (p.1 ≠ k)=true:=by simp [e]
   have b:decide (q.1 ≠ k)=true:=by simp [e']
   rw [if_pos a,if_pos b]; exact .cons ⟨h1,h2⟩ ih
theorem KV.keys{kvs:List (κ × V)}{vs:List (κ × Value)}(r:KV kvs vs):kvs.map (·.1)=vs.map (·.1):=by
 unfold KV at r
 induction r with
 | nil=>rfl
 | cons h t ih=>rw [bq,bq,ih,h.1]
theorem KV.length{kvs:List (κ × V)}{vs:List (κ × Value)}(r:KV kvs vs):kvs.length=vs.length:=f7 r
end
theorem tP{k:Key}(r:RelV (kV k) u):(bJ P w).is k u=true:=by
 cases k with
 | inl i=>obtain ⟨t,e⟩:=(show ∃ t,u=Value.int i t from r); subst e; exact tH P w i t
 | inr x=>obtain ⟨t,e⟩:=(show ∃ t,u=Value.str x t from r); subst e; exact jc P w x t
theorem qJ{P:Program}{w:World}:∀ {ks:List Key} {us:List Value},Vals (ks.map kV) us->ItemsAre (bJ P w) ks us
 | [],_,r=>by rw [List.map_nil] at r; cases r; exact .nil
 | k :: ks,_,r=>by
  rw [bq] at r
  cases r with
  | cons h t=>exact .cons (tP h) (qJ t)
abbrev KT(H:Hp):List (List Key × V)->List (List Key × Addr × Value)->Prop:=Paired λ p q=>p.1=q.1 /\ H q.2.1=some (.tup (p.1.map kV)) /\ RelV p.2 q.2.2
theorem KT.val(r:KT H kvs xs)(k:List Key):jZ (ie kvs k) ((atKey xs k).map (·.2)):=by
 induction r with
 | nil=>exact dQ
 | @cons p q ps qs h t ih =>
  obtain ⟨h1,_,h2⟩:=h
  by_cases e:p.1=k
  ·have e':q.1=k:=h1.symm.trans e
   have b:atKey (q :: qs) k=some q.2:=by simp [atKey,fu,e']
   rw [oM e,b]; exact h2
  ·have e':¬ q.1=k:=λ z=>e (h1.trans z)
   have b:atKey (q :: qs) k=atKey qs k:=by simp [atKey,fu,e']
   rw [oN e,b]; exact ih
theorem KT.repl(r:KT H kvs xs)(k:List Key)(ry:RelV y u):
  KT H (kvs.map λ kv=>if kv.1=k then (kv.1,y) else kv) (xs.map (putAt k u)):=by
 induction r with
 | nil=>exact .nil
 | @cons p q ps qs h t ih =>
  rw [bq,bq]
  refine .cons ?_ ih
  obtain ⟨h1,h2,h3⟩:=h
  unfold putAt
  by_cases e:p.1=k
  ·rw [if_pos e,if_pos (h1.symm.trans e)]; exact ⟨h1,h2,ry⟩
  ·rw [if_neg e,if_neg (λ z=>e (h1.trans z))]; exact ⟨h1,h2,h3⟩
theorem KT.put(r:KT H kvs xs)(k:List Key)(hb:H b=some (.tup (k.map kV)))(ry:RelV y u):
  KT H (putK kvs k y) (storedH xs k b u):=by
 have e:(kvs.any λ kv=>decide (kv.1=k))=(atKey xs k).isSome:=by
  rw [kB,(r.val k).jz,Option.isSome_map]
 unfold putK storedH
 rw [e]
 by_cases q:(atKey xs k).isSome=true
 ·rw [if_pos q,if_pos q]; exact r.repl k ry
 ·rw [if_neg q,if_neg q]; exact bQ r ⟨rfl,hb,ry⟩
theorem KT.keeps(r:KT H kvs xs)(ht:∀ b ys,H b=some (.tup ys)->H' b=some (.tup ys)):KT H' kvs xs :=
 Paired.Av r λ _ _ z=>⟨z.1,ht _ _ z.2.1,z.2.2⟩
section
variable {P:Program}{w:World}{H:Hp}{h:Heap}{a:Addr}
theorem Jb{u:HO}(ok:iY P w H h)(e:Rd H a u):bU P w H h a u:=e.ok ok
theorem Jc{kvs:List (Key × V)}(ok:iY P w H h)(e:Rd H a (.dK kvs)):kvs.length <= sizeLine /\ (a == sysModules)=false /\ ∃ vs,KV kvs vs /\ h.DictOf (bJ P w) a vs :=
 show bU P w H h a (.dK kvs) from Jb ok e
theorem Ou{kvs:List (Key × V)}(ok:iY P w H h)(e:H a=some (.dK kvs)):kvs.length <= sizeLine /\ (a == sysModules)=false /\ ∃ vs,KV kvs vs /\ h.DictOf (bJ P w) a vs:=Jc ok (.inl e)
theorem wW{ks:List Key}(ok:iY P w H h)(e:H a=some (.tup (ks.map kV))):(tupleKind (bJ P w)).is h ks a:=by
 obtain ⟨_,its,r,o,h1,h2,n,h3⟩:=(show bU P w H h a (.tup (ks.map kV)) from ok a _ e)
 exact ⟨o,its.toArray,n,h1,h2,h3,by simpa using qJ r⟩
theorem Jd(ok:iY P w H h)(e:Rd H a (.dT kvs)):kvs.length <= sizeLine /\ (a == sysModules)=false /\
  ∃ xs,KT H kvs xs /\ h.DictOfH (tupleKind (bJ P w)) a xs:=by
 obtain ⟨z,y,xs,r,o,es,ep,h1,h2,h3,h4,h5⟩:=(show bU P w H h a (.dT kvs) from Jb ok e)
 refine ⟨z,y,xs,r,o,es,ep,h1,h2,h3,h4,λ x hx=>?_,h5⟩
 have all:∀ {l:List (List Key × V)} {m:List (List Key × Addr × Value)},KT H l m->∀ x∈m,(tupleKind (bJ P w)).is h x.1 x.2.1:=by
  intro l m q
  induction q with
  | nil=>intro x hx; exact nomatch hx
  | @cons p q ps qs hq t ih =>
   intro x hx
   rcases aB.mp hx with e | hx
   ·subst e
    exact wW ok (by rw [<- hq.1]; exact hq.2.1)
   ·exact ih x hx
 exact all r x hx
theorem Ov(ok:iY P w H h)(e:H a=some (.dT kvs)):kvs.length <= sizeLine /\ (a == sysModules)=false /\
  ∃ xs,KT H kvs xs /\ h.DictOfH (tupleKind (bJ P w)) a xs:=Jd ok (.inl e)
end
def wX(H:Hp)(a:Addr)(y:V)(r:Option V):Prop :=
 (∃ kvs k,Rd H a (.dK kvs) /\ y=kV k /\ r=ie kvs k) \/ ∃ kvs k b,Rd H a (.dT kvs) /\ y=.ref b /\ H b=some (.tup (k.map kV)) /\ r=ie kvs k
def tQ(H:Hp)(a:Addr)(y v:V)(H':Hp):Prop :=
 (∃ kvs k,H a=some (.dK kvs) /\ y=kV k /\ kvs.length < sizeLine /\ H'=upd H a (.dK (putK kvs k v))) \/
 ∃ kvs k b,H a=some (.dT kvs) /\ y=.ref b /\ H b=some (.tup (k.map kV)) /\ kvs.length < sizeLine /\ H'=upd H a (.dT (putK kvs k v))
theorem wX.k{H:Hp}{a:Addr}{kvs:List (Key × V)}{k:Key}(e:H a=some (.dK kvs)):wX H a (kV k) (ie kvs k):=.inl ⟨kvs,k,.inl e,rfl,rfl⟩
theorem wX.t{a:Addr}{k:List Key}(e:H a=some (.dT kvs))(eb:H b=some (.tup (k.map kV))):wX H a (.ref b) (ie kvs k):=.inr ⟨kvs,k,b,.inl e,rfl,eb,rfl⟩
theorem tQ.k{H:Hp}{a:Addr}{kvs:List (Key × V)}{k:Key}{v:V}(e:H a=some (.dK kvs))(hl:kvs.length < sizeLine):tQ H a (kV k) v (upd H a (.dK (putK kvs k v))):=.inl ⟨kvs,k,e,rfl,hl,rfl⟩
theorem tQ.t{a:Addr}{k:List Key}{v:V}(e:H a=some (.dT kvs))(eb:H b=some (.tup (k.map kV)))(hl:kvs.length < sizeLine):
  tQ H a (.ref b) v (upd H a (.dT (putK kvs k v))):=.inr ⟨kvs,k,b,e,rfl,eb,hl,rfl⟩
section
variable {X:Cx}{pins:List (Addr × Obj)}{σ:St}{H:Hp}{s:Shared}{a:Addr}{y v:V}{u r:Value}{o:Option V}{A:Around}{E:Value->Shared->Prop}
theorem Inv.big(I:Inv X pins σ H s):sysModules < s.heap.objs.size:=by
 have h:mainGlobals < s.heap.objs.size:=(I.mod.glob.keeps I.bk).lt
 exact Nat.lt_trans (by decide) h
theorem Gi{Q:Value->Shared->Prop}(hu:A.units + 1 < cLine)(I:Inv X pins σ H s)(g:wX H a y o)(ry:RelV y u)(h:∀ s',Inv X pins σ H s'->Q (.bool (!o.isSome)) s'):
  wpAny (model X.prog X.w) A (compareOp .NotIn u (.ref a)) Q E s:=by
 rcases g with ⟨kvs,k,e,ey,l⟩ | ⟨kvs,k,b,e,ey,eb,l⟩
 ·subst ey
  obtain ⟨z,hd,vs,rel,dd⟩:=Jc I.hok e
  refine wpAny_notIn_of (tP ry) hd dd.mapOf ?_
  rw [<- (rel.val k).jz,<- l]
  exact h _ (I.tok _)
 ·subst ey
  cases (show u=Value.ref b from ry)
  obtain ⟨z,hd,xs,rel,dd⟩:=Jd I.hok e
  refine wpAny_notIn_heap (tupleKind_room_in1 hu) (wW I.hok eb) hd dd ?_
  have q:=(rel.val k).jz
  rw [Option.isSome_map] at q
  rw [<- q,<- l]
  exact h _ (I.tok _)
theorem r9{h':Heap}{ob:HO}(I:Inv X pins σ H s)(mu:NT (H a))(hs:Heap.SameBut a s.heap h')(he:∃ q,h'.get? a=some q)(new:bU X.prog X.w (upd H a ob) h' a ob):
  Inv X pins σ (upd H a ob) { s with heap:=h',toks:=t' } :=
 I.write (x:=a) (e:=a) mu (.inl rfl) (λ b q hb z=>(hs.2 b hb).trans z) he new
theorem K0{h':Heap}{kvs:List (Key × V)}{vs:List (Key × Value)}(z:kvs.length <= sizeLine)(hd:(a == sysModules)=false)(rel:KV kvs vs)(dd:h'.DictOf (bJ P w) a vs):
  bU P w H' h' a (.dK kvs):=⟨z,hd,vs,rel,dd⟩
theorem AG{Q:Unit->Shared->Prop}(hu:A.units + 1 < cLine)(I:Inv X pins σ H s)(g:tQ H a y v H')(ry:RelV y u)(rv:RelV v r)(h:∀ s',Inv X pins σ H' s'->Q () s'):
  wpAny (model X.prog X.w) A (setItem (.ref a) u r) Q E s:=by
 rcases g with ⟨kvs,k,e,ey,l,eH⟩ | ⟨kvs,k,b,e,ey,eb,l,eH⟩
 ·subst ey eH
  obtain ⟨z,hd,vs,rel,dd⟩:=Ou I.hok e
  have hz:vs.length <= sizeLine:=by rw [<- rel.length]; exact z
  have hl:(putK kvs k v).length <= sizeLine:=by have:=jh kvs k v; omega
  refine wpAny_setItem_pairs (hsz:=hz) (tP ry) dd λ h' Nz hs=>h _ ?_
  have he:∃ q,h'.get? a=some q:=let ⟨q,_,_,hq,_⟩:=Nz; ⟨q,hq⟩
  exact r9 I (by rw [e]; exact dQ) hs he (K0 hl hd (rel.put k rv) Nz)
 ·subst ey eH
  cases (show u=Value.ref b from ry)
  obtain ⟨z,hd,xs,rel,dd⟩:=Ov I.hok e
  have hz:xs.length <= sizeLine:=by rw [<- f7 rel]; exact z
  have hl:(putK kvs k v).length <= sizeLine:=by have:=jh kvs k v; omega
  refine wpAny_setItem_heap (hsz:=hz) (tupleKind_room_in1 hu) (wW I.hok eb) dd λ h' Nz hs=>h _ ?_
  obtain ⟨q,es,ep,hq,h2,h3,h4,_,h5⟩:=Nz
  refine r9 I (by rw [e]; exact dQ) hs ⟨q,hq⟩ ⟨hl,hd,_,(rel.put k eb rv).keeps λ c ys ec=>?_,q,es,ep,hq,h2,h3,h4,h5⟩
  rw [aP (qA ec e (λ z=>nomatch z))]
  exact ec
end
section
variable {X:Cx}{pins:List (Addr × Obj)}{σ:St}{H:Hp}{s:Shared}{a:Addr}{kvs:List (Key × V)}{k:Key}{u:Value}{A:Around}{E:Value->Shared->Prop}
end
def Gj(i:Expr):Prop:=∀ ov iv,subscripted i false ov iv=operate [ov,iv] (getItem ov iv)
theorem yV{prog:Program}{A:Around}{E:Value->Shared->Prop}{env:Env}{value slice:Expr}{pos:Pos}{T id:String}{Q:Value->Shared->Prop}
  (hl:typeLookup (.type T) "__getitem__" = pure (some (.builtin id)))(hs:Gj slice)
  (h:wpAny (model prog w) A (eval value env) (λ o s₁=>wpAny (model prog w) A (eval slice env) (λ i s₂=>s₂.TypeIs o T /\ wpAny (model prog w) A (getItem o i) Q E s₂) E s₁) E s):
  wpAny (model prog w) A (eval (.Subscript value slice pos) env) Q E s:=by
 refine Subscript_ (wpAny_mono h (λ o s₁ h₁=>wpAny_mono h₁ (λ i s₂ h₂=>?_) λ _ _ x=>x) λ _ _ x=>x)
 obtain ⟨hT,h₂⟩:=h₂
 unfold subscriptTail
 refine af ?_
 rw [getitemInPython_of_ne hT.not_modules]
 refine af (wpAny_specialOf hT hl ?_)
 have fin:wpAny (model prog w) A (subscripted slice false o i) (λ r s₃=>wpAny (model prog w) A (letTemporaryGo value o r >>= λ _=>pure r) Q E s₃) E s₂:=by
  rw [hs o i]
  exact wpAny_operating (wpAny_mono h₂ (λ r s₃ h₃=>af (wpAny_letTemporaryGo (aE h₃))) λ _ _ x=>x)
 first
  | exact aE (af fin)
  | exact af (aE (af fin))
  | exact af fin
def yW(ty td:TE):TE:=λ σ H Q=>ty σ H λ y H1=>td σ H1 λ x H2=>∃ a o,x=.ref a /\ wX H2 a y o /\ Q (.bl (!o.isSome)) H2
def Je(td ty tv:TE):TS:=λ D σ H=>tv σ H λ v H1=>td σ H1 λ x H2=>ty σ H2 λ y H3=>∃ a H4,x=.ref a /\ tQ H3 a y v H4 /\ D.nx σ H4
section
variable {X:Cx}{o i e value:Expr}{pos pos' tpos:Pos}{td ty tv:TE}
theorem AH(hu:X.A.units + 1 < cLine)(hi:PE X i ty)(ho:PE X o td):PC X .NotIn i o (yW ty td):=by
 intro pins s σ H Q I h
 refine cA (hi pins s σ H _ I h) λ iv s1 ⟨y,H1,I1,ry,q1⟩=>cA (ho pins s1 σ H1 _ I1 q1) λ u s2 ⟨x,H2,I2,rx,a,ov,ex,g,q2⟩=>?_
 subst ex
 obtain rfl:u=Value.ref a:=rx
 exact Gi hu I2 g ry λ s3 I3=>⟨.bl (!ov.isSome),H2,I3,rfl,q2⟩
theorem yX(hu:X.A.units + 1 < cLine)(ho:PE X o td)(hi:PE X i ty)(hv:PE X value tv)(hs:swapsWith value (some (.Subscript o i pos')) pos.line X.env=pure false):
  PS X (.Assign [.Subscript o i pos'] value pos) (Je td ty tv):=by
 intro pins s σ H D I h
 refine wpAny_Assign_Subscript (cA (hv pins s σ H _ I h) λ r s1 ⟨v,H1,I1,rv,q1⟩=>cA (ho pins s1 σ H1 _ I1 q1) λ u s2 ⟨x,H2,I2,rx,q2⟩=>cA (hi pins s2 σ H2 _ I2 q2) λ iv s3 ⟨y,H3,I3,ry,a,H4,ex,g,q3⟩=>?_) hs
 subst ex
 obtain rfl:u=Value.ref a:=rx
 exact AG hu I3 g ry rv λ s4 I4=>⟨σ,H4,I4,q3⟩
end
theorem CO(h:Heap)(hb:sysModules < h.objs.size):bU P w H (h.push { cls:=.type "dict", data:=.dict #[] }) h.objs.size (.dK []) :=
 ⟨aL _,beq_eq_false_iff_ne.mpr (aZ (aO hb)),[],.nil,Heap.DictOf.new h⟩
theorem CP(h:Heap)(hb:sysModules < h.objs.size):bU P w H (h.push { cls:=.type "dict", data:=.dict #[] }) h.objs.size (.dT []) :=
 ⟨aL _,beq_eq_false_iff_ne.mpr (aZ (aO hb)),[],.nil,_,#[],0,fJ _ rfl,⟨rfl,rfl,rfl⟩,rfl,rfl,iH⟩
def CQ:TE:=λ _ H Q=>∀ p,H p=none->Q (.ref p) (upd H p (.dK []))
def CS:TE:=λ _ H Q=>∀ p,H p=none->Q (.ref p) (upd H p (.dT []))
section
variable {X:Cx}{pos:Pos}
theorem CU:PE X (.Dict [] [] pos) CQ:=λ pins s σ H Q I h =>
 wpAny_Dict_empty ⟨.ref s.heap.objs.size,_,I.laid (a:=s.heap.objs.size) (o:=.dK []) (t':=s.toks) (λ _ _ q=>bS _ q) (ak _) (CO s.heap I.big),rfl,h _ (I.hok.fresh (ak _))⟩
theorem CV:PE X (.Dict [] [] pos) CS:=λ pins s σ H Q I h =>
 wpAny_Dict_empty ⟨.ref s.heap.objs.size,_,I.laid (a:=s.heap.objs.size) (o:=.dT []) (t':=s.toks) (λ _ _ q=>bS _ q) (ak _) (CP s.heap I.big),rfl,h _ (I.hok.fresh (ak _))⟩
end
structure M1 (X:Cx) (o:Expr) (m:Str) (apos:Pos) (e:Expr) (cpos:Pos):Prop where
 base:attributeBase o m X.env (eval o X.env)=eval o X.env
 few:((backTo cpos (starEach [e] X.env)).all (λ x=>!x.1) && (backToKw cpos (keywordEach [] X.env)).all (λ x=>x.1.isSome)
  && decide (([e]:List Expr).length + ([]:List Keyword).length + (if ([]:List Keyword).isEmpty then 0 else 1) < 30))=true
 line:(apos.endLine == cpos.line)=true
 trees:backTo cpos (starEach [e] X.env)=[(false,eval e X.env)]
structure M2 (X:Cx) (o:Expr) (m:Str) (apos:Pos) (e f:Expr) (cpos:Pos):Prop where
 base:attributeBase o m X.env (eval o X.env)=eval o X.env
 few:((backTo cpos (starEach [e,f] X.env)).all (λ x=>!x.1) && (backToKw cpos (keywordEach [] X.env)).all (λ x=>x.1.isSome)
  && decide (([e,f]:List Expr).length + ([]:List Keyword).length + (if ([]:List Keyword).isEmpty then 0 else 1) < 30))=true
 line:(apos.endLine == cpos.line)=true
 trees:backTo cpos (starEach [e,f] X.env)=[(false,eval e X.env),(false,eval f X.env)]
section
variable {X:Cx}{pins:List (Addr × Obj)}{σ:St}{H:Hp}{s:Shared}{a:Addr}{y d:V}{u r:Value}{o:Option V}{A:Around}{E:Value->Shared->Prop}
end
section
variable {X:Cx}{o e f:Expr}{apos cpos:Pos}{td ty tx:TE}
end
section
variable {X:Cx}{pins:List (Addr × Obj)}{σ:St}{H:Hp}{s:Shared}{a:Addr}{kvs:List (Key × V)}{A:Around}{E:Value->Shared->Prop}
end
section
variable {X:Cx}{pins:List (Addr × Obj)}{σ:St}{H:Hp}{s:Shared}{a:Addr}{y:V}{u:Value}{A:Around}{E:Value->Shared->Prop}
end
end L2
namespace Ud
open PySem PySem.W PySem.Calls PyProof.Rows
theorem mX{P:Params}{h:Heap}:∀ (ns:List Int) (vs:List Value),WellAll P h vs (ns.map WData.int)->IntsAre vs ns:=by
 intro ns
 induction ns with
 | nil =>
  intro vs w
  rw [List.map_nil] at w
  cases w
  exact .nil
 | cons n ns ih =>
  intro vs w
  rw [bq] at w
  cases w with
  | cons a b =>
   cases a
   exact .cons _ _ (ih _ b)
theorem AI{l:OpenLaw}{n:Nat}(hn:l.most=some n){P:Params}{h:Heap}{args:List WData}{vals:List Value}
  (hpre:l.row.toRowW.claim.pre args=true)(hwl:WellAll P h vals args):
  ∃ a vs ns,vals=[Value.ref a] /\ args=[WData.list (ns.map WData.int)] /\ h.get? a=some { cls:=.type "list", data:=.seq vs.toArray } /\ IntsAre vs ns /\ ns.length <= n:=by
 have hsh:WShape.hasAll [] args [.list .int]=true:=(pre_splitW hpre).1
 have hc:l.pre.holds [] { args:=args }=true:=(pre_splitW hpre).2
 obtain ⟨d,r,rfl,h1,h2⟩:=hasAllW_cons hsh
 obtain rfl:=hasAllW_nil h2
 obtain ⟨xs,rfl,h3⟩:=hasW_list h1
 obtain ⟨ns,rfl⟩:=items_int h3
 have hlen:ns.length <= n:=by
  unfold OpenLaw.pre at hc
  have h4:(WTm.not (.lt (.lit (.int (n:Int))) (.len (.arg 0)))).holds [] { args:=[.list (ns.map .int)] }=true:=by
   have h4:=(holds_andW hc).1
   rw [hn] at h4
   exact h4
  have h5:=condW_of h4 (w_not (w_lt w_lit (w_len_list (w_arg rfl))))
  rw [aq] at h5
  refine Nat.le_of_not_lt λ q=>?_
  have q':(n:Int) < ((ns.length:Nat):Int):=by omega
  first
   | (rw [decide_eq_true q'] at h5; exact absurd h5 (by decide))
   | (simp at h5; omega)
 cases hwl with
 | cons w1 w2 =>
  cases w2
  cases w1 with
  | list ho hall=>exact ⟨_,_,ns,rfl,rfl,ho,mX ns _ hall,hlen⟩
theorem AJ(l:OpenLaw)(args:List WData):l.row.toRowW.claim.post args (.bool true) args=true :=
 postW_of (r:=l.row.toRowW) (X:=(true == true))
  (show WShape.has [] (.bool true) .bool=true by first | rfl | decide | simp [WShape.has,WShape.arms,WShape.armsAll])
  (show (WTm.eq .res (.lit (.bool true))).value [] { args:=args,res:=some (.bool true),after:=args }=some (.bool (true == true)) from w_eq_bool (w_res rfl) w_lit) rfl
theorem mO{l:OpenLaw}{n:Nat}{q:Program}{loose:List Str}{XP:(Str->Option Value)->Heap->Prop}{YP:World->Heap->Prop}{d:DefRec}
  (hn:l.most=some n)(hdf:d.params.defaults=[])
  (call:∀ (w:World) (s₀ s₁:Shared) (mg mb:Str->Option Value) (fa:Addr) (o:Obj) (pm cd doc:Value) (a:Addr) (vs:List Value) (ns:List Int),
   Ground q loose [] XP w s₀ mg mb s₁.heap->YP w s₁.heap ->
   s₁.heap.get? fa=some o->o.data=.func (docDef d.name d.params d.body d.scope pm cd doc)->s₁.heap.CodeRec cd d.name->mg d.name=some (.ref fa) ->
   s₁.heap.get? a=some { cls:=.type "list", data:=.seq vs.toArray } -> IntsAre vs ns->ns.length <= n->s₁.gens=#[] ->
   codeAny (model l.prog w) callerA (.call (.ref fa) ⟨[.ref a],[]⟩) (λ r s'=>r=.ok (.ret (.bool true)) /\ OldK s₁.heap s'.heap /\ s'.os=s₁.os /\ AllBare s'.gens) s₁):
  WalkO q loose XP YP l.row.toRowW d [] (λ f vs=>PySem.call f vs):=by
 intro w s₀ s₁ mg mb G Y fa o pm cd doc dV kV ho hd hcd hD hmg hg args vals as hpre hlay hrd hwl hlo
 obtain rfl:dV=.none:=Dflts.none hD hdf
 obtain rfl:kV=.none:=Dflts.noKw hD
 obtain ⟨a,vs,ns,rfl,rfl,hobj,hints,hlen⟩:=AI hn hpre hwl
 refine enter_call (codeAny_mono (call w s₀ s₁ mg mb fa o pm cd doc a vs ns G Y ho (fd_plain hd) hcd hmg hobj hints hlen hg) λ r s' hq=>?_)
 obtain ⟨rfl,h2,h3,h4⟩:=hq
 exact ⟨.inl ⟨.bool true,.bool true,[],rfl,λ _=>rfl,.bool true,AJ l _,λ _=>⟨List.Pairwise.nil,λ _ hm=>(nomatch hm)⟩⟩,h2,h3,h4⟩
section
variable {prog:Program}{w:World}{A:Around}{E:Value->Shared->Prop}{s:Shared}{K:Frag}
end
end Ud
namespace L2
open PySem PySem.Spec PyProof.Rows
variable {k:Nat}{fd:FuncData}{x qual:Str}{st:Stmt}{f:Addr}{H:Hp}
theorem jA:∀ {vs:List Value} {ns:List Int},IntsAre vs ns->Vals (ns.map V.int) vs
 | _,_,.nil=>.nil
 | _,_,.cons n t h=>.cons ⟨t,rfl⟩ (jA h)
def K1(H:Hp):Prop:=∀ b,H b=none \/ ∃ o xs,H b=some (.tE o (.lst xs))
theorem CW{P:Program}{w:World}{K:ay}{mg mb:Str->Option Value}{CX:yM}{fa a:Addr}{sp:Sp}{s₁:Shared}{vs:List Value}{ns:List Int}
  (KX:K.In s₁.heap)(hns:s₁.heap.Ns mainGlobals mg)(hb:s₁.heap.Ns builtinsNs mb)(Ue:∀ x:Str,x ≠ "__name__" -> mb x=bootBuiltins x)(hlim:s₁.heap.NoLimit)(hg:s₁.gens=#[])
  (ha:s₁.heap.get? a=some { cls:=.type "list", data:=.seq vs.toArray })(hi:IntsAre vs ns)(hl:ns.length <= sizeLine)(hr:fE k callerA)
  (F:∀ base:Heap,K.In base->base.Ns mainGlobals mg->cJ P w K mg base CX k fa fd [x] sp)(hbind:∀ (s:Shared) (u:Value),BindsTo s fd ⟨[u],[]⟩ [(x,u)])
  (wC:∀ H:Hp,K1 H->bI K H a (ns.map V.int)->sp [.ref a] H (λ v _=>v=.bl true) λ _ _ _=>False)
  (Ow:∀ H e s',CX [] H s₁ (λ _ _ _=>False) e s'->False):
  codeAny (model P w) callerA (.call (.ref fa) ⟨[.ref a],[]⟩) (λ r s'=>r=.ok (.ret (.bool true)) /\ OldK s₁.heap s'.heap /\ s'.os=s₁.os /\ AllBare s'.gens) s₁:=by
 have rv:=jA hi
 have Ug:=hi.length
 have core:∀ H:Hp,K1 H->bI K H a (ns.map V.int)->iY P w H s₁.heap->(∀ b,H b ≠ none->b=a)->(H a ≠ none->K.lookup a=none) ->
   codeAny (model P w) callerA (.call (.ref fa) ⟨[.ref a],[]⟩) (λ r s'=>r=.ok (.ret (.bool true)) /\ OldK s₁.heap s'.heap /\ s'.os=s₁.os /\ AllBare s'.gens) s₁:=by
  intro H hO hS hok hA hK
  have yY:∀ {b:Addr} {o:Obj},s₁.heap.get? b=some o->H b=none->(lS s₁.heap H).get? b=some o:=λ e n=>kj e n
  have Oh:∀ {b:Addr} {o:Obj} {es:Array DictEntry} {ep:Nat},s₁.heap.get? b=some o->o.data=.dict es ep->H b=none:=λ {b o es ep} e d=>by
   cases q:H b with
   | none=>rfl
   | some u =>
    have e':b=a:=hA b (by rw [q]; simp)
    subst e'
    rw [ha] at e; cases e
    have d':Data.seq vs.toArray _=Data.dict es ep:=d
    cases d'
  have R4:∀ {b:Addr} {m:Str->Option Value},s₁.heap.Ns b m->(lS s₁.heap H).Ns b m:=λ {b m} ⟨o,es,ep,e,d,r⟩=>⟨o,es,ep,yY e (Oh e d),d,r⟩
  have W3:K.In (lS s₁.heap H):=λ b o e=>yY (KX b o e) (by
   cases q:H b with
   | none=>rfl
   | some u =>
    have e':b=a:=hA b (by rw [q]; simp)
    subst e'
    rw [hK (by rw [q]; simp)] at e; cases e)
  have hM:Mod K mg (lS s₁.heap H):=⟨W3,R4 hns,⟨mb,R4 hb,Ue⟩,let ⟨mc,h1,h2⟩:=hlim; ⟨mc,R4 h1,h2⟩⟩
  have e0:tN P w K mg (lS s₁.heap H) callerA [] s₁ H:=⟨rfl,hM,λ b o e=>yF e,Nat.le_of_eq (qB _ _),trivial,λ b hb=>absurd (show b∈([]:List Addr) from hb) (by simp),hok,.of_eq hg⟩
  refine codeAny_mono ((F _ W3 (R4 hns)).run callerA [] s₁ H ⟨[.ref a],[]⟩ [.ref a] [.ref a] _ _ hr e0 (hbind s₁ (.ref a)) (.cons rfl .nil) (wC H hO hS)) λ r s' h=>?_
  cases r with
  | error e=>exact (Ow H e s' h).elim
  | ok fl =>
   cases fl with
   | next=>exact False.elim h
   | brk=>exact False.elim h
   | cont=>exact False.elim h
   | ret u =>
    obtain ⟨v,H',os,bare,un,Gk,r',q⟩:=h
    have q':v=.bl true:=q
    subst q'
    obtain rfl:u=Value.bool true:=r'
    refine ⟨rfl,OldK.of_keep λ b o e=>?_,os,bare⟩
    cases q:H b with
    | none=>exact un.keep b o e q (by intro z; exact absurd (show b∈([]:List Addr) from z) (by simp)) (by simp)
    | some u =>
     rcases hO b with z | ⟨ob,xs,z⟩
     ·rw [q] at z; cases z
     ·have z2:=un.ki b ob _ z
      obtain ⟨e1,_⟩:=hok b _ z
      obtain ⟨e2,_⟩:=Gk b _ z2
      rw [e] at e1; cases e1
      exact e2
 cases hk:K.lookup a with
 | some o =>
  have e:=KX a o hk
  rw [ha] at e
  cases e
  refine core (λ _=>none) (λ _=>.inl rfl) (.inr ⟨_,vs.toArray,_,hk,rfl,rfl,rfl,by rw [aM,Ug]; exact hl,by simpa using rv⟩) (λ b u z=>by have z':(none:Option HO)=some u:=z; cases z') (λ b z=>absurd rfl z) λ z=>absurd rfl z
 | none =>
  refine core (λ b=>if b=a then some (.tE { cls:=.type "list", data:=.seq vs.toArray } (.lst (ns.map V.int))) else none) (λ b=>?_) (.inl (.inr ⟨{ cls:=.type "list", data:=.seq vs.toArray },if_pos rfl⟩)) (λ b u z=>?_) (λ b z=>?_) λ _=>hk
  ·by_cases hb:b=a
   ·exact .inr ⟨_,_,if_pos hb⟩
   ·exact .inl (if_neg hb)
  ·by_cases hb:b=a
   ·have z':=(if_pos hb).symm.trans z
    cases z'
    subst hb
    exact ⟨ha,by rw [aq]; exact hl,vs,_,rv,ha⟩
   ·have z':=(if_neg hb).symm.trans z
    cases z'
  ·by_cases hb:b=a
   ·exact hb
   ·exact absurd (if_neg hb) z
abbrev KOf{K:ay}{h:Heap}(_:K.In h):ay:=K
theorem R5{l:PySem.W.OpenLaw}{n:Nat}{q:Program}{loose:List Str}{XP:(Str->Option Value)->Heap->Prop}{YP:World->Heap->Prop}{d:DefRec}{K:Params->ay}{CX:World->yM}{sp:World->Sp}
  (hn:l.most=some n)(hn2:n <= sizeLine)(hdf:d.params.defaults=[])(hr:fE k callerA)
  (hY:∀ (w:World) (h:Heap),YP w h->(K w.params).In h)
  (F:∀ (w:World) (mg:Str->Option Value) (fa:Addr) (h:Heap),(K w.params).In h->h.Ns mainGlobals mg->mg d.name=some (.ref fa) ->
   ∃ fd:FuncData,(∀ (s:Shared) (u:Value),BindsTo s fd ⟨[u],[]⟩ [(x,u)]) /\
    ∀ base:Heap,(K w.params).In base->base.Ns mainGlobals mg->cJ l.prog w (K w.params) mg base (CX w) k fa fd [x] (sp w))
  (wC:∀ (w:World) (H:Hp) (a:Addr) (ns:List Int),ns.length <= n->K1 H->bI (K w.params) H a (ns.map V.int)->sp w [.ref a] H (λ v _=>v=.bl true) λ _ _ _=>False)
  (Ow:∀ (w:World) (H:Hp) (s:Shared) (e:Value) (s':Shared),CX w [] H s (λ _ _ _=>False) e s'->False):
  PySem.W.WalkO q loose XP YP l.row.toRowW d [] (λ f vs=>PySem.call f vs):=by
 refine Ud.mO hn hdf λ w s₀ s₁ mg mb fa o pm cd doc a vs ns G Y ho hd hcd hmg hobj hints hlen hg=>?_
 have KX:=hY w _ Y
 obtain ⟨fd,hb,hF⟩:=F w mg fa _ KX G.T.g hmg
 exact CW KX G.T.g G.T.b G.T.builtins G.T.nolimit hg hobj hints (br hlen hn2) hr hF hb (λ H hO hS=>wC w H a ns hlen hO hS) λ H e s'=>Ow w H s₁ e s'
def gI(s:Stmt):Arguments:=match s with
 | .FunctionDef _ a _ _ _ _ _ _ _ _=>a
 | _=>{ posonlyargs:=[],args:=[],vararg:=none,kwonlyargs:=[],kw_defaults:=[],kwarg:=none,defaults:=[] }
def eS(s:Stmt):List Stmt:=match s with
 | .FunctionDef _ _ b _ _ _ _ _ _ _=>b
 | _=>[]
def aF(s:Stmt):Scope:=match s with
 | .FunctionDef _ _ _ _ _ _ sc _ _ _=>sc
 | _=>{ kind:=.function,names:=[],isGenerator:=false,isCoroutine:=false }
abbrev ji:yM:=λ _ _ _ _ _ _=>False
abbrev E0:XK:=λ _ _ _=>False
theorem Ox{X:Cx}:Passes ji X E0:=λ _ _ _ _ _ _ _ h=>h.elim
structure Jf (K:ay) (x qual:Str) (st:Stmt) (f:Addr) (fd:FuncData):Prop where
 ex:∃ (oc:Value) (od:Option Addr) (kV doc pm:Value) (an:Option Addr) (cdv ct:Value) (osl:Array (Option Value)),
  fd=PySem.W.fnOf x qual (gI st) (eS st) (aF st) .none kV doc pm an cdv ct /\ K.lookup f=some ⟨oc,od,.func fd,osl⟩ /\ PySem.W.codeIn K cdv qual=true
 kp:PySem.W.keepIn K (.ref f)=true
section
variable {P:Program}{w:World}{K:ay}{mg:Str->Option Value}{base:Heap}
theorem Jf.ok{N ps:List Str}{sp:Sp}(F:Jf K x qual st f fd)(S:aY N ps (aF st))(len:∀ vs H Q E,sp vs H Q E->vs.length=ps.length)
  (hbody:∀ (cdv:Value) (A:Around) (outer:List Env) (s:Shared) (H:Hp) (vs:List V) (Q:VK) (E:XK),fE k (A.deeper (envOfC qual (aF st) s.heap.objs.size f cdv))->sp vs H Q E ->
   ∃ t,ql (rS ji P w K mg base N qual (aF st) f cdv A outer s H E).Az (eS st) t /\ t { nx:=λ _ H'=>Q .cP H',rt:=Q } (start N vs) H):cJ P w K mg base ji (k + 1) f fd ps sp:=by
 obtain ⟨oc,od,kV,doc,pm,an,cdv,ct,osl,rfl,lk,hcd⟩:=F.ex
 refine CC lk hcd S len λ A outer s H vs Q E hr wC=>?_
 obtain ⟨t,h,q⟩:=hbody cdv A outer s H vs Q E hr wC
 exact ⟨t,h.Az,q⟩
theorem Jf.binds{ps:List Str}(F:Jf K x qual st f fd)
  (h:∀ (kV doc pm:Value) (an:Option Addr) (cdv ct:Value) (us:List Value),us.length=ps.length->bindArgs (PySem.W.fnOf x qual (gI st) (eS st) (aF st) .none kV doc pm an cdv ct) ⟨us,[]⟩=pure (ps.zip us)):Binds K fd ps []:=by
 obtain ⟨oc,od,kV,doc,pm,an,cdv,ct,osl,rfl,lk,hcd⟩:=F.ex
 exact .all (h kV doc pm an cdv ct)
theorem CY{oc:Value}{od an:Option Addr}{osl:Array (Option Value)}{kV doc pm cdv ct:Value}(l:K.lookup f=some ⟨oc,od,.func (PySem.W.fnOf x qual (gI st) (eS st) (aF st) .none kV doc pm an cdv ct),osl⟩)
  (c:PySem.W.codeIn K cdv qual=true)(k:PySem.W.keepIn K (.ref f)=true):Jf K x qual st f (PySem.W.fnOf x qual (gI st) (eS st) (aF st) .none kV doc pm an cdv ct):=⟨⟨oc,od,kV,doc,pm,an,cdv,ct,osl,rfl,l,c⟩,k⟩
end
theorem CZ{A:Around}(hr:fE k A):A.units + 1 < cLine:=Nat.lt_of_le_of_lt (Nat.add_le_add_left (by decide:1 <= 64) _) hr.units
section
variable {X:Cx}
theorem pv(i:Nat){pos:Pos}(hN:X.N[i]? = some x:=by rfl)(hv:TR X.env.scope x:=by first | exact av rfl | exact cC (av rfl) | exact cC (cC rfl))(hd:(x == ("__debug__" : Str))=false:=by decide)
  (hcd:(x == ("__classdict__" : Str))=false:=by decide):PE X (.Name x pos) (j0 i):=Ks hN hv hd hcd
end
theorem Oz{A B:Prop}(h:B):if false=true then A else B:=by
 rw [if_neg iD]
 exact h
theorem OA{A B:Prop}(h:A):if true=true then A else B:=by
 rw [if_pos rfl]
 exact h
def aG(H H':Hp):Prop:=∀ b o,H b=some o->H' b=some o
theorem aG.refl(H:Hp):aG H H:=λ _ _ h=>h
theorem aG.trans{H1 H2:Hp}(a:aG H H1)(b:aG H1 H2):aG H H2:=λ c o h=>b c o (a c o h)
theorem aG.free{H':Hp}(e:aG H H'){l:Addr}(h:H' l=Option.none):H l=Option.none:=by
 cases q:H l with
 | none=>rfl
 | some o =>
  rw [e l o q] at h
  cases h
theorem aG.seq{K:ay}{H':Hp}{a:Addr}{xs:List V}(e:aG H H')(h:bI K H a xs):bI K H' a xs:=by
 rcases h with (h | ⟨o,h⟩) | h
 ·exact .inl (.inl (e _ _ h))
 ·exact .inl (.inr ⟨o,e _ _ h⟩)
 ·exact .inr h
section
variable {X:Cx}
end
section
variable {κ:Type} [DecidableEq κ]
end
end L2
namespace BT
open PySem
theorem fX:bootBuiltins "len" = some (.builtin "len"):=by decide +kernel
theorem sf:bootBuiltins "isinstance" = some (.builtin "isinstance"):=by decide +kernel
theorem wY:bootBuiltins "list" = some (.type "list"):=by decide +kernel
theorem wZ:bootBuiltins "dict" = some (.type "dict"):=by decide +kernel
theorem C0:bootBuiltins "set" = some (.type "set"):=by decide +kernel
end BT
namespace L2
open PySem PySem.Spec PyProof.Rows
variable {elt iter:Expr}{ifs:List Expr}{scope:Scope}{pos px:Pos}{x:Str}{cl:List (Str × Addr)}{fr:List Str}{ix:List Nat}{tt:TT}{te:TE}
section
variable {X:Cx}
def Gm(t u:TS):TS:=λ D σ H=>∃ J:St->Hp->Prop,t { D with nx:=J } σ H /\ ∀ σ' H',J σ' H'->u D σ' H'
theorem sj{st:Stmt}{rest:List Stmt}{t u:TS}(h1:PS X st t)(h2:ql X rest u):ql X (st :: rest) (Gm t u):=by
 intro pins s σ H D I h
 obtain ⟨J,h,k⟩:=h
 refine wpAny_execs_cons (cA (h1 pins s σ H _ I h) λ f s1 q=>?_)
 cases f with
 | next =>
  obtain ⟨σ1,H1,I1,j⟩:=q
  exact h2 pins s1 σ1 H1 D I1 (k σ1 H1 j)
 | brk=>exact q
 | cont=>exact q
 | ret u=>exact q
end
section
variable {prog:Program}{w:World}{A:Around}{R:Result->Shared->Prop}{s:Shared}
theorem kC{target:Expr}{it acc:Value}{env:Env}(I:Nat->Shared->Prop)
  (turn:∀ n s,I n s->wpAny (model prog w) A (pyNext it) (λ r s₁=>match r with
   | none=>R (.ok .next) s₁
   | some v=>wpAny (model prog w) A (letOwnedTupleGo target it v) (λ _ s₀=>wpAny (model prog w) A (assign target env v) (λ _ s₂ =>
     wpAny (model prog w) A (forIn ifs true λ c r=>if r=true then do let ok <- isTrue c env (eval c env); pure (ForInStep.yield ok) else pure (ForInStep.yield r)) (λ ok s₃ =>
      if ok=true then wpAny (model prog w) A (eval elt env) (λ x s₄ =>
       wpAny (model prog w) A (call (.builtin "list.append") [acc,x]) (λ _ s₅=>∃ m,m < n /\ I m s₅) (notedBy (model prog w) A env λ e s'=>R (.error e) s') s₄) (notedBy (model prog w) A env λ e s'=>R (.error e) s') s₃
      else ∃ m,m < n /\ I m s₃) (notedBy (model prog w) A env λ e s'=>R (.error e) s') s₂) (notedBy (model prog w) A env λ e s'=>R (.error e) s') s₀) (notedBy (model prog w) A env λ e s'=>R (.error e) s') s₁) (notedBy (model prog w) A env λ e s'=>R (.error e) s') s)
  (n:Nat)(h:I n s):
  codeAny (model prog w) A (.compLoop (.ListComp elt [⟨target,iter,ifs,0⟩] scope pos) 0 it acc env) R s:=by
 refine codeAny_loop rfl I (λ n s hI=>?_) n h
 show wpAny _ A ((compTurn (.ListComp elt [⟨target,iter,ifs,0⟩] scope pos) 0 it acc env).onRaise (λ x=>do noteFrame x env; theTreesLotGoes x)) _ _ s
 refine wpAny_noted ?_
 rw [compTurn_list]
 refine af (wpAny_standAt (af (wpAny_mono (turn n s hI) (λ r s₁ h₁=>?_) λ _ _ h'=>h')))
 cases r with
 | none=>exact aE h₁
 | some v =>
  refine af (wpAny_mono h₁ (λ _ s₀ h₀=>?_) λ _ _ h'=>h')
  refine af (wpAny_mono h₀ (λ _ s₂ h₂=>af (wpAny_mono h₂ (λ ok s₃ h₃=>?_) λ _ _ h'=>h')) λ _ _ h'=>h')
  cases ok with
  | false=>exact aE ⟨rfl,h₃⟩
  | true =>
   exact af (af (wpAny_mono h₃ (λ x s₄ h₄=>af (wpAny_mono h₄ (λ _ s₅ h₅=>aE (aE ⟨rfl,h₅⟩)) λ _ _ h'=>h')) λ _ _ h'=>h'))
end
def jL(X:Cx)(N:List Str)(scope:Scope)(cl:List (Str × Addr))(C:Addr)(fp:List Addr)(s:Shared)(H:Hp):Cx where
 prog:=X.prog
 w:=X.w
 K:=X.K
 mg:=X.mg
 base:=X.base
 A:=X.A
 N:=N
 s₀:=s
 H₀:=H
 env:=compEnvC scope cl C X.env
 outer:=X.stack
 stack:=X.stack
 ex:=fp
 fn:=λ _=>false
 calm:=X.calm
 pn:=[]
 xe:=λ _ _=>False
structure bY (X:Cx) (scope:Scope) (cl:List (Str × Addr)) (x:Str) (fr:List Str) (ix:List Nat):Prop where
 calm:X.calm=true
 clos:closureFor scope X.env=pure cl
 cell:∀ y∈scope.names,y.2 ≠ .cell
 kind:scope.kind=.function
 names:∀ y∈scope.names,y.2=.local->scope.names.lookup y.1=some .local
 loc:scope.names.lookup x=some .local
 nd:(x :: fr).Nodup
 Ci:∀ y c,cl.lookup y=some c->X.env.cells.lookup y=some c
 C1:∀ y,((relabel scope X.env).names.lookup y=some .cell \/ (relabel scope X.env).names.lookup y=some .free)->∃ c,cl.lookup y=some c
 fx:∀ (j:Nat) y,fr[j]? = some y->∃ i:Nat,ix[j]? = some i /\ X.N[i]? = some y /\ (X.env.kindOf y=some .cell \/ X.env.kindOf y=some .free) /\ ((relabel scope X.env).names.lookup y=some .cell \/ (relabel scope X.env).names.lookup y=some .free)
 len:fr.length=ix.length
def PF(X:Cx)(ifs:List Expr)(t:TT):Prop :=
 ∀ (pins:List (Addr × Obj)) (s:Shared) (σ:St) (H:Hp) (Q:Bool->Hp->Prop),Inv X pins σ H s->t σ H Q ->
  wpAny (model X.prog X.w) X.A (forIn ifs true λ c r=>if r=true then do let ok <- isTrue c X.env (eval c X.env); pure (ForInStep.yield ok) else pure (ForInStep.yield r)) (TP X pins σ Q) X.xe s
def OB:TT:=λ _ H Q=>Q true H
theorem gW{X:Cx}:PF X [] OB:=λ _ _ _ H _ I h=>wpAny_tests_nil ⟨H,I,h⟩
theorem l5{X:Cx}{c:Expr}{t:TT}(h:PT X c t):PF X [c] t:=λ pins s σ H Q I q=>wpAny_tests_one (h pins s σ H Q I q)
def cut(ix:List Nat)(σ:St):St:=ix.map λ i=>(σ[i]?).join
section
variable {X:Cx}{pins:List (Addr × Obj)}{σ:St}{H:Hp}{s:Shared}
theorem Inv.tR{D:Addr}{o:HO}(I:Inv X pins σ H s)(f:c9 X pins H D)(new:bU X.prog X.w (upd H D o) s.heap D o):Inv X pins σ (upd H D o) s:=by
 have hn:H D=none:=f.1
 have ne:∀ b u,H b=some u->b ≠ D:=λ b u e=>aV e hn
 have hok:iY X.prog X.w (upd H D o) s.heap:=λ b u e=>by
  by_cases hb:b=D
  ·subst hb
   rw [cE] at e; cases e
   exact new
  ·rw [aP hb] at e
   exact (I.hok b u e).stay (λ _ _ _ q=>q) (λ c q=>by rw [aP (ne _ _ q)]; exact q) λ c xs q=>by rw [aP (ne _ _ q)]; exact q
 exact I.step (H':=upd H D o) (h':=s.heap) (g':=s.gens) (t':=s.toks) (d':=s.drawn) (ch:=[D]) (λ b hb=>by
   have e:b=D:=by simpa using hb
   subst e; exact ⟨f.2.2.2.1,f.2.1,f.2.2.2.2.1,f.2.2.2.2.2⟩)
  (λ b o _ _ _ e _=>e) (λ b o _ _ _ e _=>⟨o.slots,e⟩) (λ b o hb e n=>by rw [aP (λ z=>hb (by simp [z]))]; exact n)
  (λ b o _ e=>⟨o,e⟩) (λ b xs e=>by rw [aP (ne _ _ e)]; exact e) (λ b o u e=>by rw [aP (ne _ _ e)]; exact e) (λ b ps e=>⟨#[],by rw [aP (ne _ _ e),e]; simp⟩)
  (λ m hm=>hm) hok I.bare
theorem oO{E:Value->Shared->Prop}{RR:Value->Addr->Result->Shared->Prop}
  (O:bY X scope cl x fr ix)(ht:∀ C fp s H,PF (jL X (x :: fr) scope cl C fp s H) ifs tt)(he:∀ C fp s H,PE (jL X (x :: fr) scope cl C fp s H) elt te)
  {it:Addr}{fp:List Addr}{tn:Nat->Heap->Prop}{J:It}{H2:Hp}{s2:Shared}(I2:Inv X pins σ H2 s2)(T:Turn X.prog X.w X.K (.Name x px) J fp it tn)(st2:tn 0 s2.heap)(f2:∀ b∈fp,c9 X pins H2 b)
  (Z:List V->Hp->Prop)(W:Nat->Nat->List V->Hp->Prop)(m0:Nat)(w0:W 0 m0 [] H2)
  (turn:∀ i m ys H,W i m ys H->(J.stop i H /\ Z ys H) \/ (J.go i H /\ ys.length < sizeLine /\ ∃ N:List V->Hp->Prop,(∀ ys' H',N ys' H'->∃ m',m' < m /\ W (i + 1) m' ys' H') /\
   ∀ v H',J.Cg i H v H'->tt (some v :: cut ix σ) H' λ b H3=>if b=true then te (some v :: cut ix σ) H3 λ y H4=>N (ys++[y]) H4 else N ys H3))
  (hRR:∀ D C s' ys H',Inv X pins σ (upd H' D (.lst ys)) s'->(∃ m,s'.heap.Ns C m)->c9 X pins (upd H' D (.lst ys)) C->H' D=none->Z ys H'->RR (.ref D) C (.ok .next) s'):
  wpAny (model X.prog X.w) X.A (newList []) (λ acc s₃=>wpAny (model X.prog X.w) X.A (newFunctionEnv scope X.env.globals cl [] X.env.qual none .none (some X.env)) (λ cenv s₄ =>
   codeAny (model X.prog X.w) X.A (.compStart (.ListComp elt [⟨.Name x px,iter,ifs,0⟩] scope pos) 0 (.ref it) acc { cenv with scope:=relabel scope X.env }) (RR acc cenv.locals) s₄) E s₃) E s2:=by
 refine wpAny_newObj_type (wpAny_newFunctionEnv O.cell (by intro y hy; simp at hy) (λ h₁ w4 sr=>?_) O.kind)
 dsimp only at w4 sr ⊢
 generalize hG:s2.heap.push { cls:=.type "list", dict:=none,data:=.seq ([]:List Value).toArray }=G at w4 sr ⊢
 have hC:G.objs.size=s2.heap.objs.size + 1:=by rw [<- hG,cU]
 have hDC:s2.heap.objs.size ≠ G.objs.size:=by rw [hC]; exact aO (jX _)
 have w5:s2.heap.objs.size <= G.objs.size:=by rw [hC]; exact gT _
 have below:∀ b,b < s2.heap.objs.size->b ≠ G.objs.size /\ b ≠ s2.heap.objs.size:=λ b hb=>⟨by rw [hC]; exact aO (ja hb),aO hb⟩
 have old:∀ b o,s2.heap.get? b=some o->h₁.get? b=some o:=λ b o e=>sr.extBut b o (below b (aD e)).1 (bS _ (hG ▸ bS _ e))
 have hacc:h₁.get? s2.heap.objs.size=some { cls:=.type "list", data:=.seq ([]:List Value).toArray }:=sr.extBut _ _ hDC (bS _ (hG ▸ fJ _ rfl))
 have OC:H2 s2.heap.objs.size=none:=I2.hok.fresh (ak _)
 have OD:H2 G.objs.size=none:=I2.hok.fresh w5
 have fD:c9 X pins H2 s2.heap.objs.size:=I2.jJ (ak _) OC
 have fC:c9 X pins H2 G.objs.size:=I2.jJ w5 OD
 have w6:∀ b∈fp,b < s2.heap.objs.size:=λ b hb=>by
  obtain ⟨o,e,_⟩:=T.obj _ _ st2 b hb
  exact aD e
 have qK:∀ b∈frs X.stack,b∈X.env.locals :: X.fs:=I2.oj
 have dg:=O.Ci
 have ok:(jL X (x :: fr) scope cl G.objs.size fp s2 H2).Ok:=by
  refine ⟨I2.ok.mod,O.kind,I2.ok.glob,I2.ok.blt,w5,λ y z c h1 h2=>I2.ok.inj y z c (dg y c h1) (dg z c h2),λ y hy=>O.C1 y hy,λ y c h _=>absurd h iD,λ h=>I2.ok.hd h,I2.ok.frames,.inl rfl,λ b hb=>?_,I2.bs,br I2.ok.Cf I2.sz,λ b o e hb=>?_,λ b hb hs=>?_,I2.stack,I2.nh⟩
  ·exact ⟨(below b (w6 b hb)).1,λ y c e=>(f2 b hb).2.2.2.2.1 y c (dg y c e)⟩
  ·rcases (f2 b hb).2.2.2.1 with z | z
   ·exact I2.ok.Aw b o e z
   ·exact absurd (bN (aD (I2.ok.bs b o e).1) z) (cV _)
  ·rcases aB.mp (qK b hs) with z | z
   ·exact (f2 b hb).2.1 z
   ·exact (f2 b hb).2.2.1 z
 have OE:∀ b,s2.heap.objs.size <= b->b ∉ frs X.stack:=λ b hb hs=>by
  rcases aB.mp (qK b hs) with z | z
  ·exact absurd (bN I2.lt (z ▸ hb)) (cV _)
  ·exact I2.Kq hb z
 have Ic:Inv (jL X (x :: fr) scope cl G.objs.size fp s2 H2) [(s2.heap.objs.size,{ cls:=.type "list", data:=.seq ([]:List Value).toArray })] (none :: cut ix σ) H2 { s2 with heap:=h₁,toks:=s2.toks + ([]:List (Str × Value)).length }:=by
  refine ⟨ok,rfl,I2.bare,Un.kept old,⟨_,w4,λ i y v h1 h2 h3=>?_⟩,λ y c e=>?_,OD,λ y c e=>I2.gr y c (dg y c e),λ p hp=>?_,I2.hok.kept old,?_⟩
  ·cases i with
   | zero=>cases h2
   | succ j =>
    have h1:fr[j]? = some y:=h1
    have h2:(cut ix σ)[j]? = some (some v):=h2
    obtain ⟨i,e1,e2,k,kc⟩:=O.fx j y h1
    obtain ⟨c,e3⟩:=O.C1 y kc
    have e4:σ[i]? = some (some v):=by
     unfold cut at h2
     rw [aS,e1] at h2
     have h2:some ((σ[i]?).join)=some (some v):=h2
     have h2:=Option.some.inj h2
     cases q:σ[i]? with
     | none=>rw [q] at h2; cases h2
     | some z=>rw [q] at h2; exact congrArg some h2
    obtain ⟨m,_,hl⟩:=I2.loc
    obtain ⟨u,r,l⟩:=hl i y v e2 e4 (k.elim (λ z=>.inr (.inl z)) λ z=>.inr (.inr z))
    refine ⟨u,r,.inr ⟨kc,c,e3,?_⟩⟩
    rcases l with ⟨l1,_⟩ | ⟨_,c',l2,l3⟩
    ·rcases k with k | k <;> (rw [k] at l1; cases l1)
    ·have e5:=dg y c e3
     rw [l2] at e5; cases e5
     obtain ⟨o,ho,hd⟩:=l3
     exact ⟨o,old _ _ ho,hd⟩
  ·obtain ⟨v,o,ho,hd⟩:=I2.cell y c (dg y c e)
   exact ⟨v,o,old _ _ ho,hd⟩
  ·have e:p=(s2.heap.objs.size,{ cls:=.type "list", data:=.seq ([]:List Value).toArray }):=by simpa [jL] using hp
   subst e
   exact ⟨hacc,OC,hDC,OE _ (ak _),λ v z=>by cases z⟩
  ·show (none :: cut ix σ).length=(x :: fr).length
   unfold cut
   simp [O.len]
 have xg:∀ b∈fp,b ≠ s2.heap.objs.size:=λ b hb=>(below b (w6 b hb)).2
 have oA:∀ {pl:List (Addr × Obj)} {H':Hp},(∀ p∈pl,p.1=s2.heap.objs.size)->(∀ b∈fp,H' b=none)->∀ b∈fp,c9 (jL X (x :: fr) scope cl G.objs.size fp s2 H2) pl H' b:=λ {pl H'} hp hn b hb =>
  ⟨hn b hb,(below b (w6 b hb)).1,λ hs=>ok.Ax b hb hs,.inl hb,λ y c e=>(f2 b hb).2.2.2.2.1 y c (dg y c e),λ p K2 z=>xg b hb (z.symm.trans (hp p K2))⟩
 have one:∀ {o:Obj},∀ p∈[(s2.heap.objs.size,o)],p.1=s2.heap.objs.size:=λ p hp=>by
  have e:=au.mp hp
  rw [e]
 have loop:codeAny (model X.prog X.w) X.A (.compLoop (.ListComp elt [⟨.Name x px,iter,ifs,0⟩] scope pos) 0 (.ref it) (.ref s2.heap.objs.size) (compEnvC scope cl G.objs.size X.env)) (RR (.ref s2.heap.objs.size) G.objs.size)
   { s2 with heap:=h₁,toks:=s2.toks + ([]:List (Str × Value)).length }:=by
  refine kC (λ n s'=>∃ (i:Nat) (ys:List V) (its:List Value) (c:Nat) (z:Option V) (H':Hp),Inv (jL X (x :: fr) scope cl G.objs.size fp s2 H2) [(s2.heap.objs.size,{ cls:=.type "list", data:=.seq its.toArray c })] (z :: cut ix σ) H' s' /\ tn i s'.heap /\ (∀ b∈fp,H' b=none) /\ Vals ys its /\ ys.length <= sizeLine /\ W i n ys H') ?_ m0
   ⟨0,[],[],0,none,H2,Ic,T.keep _ _ _ st2 (λ b _ o e=>old b o e),λ b hb=>(f2 b hb).1,.nil,aL _,w0⟩
  rintro n s3 ⟨i,ys,its,c,z,H3,I3,st3,IU,rv,hl3,w3⟩
  rcases turn i n ys H3 w3 with ⟨stop,zz⟩ | ⟨go,hlt,N,hN,step⟩
  ·refine wpAny_mono (T.done (jL X (x :: fr) scope cl G.objs.size fp s2 H2) rfl rfl rfl O.calm i _ s3 _ H3 _ I3 (oA one IU) st3 stop) (λ r s4 h4=>?_) λ _ _ e=>e
   obtain ⟨hr,I4⟩:=h4
   subst hr
   have pD:=I4.pin _ (bg _ (au.mpr rfl))
   have IX:Inv X pins σ H3 s4:=I2.Cr I4.os I4.base I4.hok I4.bare λ b hb=>⟨(f2 b hb).2.2.2.1,(f2 b hb).2.1,(f2 b hb).2.2.2.2.1,(f2 b hb).2.2.2.2.2⟩
   obtain ⟨mC,Uh,_⟩:=I4.loc
   exact hRR _ _ s4 ys H3 (IX.tR ⟨pD.2.1,fD.2⟩ ⟨hl3,its,c,rv,pD.1⟩) ⟨mC,Uh⟩ ⟨by rw [aP (aZ hDC)]; exact I4.free,fC.2⟩ pD.2.1 zz
  ·refine wpAny_mono (T.item (jL X (x :: fr) scope cl G.objs.size fp s2 H2) rfl rfl rfl O.calm i _ s3 _ H3 _ I3 (oA one IU) st3 go) (λ r s4 h4=>?_) λ _ _ e=>e
   obtain ⟨u,hr,h4⟩:=h4
   subst hr
   refine wpAny_mono h4 (λ _ s5 h5=>?_) λ _ _ e=>e
   obtain ⟨v,H5,I5,r5,y5,wL,N8⟩:=h5
   have N9:=I5.pinned (oA one N8) (T.obj _ _ wL)
   refine wpAny_assign_Name (om N9 (i:=0) O.nd rfl (.inl (lookup_relabel_local O.loc)) r5 (λ s6 I6=>?_) (.inr (lookup_relabel_local O.loc)))
   have I6:Inv (jL X (x :: fr) scope cl G.objs.size fp s2 H2) _ (some v :: cut ix σ) H5 s6:=I6
   refine wpAny_mono (ht _ _ _ _ _ s6 _ H5 _ I6 (step v H5 y5)) (λ ok s7 h7=>?_) λ _ _ f=>False.elim f
   obtain ⟨H7,I7,q7⟩:=h7
   cases ok with
   | true =>
    rw [if_pos rfl] at q7 ⊢
    refine wpAny_mono (he _ _ _ _ _ s7 _ H7 _ I7 q7) (λ uy s8 h8=>?_) λ _ _ f=>False.elim f
    obtain ⟨y,H8,I8,r8,n8⟩:=h8
    have pD:=I8.pin _ (bg _ (gR _ (au.mpr rfl)))
    have rl:=rv.length
    refine append_at (hsz:=by rw [aM]; omega) pD.1 λ h9 OF Ui=>?_
    obtain ⟨m',hm,w9⟩:=hN _ _ n8
    have Ia:Inv (jL X (x :: fr) scope cl G.objs.size fp s2 H2) (jd fp s5.heap) (some v :: cut ix σ) H8 s8:=I8.ju λ p hp=>I8.pin p (bg _ (bg _ hp))
    have Ib:=Ia.turned (h':=h9) (t':=s8.toks) (it:=s2.heap.objs.size) (λ b o hb e=>OF.extBut b o hb e) pD.2.1 hDC (.inr (ak _)) (λ y c e=>fD.2.2.2.2.1 y c (dg y c e))
     λ p hp=>by
      obtain ⟨hb,_⟩:=lX (fp:=fp) (h:=s5.heap) (show p∈jd fp s5.heap from hp)
      exact xg p.1 hb
    refine ⟨m',hm,i + 1,ys++[y],its++[uy],c + 1,some v,H8,Ib.ju λ p hp=>?_,T.keep _ _ _ wL λ b hb o e=>?_,λ b hb=>?_,rv.append (.cons r8 .nil),by rw [aN,dW]; omega,w9⟩
    ·have e:=au.mp hp
     subst e
     refine ⟨?_,pD.2.1,hDC,pD.2.2.2.1,λ v z=>by cases z⟩
     have q:its.toArray.push uy=(its++[uy]).toArray:=by simp
     rw [<- q]
     exact Ui
    ·exact OF.extBut b o (xg b hb) (I8.pin (b,o) (bg _ (bg _ (cH hb e)))).1
    ·obtain ⟨o,e,d⟩:=T.obj _ _ wL b hb
     exact (I8.pin (b,o) (bg _ (bg _ (cH hb e)))).2.1
   | false =>
    rw [if_neg iD] at q7 ⊢
    obtain ⟨m',hm,w9⟩:=hN _ _ q7
    refine ⟨m',hm,i + 1,ys,its,c,some v,H7,I7.je,T.keep _ _ _ wL λ b hb o e=>?_,λ b hb=>?_,rv,hl3,w9⟩
    ·exact (I7.pin (b,o) (bg _ (bg _ (cH hb e)))).1
    ·obtain ⟨o,e,d⟩:=T.obj _ _ wL b hb
     exact (I7.pin (b,o) (bg _ (bg _ (cH hb e)))).2.1
 exact codeAny_compStart_list loop (T.self _ 0 _ _ _ (T.keep _ _ _ st2 λ b _ o e=>old b o e) loop)
def C2(wi:TI)(tt:TT)(te:TE)(ix:List Nat):TE:=λ σ H Q=>wi σ H λ J H1=>∃ W:Nat->Nat->List V->Hp->Prop,(∃ m,W 0 m [] H1) /\ ∀ i m ys H,W i m ys H ->
 (J.stop i H /\ ∀ p,H p=none->Q (.ref p) (upd H p (.lst ys))) \/ (J.go i H /\ ys.length < sizeLine /\ ∃ N:List V->Hp->Prop,(∀ ys' H',N ys' H'->∃ m',m' < m /\ W (i + 1) m' ys' H') /\
  ∀ v H',J.Cg i H v H'->tt (some v :: cut ix σ) H' λ b H3=>if b=true then te (some v :: cut ix σ) H3 λ y H4=>N (ys++[y]) H4 else N ys H3)
theorem f9{wi:TI}(O:bY X scope cl x fr ix)(hi:PI X (.Name x px) iter wi)
  (ht:∀ C fp s H,PF (jL X (x :: fr) scope cl C fp s H) ifs tt)(he:∀ C fp s H,PE (jL X (x :: fr) scope cl C fp s H) elt te)
  (hs:∀ v,foldedSetIterable iter X.env v=pure v:=by intro _; rfl):PE X (.ListComp elt [⟨.Name x px,iter,ifs,0⟩] scope pos) (C2 wi tt te ix):=by
 intro pins s σ H Q I h
 rw [eval_ListComp]
 refine wpAny_comprehension_free (use:=none) rfl hs O.clos O.kind O.names (cA (hi pins s σ H _ I h) λ v s1 h1=>cA h1 λ itv s2 h2=>?_)
 obtain ⟨it,fp,tn,J,H2,e,I2,T,st2,f2,W,⟨m0,w0⟩,turn⟩:=h2
 subst e
 refine oO O ht he I2 T st2 f2 (λ ys H=>∀ p,H p=none->Q (.ref p) (upd H p (.lst ys))) W m0 w0 turn λ D C s' ys H' I' hm fC hD z=>?_
 obtain ⟨m,hm⟩:=hm
 refine ⟨m,hm,λ h' hs'=>?_⟩
 exact ⟨.ref D,_,I'.turned (t':=s'.toks) (it:=C) (λ b o hb e=>hs'.extBut b o hb e) fC.1 fC.2.1 fC.2.2.2.1 fC.2.2.2.2.1 fC.2.2.2.2.2,rfl,z D hD⟩
def C3(te:TE)(i:Nat):TS:=λ D σ H=>te σ H λ v H1=>D.nx (σ.set i (some v)) H1
theorem kD{i:Nat}{y:Str}{py spos:Pos}{wi:TI}(hN:X.N.Nodup)(Uj:X.N[i]? = some y)(hy:Loc X.env.scope y)
  (O:bY X scope cl x fr ix)(hi:PI X (.Name x px) iter wi)
  (ht:∀ C fp s H,PF (jL X (x :: fr) scope cl C fp s H) ifs tt)(he:∀ C fp s H,PE (jL X (x :: fr) scope cl C fp s H) elt te)
  (hsw:swapsWith (.ListComp elt [⟨.Name x px,iter,ifs,0⟩] scope pos) (some (.Name y py)) spos.line X.env=pure true:=by rfl)
  (hs:∀ v,foldedSetIterable iter X.env v=pure v:=by intro _; rfl)(hf:X.fn y=true \/ X.env.scope.names.lookup y=some .local:=by first | exact .inl rfl | exact .inr rfl | assumption):
  PS X (.Assign [.Name y py] (.ListComp elt [⟨.Name x px,iter,ifs,0⟩] scope pos) spos) (C3 (C2 wi tt te ix) i):=by
 intro pins s σ H D I h
 rw [exec_Assign_Name_used _ _ _ _ hsw]
 refine af (wpAny_standAt (af ?_))
 show wpAny _ X.A (do let _ <- comprehension (.ListComp elt [⟨.Name x px,iter,ifs,0⟩] scope pos) scope X.env _ (newList []) false (eval iter X.env) (some (assign (.Name y py) X.env))) _ _ s
 refine af (wpAny_mono (wpAny_comprehension_free (use:=some (assign (.Name y py) X.env)) (Q:=λ _ s'=>SP X pins D .next s') rfl hs O.clos O.kind O.names
  (cA (hi pins s σ H _ I h) λ v s1 h1=>cA h1 λ itv s2 h2=>?_)) (λ _ s' hq=>aE (aE hq)) λ _ _ e=>e)
 obtain ⟨it,fp,tn,J,H2,e,I2,T,st2,f2,W,⟨m0,w0⟩,turn⟩:=h2
 subst e
 refine oO O ht he I2 T st2 f2 (λ ys H=>∀ p,H p=none->D.nx (σ.set i (some (.ref p))) (upd H p (.lst ys))) W m0 w0 turn λ L C s' ys H' I' hm fC hD z=>?_
 obtain ⟨m,hm⟩:=hm
 show wpAny _ X.A (assign (.Name y py) X.env (.ref L)) _ _ _
 refine wpAny_assign_Name (lU I' hN Uj hy (v:=.ref L) rfl (λ s'' Uk Gn=>?_) hf)
 obtain ⟨a,Gn,ha⟩:=Gn
 have Ul:C ≠ a:=by
  rcases ha with z | z
  ·rw [z]; exact fC.2.1
  ·exact aZ (fC.2.2.2.2.1 _ _ z)
 refine ⟨m,hm.sameBut Gn Ul,λ h' hs'=>?_⟩
 exact ⟨_,_,Uk.turned (t':=s''.toks) (it:=C) (λ b o hb e=>hs'.extBut b o hb e) fC.1 fC.2.1 fC.2.2.2.1 fC.2.2.2.2.1 fC.2.2.2.2.2,z L hD⟩
theorem bY.plain(calm:X.calm=true)(cell:∀ y∈scope.names,y.2 ≠ .cell)(free:∀ y∈scope.names,y.2 ≠ .free)(kind:scope.kind=.function)
  (names:∀ y∈scope.names,y.2=.local->scope.names.lookup y.1=some .local)(loc:scope.names.lookup x=some .local):bY X scope [] x [] [] where
 calm:=calm
 clos:=closureFor_none free
 cell:=cell
 kind:=kind
 names:=names
 loc:=loc
 nd:=by simp
 Ci:=λ y c h=>by cases h
 C1:=λ y h=>by
  exfalso
  have mem:∀ {k:NameKind},(relabel scope X.env).names.lookup y=some k->∃ z∈scope.names,(if (z.2 == .free && X.env.scope.kind == .function && X.env.kindOf z.1 == some .cell) then (z.1,NameKind.cell) else (z.1,z.2))=(y,k):=λ {k} e=>by
   have q:=eO e
   obtain ⟨z,hz,e⟩:=aA.mp q
   exact ⟨z,hz,e⟩
  rcases h with h | h
  ·obtain ⟨z,hz,e⟩:=mem h
   have n1:=free z hz
   have n2:(z.2 == NameKind.free)=false:=by cases hk:z.2 <;> first | rfl | exact absurd hk n1
   rw [n2,nS,nS,if_neg iD] at e
   exact cell z hz (congrArg Prod.snd e)
  ·obtain ⟨z,hz,e⟩:=mem h
   have n1:=free z hz
   have n2:(z.2 == NameKind.free)=false:=by cases hk:z.2 <;> first | rfl | exact absurd hk n1
   rw [n2,nS,nS,if_neg iD] at e
   exact n1 (congrArg Prod.snd e)
 fx:=λ j y h=>by cases j <;> cases h
 len:=rfl
end
section
variable {X:Cx}
theorem C4:cX X (.builtin "isinstance") (λ xs H Q=>∃ x T t b,xs=[x,.ty T] /\ kq X.K H x t /\ PySem.W.kitOne X.K t (.type T)=some b /\ Q (.bl b) H):=by
 intro pins s σ H xs us Q I r h
 obtain ⟨x,T,t,b,rfl,ty,e,q⟩:=h
 obtain ⟨u,u',rfl,r1,r2⟩:=vals2 r
 cases r2
 exact AE I r1 ty e λ tk=>⟨.bl b,H,I.tok tk,rfl,q⟩
end
end L2
namespace RV
open PySem
variable {t:Addr}
theorem AK:Manifest.owners.lookup (String.ofList ['d','e','s','r','e','v','e','r'].reverse)=some Manifest.sig_reversed:=by kernel_rfl
theorem slot_next:Slot "reversed" "__next__" "reversed.__next__" :=
 .of (owner := "reversed") (n := "__next__") (by rw [typeLookup_type,builtinLookup_eq_fast]; kernel_rfl) (by decide +kernel) (by decide +kernel) (by decide +kernel)
  (by first | exact .inl (by decide +kernel) | exact .inr (by decide +kernel)) (by rw [isSubtype_type]; kernel_rfl)
theorem entry_next:entryFor table "reversed.__next__" = some Builtin.«reversed.__next__»:=entryFor_of_tree (by kernel_rfl)
theorem args_next(a:Value):argsOk "reversed.__next__" ⟨[a],[]⟩:=by
 unfold argsOk; rw [signature?_of (id := "reversed.__next__") (n:=['_','_','t','x','e','n','_','_']) (o:=['d','e','s','r','e','v','e','r']) (by kernel_rfl) AK]; kernel_rfl
def tS(h:Heap)(a t:Addr)(i:Int):Prop:=∃ o,h.get? a=some o /\ o.cls=.type "reversed" /\ o.data=.fields #[.ref t,rawInt i]
section
variable {prog:Program}{w:World}{A:Around}{E:Value->Shared->Prop}{s:Shared}
theorem tS.typeIs{a:Addr}{i:Int}(x:tS s.heap a t i):s.TypeIs (.ref a) "reversed" := let ⟨o,ho,hc,_⟩:=x; ⟨o,ho,hc⟩
theorem tS.at{h h':Heap}{a:Addr}{i:Int}(x:tS h a t i)(e:∀ o,h.get? a=some o->h'.get? a=some o):tS h' a t i:=let ⟨o,ho,r⟩:=x; ⟨o,e _ ho,r⟩
theorem next_item{it:Addr}{i:Nat}{items:Array Value}{x:Value}{Q:Option Value->Shared->Prop}(hit:tS s.heap it t (i:Int))(ht:PyProof.Rows.IsTup s.heap t items)(hx:items[i]? = some x)(hfit:items.size < 2 ^ 62)
  (hQ:∀ h' tk,tS h' it t ((i:Int) - 1)->Heap.SameBut it s.heap h'->Q (some x) { s with heap:=h',toks:=tk }):wpAny (model prog w) A (pyNext (.ref it)) Q E s:=by
 obtain ⟨o,ho,hc,hd⟩:=id hit
 have hlt:i < items.size:=by
  rw [i0] at hx
  exact hx.1
 have hj:seqIndex? (i:Int) items.size=some i:=by
  have h1:¬ ((i:Int) < 0):=by omega
  unfold seqIndex?
  simp [h1,hlt]
 unfold pyNext
 refine af (wpAny_attempt (wpAny_callSpecial?_slot (name:=Str.ofString "__next__") hit.typeIs slot_next
  (wpAny_call_entry slot_next hit.typeIs entry_next ?_ (args_next _))))
 unfold Builtin.«reversed.__next__»
 refine af (wpAny_of_eq (a:=(Value.ref it,[])) rfl ?_)
 try dsimp only
 refine af (wpAny_field ho hd (x:=.ref t) rfl ?_)
 refine af (wpAny_field ho hd (x:=rawInt (i:Int)) rfl ?_)
 show wpAny _ _ (if (i:Int) < 0 then _ else _) _ _ s
 rw [if_neg (by omega)]
 refine af (wpAny_specialOf ht.typeIs PyProof.Rows.slot_tuple_getitem.lookup ?_)
 refine wpAny_ite_split (λ hab=>absurd hab (by decide)) (λ _=>?_)
 refine af (wpAny_mkInt ?_)
 refine af (wpAny_attempt (PyProof.Rows.getItem_tuple ht (by omega) (by omega) hj hx ?_))
 try dsimp only
 refine af (wpAny_field ho hd (x:=rawInt (i:Int)) rfl ?_)
 refine af (wpAny_setField ho hd (by simp) ?_)
 refine aE ⟨x,rfl,aE (hQ _ _ ?_ (gO ..))⟩
 exact ⟨_,c7 _ ho (iI (cW hd _)),(jY ..).trans hc,by
  rw [cW hd]; simp⟩
theorem next_end{it:Addr}{Q:Option Value->Shared->Prop}(hh:A.handled=none)(hit:tS s.heap it t (-1))
  (hQ:∀ h',Heap.ExtBut it s.heap h'->Q none { s with heap:=h' }):wpAny (model prog w) A (pyNext (.ref it)) Q E s:=by
 obtain ⟨o,ho,hc,hd⟩:=id hit
 unfold pyNext
 refine af (wpAny_attempt (wpAny_callSpecial?_slot (name:=Str.ofString "__next__") hit.typeIs slot_next
  (wpAny_call_entry slot_next hit.typeIs entry_next ?_ (args_next _))))
 unfold Builtin.«reversed.__next__»
 refine af (wpAny_of_eq (a:=(Value.ref it,[])) rfl ?_)
 try dsimp only
 refine af (wpAny_field ho hd (x:=.ref t) rfl ?_)
 refine af (wpAny_field ho hd (x:=rawInt (-1)) rfl ?_)
 show wpAny _ _ (if (-1:Int) < 0 then _ else _) _ _ s
 rw [if_pos (by decide)]
 refine af (wpAny_rule ?_)
 refine af ?_
 wp_delta
 refine af (wpAny_setField ho hd (by simp) ?_)
 have ho2:=c7 (Obj.mapFields (·.setIfInBounds 1 (rawInt (-1)))) ho (iI (cW hd _))
 refine wpAny_setField ho2 (cW hd _) (by simp) ?_
 refine af ?_
 show wpAny _ _ (newExc (.type "StopIteration") [] >>= _) _ _ _
 refine af ?_
 simp only [newExc,newTuple]
 refine af (wpAny_newObj_type ?_ (by size_fits))
 refine af (m:=firstArgMember _ _) (wpAny_of_eq (a:=Value.none) (by first | rfl | (simp only [firstArgMember]; rfl)) ?_)
 refine wpAny_newObj_type ?_ (by size_fits)
 simp only [raiseNew]
 refine af (wpAny_handled ?_)
 first | rw [show A.in1.handled=none from hh] | rw [hh]
 refine af (aE (wpAny_throw ?_))
 refine af (wpAny_isInstance (T := "StopIteration") (b:=true) ⟨_,fJ _ rfl,rfl⟩ isSubtype_stop ?_)
 refine aE (hQ _ λ b o' hb e=>?_)
 refine bS _ (bS _ ?_)
 exact (ef _ _ (aZ hb)).trans ((ef _ _ (aZ hb)).trans e)
variable {I:Addr}{fp wr:List Addr}{n:Nat}{P:Nat->Value->Prop}{St:Nat->Heap->Prop}{T:String}
end
end RV
namespace L2
open PySem PySem.Spec PyProof.Rows
variable {v:V}{i j:Int}{b:Bool}{tl:TA}{g:TG}{A B:Prop}{p q a:Addr}{o:HO}{H':Hp}{xs:List V}{R:It->Hp->Prop}{X:Cx}{y x0 x1 x2 x3 x4 x5 x6 x7 x8 x9 Ls:Option V}
section
variable {X:Cx}{tg:Expr}
end
section
variable {K:ay}{nx bk ct:St->Hp->Prop}{rt:VK}{σ:St}{H:Hp}{Q:VK}{P:Bool->Hp->Prop}{ta tb tc te:TE}{t u:TS}{c d:TT}
theorem K3(h:nx σ H):IL ⟨nx,rt,bk,ct⟩ σ H:=h
theorem OG(J:St->Hp->Prop)(h:t ⟨J,rt,bk,ct⟩ σ H)(k:∀ σ' H',J σ' H'->u ⟨nx,rt,bk,ct⟩ σ' H'):Gm t u ⟨nx,rt,bk,ct⟩ σ H:=⟨J,h,k⟩
theorem OH(h:te σ H rt):N1 te ⟨nx,rt,bk,ct⟩ σ H:=h
theorem K4(h:te σ H λ _ H1=>nx σ H1):IM te ⟨nx,rt,bk,ct⟩ σ H:=h
theorem Yi(h:Q v H):tC v σ H Q:=h
theorem Um{r:R2}(h:ta σ H λ x H1=>tb σ H1 λ y H2=>r x y H2 Q):KA r ta tb σ H Q:=h
theorem Uo{r:V->Hp->VK->Prop}(h:ta σ H λ x H1=>r x H1 Q):WV r ta σ H Q:=h
theorem Yj{g:Int->V}(h:Q (g i) H):rU g (.int i) H Q:=⟨i,rfl,h⟩
def AL(P:Bool->Hp->Prop):VK:=λ x H=>∃ k,x=.bl k /\ P k H
theorem OI(h:P b H):AL P (.bl b) H:=⟨b,rfl,h⟩
theorem K5(h:te σ H (AL P)):IW te σ H P:=h
theorem Yk(h:te σ H (AL P)):tB te σ H P:=h
theorem OJ(h:c σ H λ b H1=>if b=true then d σ H1 P else P false H1):NY c d σ H P:=h
theorem Uq(h:c σ H λ b H1=>if b=true then P true H1 else d σ H1 P):WS c d σ H P:=h
theorem OL(h:c σ H λ b H1=>P (!b) H1):NZ c σ H P:=h
theorem OM(h:c σ H λ b H1=>if b=true then ta σ H1 Q else tb σ H1 Q):WT c ta tb σ H Q:=h
theorem Ur{g:Int->Int->V}(h:Q (g i j) H):Nv g (.int i) (.int j) H Q:=⟨i,j,rfl,rfl,h⟩
theorem Yl{C:Int->Int->Prop}{g:Int->Int->V}(hc:C i j)(h:Q (g i j) H):rI C g (.int i) (.int j) H Q:=⟨i,j,rfl,rfl,hc,h⟩
theorem ON(h:Q (.bl (decide (i=j))) H):T8 (.int i) (.int j) H Q:=⟨rfl,by rw [show decide (V.int i=V.int j)=decide (i=j) by simp]; exact h⟩
theorem OO{i j:Str}(h:Q (.bl (decide (i=j))) H):T8 (.str i) (.str j) H Q:=⟨rfl,by rw [show decide (V.str i=V.str j)=decide (i=j) by simp]; exact h⟩
theorem OP(h:Q (.bl (!decide (i=j))) H):WW (.int i) (.int j) H Q:=⟨rfl,by rw [show decide (V.int i=V.int j)=decide (i=j) by simp]; exact h⟩
theorem s_call{sp:Sp}{E:XK}(h:tl σ H λ vs H1=>sp vs H1 Q E):CB sp [] E tl σ H Q:=by
 show tl σ H λ vs H1=>sp (vs++[]) H1 Q E
 simpa only [eE] using h
theorem OQ{R:List V->Hp->Prop}(h:R [] H):Oe σ H R:=h
theorem K6{R:List V->Hp->Prop}(h:ta σ H λ x H1=>tl σ H1 λ xs H2=>R (x :: xs) H2):IY ta tl σ H R:=h
theorem Us{r:List V->Hp->VK->Prop}(h:tl σ H λ vs H1=>r vs H1 Q):Ub r tl σ H Q:=h
theorem OR(h:te σ H λ x H1=>g x σ H1 nx):N5 te g ⟨nx,rt,bk,ct⟩ σ H:=h
theorem yZ(h1:b=true->A)(h2:b=false->B):if b=true then A else B:=by
 cases b
 ·rw [if_neg iD]; exact h2 rfl
 ·rw [if_pos rfl]; exact h1 rfl
theorem K7{p:Prop}[Decidable p](h1:p->A)(h2:¬ p->B):if decide p=true then A else B:=yZ (λ h=>h1 (of_decide_eq_true h)) λ h=>h2 (of_decide_eq_false h)
theorem C5{p:Prop}[Decidable p](h1:¬ p->A)(h2:p->B):if (!decide p)=true then A else B:=yZ (λ h=>h1 (by simpa using h)) λ h=>h2 (by simpa using h)
theorem K8{p:Prop}[Decidable p](hp:p)(h:B):if (!decide p)=true then A else B:=C5 (λ n=>absurd hp n) λ _=>h
theorem OS(h:B):if (!true)=true then A else B:=Oz h
theorem OT(h:A):if (!false)=true then A else B:=OA h
def eT(H:Hp)(p:Addr)(o:HO)(H':Hp):Prop:=H p=none /\ H'=upd H p o
def kh(H:Hp)(p:Addr)(o:HO)(H':Hp):Prop:=H'=upd H p o
theorem eT.self(n:eT H p o H'):H' p=some o:=by rw [n.2]; exact cE
theorem eT.keep{v:HO}(n:eT H p o H')(h:H q=some v):H' q=some v:=by rw [n.2,aP (aV h n.1)]; exact h
theorem eT.same(n:eT H p o H'):aG H H':=λ _ _ h=>n.keep h
theorem eT.none{H':Hp}(n:eT H p o H')(h:H' q=Option.none):H q=Option.none:=n.same.free h
theorem eT.ne{v:HO}{H':Hp}(n:eT H p o H')(h:H q=some v):q ≠ p:=aV h n.1
theorem kh.self(n:kh H p o H'):H' p=some o:=by rw [show H'=upd H p o from n]; exact cE
theorem kh.keep{v:HO}(n:kh H p o H')(ne:q ≠ p)(h:H q=some v):H' q=some v:=by rw [show H'=upd H p o from n,aP ne]; exact h
theorem kh.none{v:HO}(n:kh H p o H')(hp:H p=some v)(h:H q=Option.none):H' q=Option.none:=by rw [show H'=upd H p o from n,aP (λ e=>by rw [e,hp] at h; cases h)]; exact h
def OU(xs:List V)(H:Hp)(Q:VK):Prop:=xs.length <= sizeLine /\ ∀ p,H p=none->Q (.ref p) (upd H p (.tup xs))
def OV(xs:List V)(H:Hp)(Q:VK):Prop:=xs.length <= sizeLine /\ ∀ p,H p=none->Q (.ref p) (upd H p (.lst xs))
theorem OW(h:tl σ H λ xs H1=>OU xs H1 Q):Of tl σ H Q:=h
theorem OX(h:tl σ H λ xs H1=>OV xs H1 Q):Og tl σ H Q:=h
theorem K9(hz:xs.length <= 1000)(h:∀ p H',eT H p (.tup xs) H'->Q (.ref p) H'):OU xs H Q:=⟨br hz (by decide),λ p hp=>h p _ ⟨hp,rfl⟩⟩
theorem La(hz:xs.length <= 1000)(h:∀ p H',eT H p (.lst xs) H'->Q (.ref p) H'):OV xs H Q:=⟨br hz (by decide),λ p hp=>h p _ ⟨hp,rfl⟩⟩
theorem fj(hS:bI K H p xs)(hv:rW xs i=some v)(h:Q v H):KS K (.ref p) (.int i) H Q:=⟨p,xs,i,v,rfl,rfl,hS,hv,h⟩
theorem C6(hS:gm K H p xs)(hv:rW xs i=some v)(h:Q v H):KU K (.ref p) (.int i) H Q:=⟨p,xs,i,v,rfl,rfl,hS,hv,h⟩
theorem Ut{x:V}(hS:bI K H p xs \/ gm K H p xs)(h1:iS x=true)(h2:xs.all iS=true)(h:Q (.bl (tF x xs)) H):R1 K false x (.ref p) H Q:=⟨p,xs,rfl,hS,h1,h2,h⟩
theorem OY{x:V}(hS:bI K H p xs \/ gm K H p xs)(h1:iS x=true)(h2:xs.all iS=true)(h:Q (.bl (!tF x xs)) H):R1 K true x (.ref p) H Q:=⟨p,xs,rfl,hS,h1,h2,h⟩
theorem Uu{T:String}{r:V->List V->Hp->VK->Prop}(h:ta σ H λ x H1=>Ny K T x H1 /\ tl σ H1 λ xs H2=>r x xs H2 Q):W2 K T r ta tl σ H Q:=h
theorem OZ{T:String}{r:V->List V->Hp->VK->Prop}(h:ta σ H λ x H1=>Ny K T x H1 /\ r x [] H1 Q):Om K T r ta σ H Q:=h
theorem C7{l:Addr}{y:V}(hl:H l=some (.lst xs))(hz:xs.length < 1000000)(h:∀ H',kh H l (.lst (xs++[y])) H'->Q .cP H'):yT (.ref l) [y] H Q:=⟨l,xs,y,rfl,rfl,hl,bN hz (by decide),h _ rfl⟩
theorem s_pop{l:Addr}{y:V}(hl:H l=some (.lst xs))(hy:xs[xs.length - 1]? = some y)(h:∀ H',kh H l (.lst xs.dropLast) H'->Q y H'):Oq (.ref l) [] H Q:=⟨l,xs,y,rfl,rfl,hl,hy,h _ rfl⟩
def O0(K:ay)(R:It->Hp->Prop):V->Hp->Prop:=λ x H=>∃ a,x=.ref a /\ (∃ xs,bI K H a xs) /\ R (F6 K a) H
def O1(K:ay)(R:It->Hp->Prop):V->Hp->Prop:=λ x H=>∃ a,x=.ref a /\ (∃ xs,gm K H a xs) /\ R (IQ K a) H
theorem Lb{tl:TE}(h:tl σ H (O0 K R)):IS K tl σ H R:=h
theorem Gp{tl:TE}(h:tl σ H (O1 K R)):N6 K tl σ H R:=h
theorem xh(hb:b=true)(h:A):if b=true then A else B:=yZ (λ _=>h) λ n=>by rw [hb] at n; cases n
theorem xj(hb:b=false)(h:B):if b=true then A else B:=yZ (λ n=>by rw [hb] at n; cases n) λ _=>h
def Lc(K:ay):List V->Hp->VK->Prop:=λ xs H Q=>∃ p ys,xs=[.ref p] /\ (bI K H p ys \/ gm K H p ys) /\ Q (.int ys.length) H
theorem bZ:cX X (.builtin "len") (Lc X.K):=rZ
theorem O2{ys:List V}(hS:bI K H p ys \/ gm K H p ys)(h:Q (.int ys.length) H):Lc K [.ref p] H Q:=⟨p,ys,rfl,hS,h⟩
def O3(K:ay):List V->Hp->VK->Prop:=λ xs H Q=>∃ x T t b,xs=[x,.ty T] /\ kq K H x t /\ PySem.W.kitOne K t (.type T)=some b /\ Q (.bl b) H
theorem AM:cX X (.builtin "isinstance") (O3 X.K):=C4
def y9(K:ay):List V->Hp->VK->Prop:=λ xs H Q=>∃ p ys,xs=[.ref p] /\ (bI K H p ys \/ gm K H p ys) /\ ∀ l,H l=none->Q (.ref l) (upd H l (.lst ys))
theorem xm:cX X (.type "list") (y9 X.K):=r6
theorem C8{ys:List V}(hS:bI K H p ys \/ gm K H p ys)(h:∀ l H',eT H l (.lst ys) H'->Q (.ref l) H'):y9 K [.ref p] H Q:=⟨p,ys,rfl,hS,λ l hl=>h l _ ⟨hl,rfl⟩⟩
def O4(R:It->Hp->Prop):List V->Hp->Prop:=λ vs H=>∃ j:Int,vs=[.int j] /\ -(2 ^ 62) <= j /\ j < 2 ^ 62 /\ R (ko 0 j.toNat) H
theorem C9(h:tl σ H (O4 R)):IT tl σ H R:=h
theorem O5(h1:-(2 ^ 62) <= j)(h2:j < 2 ^ 62)(h:R (ko 0 j.toNat) H):O4 R [.int j] H:=⟨j,rfl,h1,h2,h⟩
def Jg(J:It)(g:TG)(tb:TS)(nx:St->Hp->Prop)(rt:VK)(σ:St)(H:Hp):Prop:=∃ W:Nat->Nat->St->Hp->Prop,(∃ m,W 0 m σ H) /\ ∀ i m σ H,W i m σ H ->
 (J.stop i H /\ nx σ H) \/ (J.go i H /\ ∃ N:St->Hp->Prop,(∀ σ' H',N σ' H'->∃ m',m' < m /\ W (i + 1) m' σ' H') /\ ∀ x H',J.Cg i H x H'->g x σ H' λ σ2 H2=>tb ⟨N,rt,nx,N⟩ σ2 H2)
theorem O6{wi:TI}{tb:TS}(h:wi σ H λ J H1=>Jg J g tb nx rt σ H1):N7 wi g tb ⟨nx,rt,bk,ct⟩ σ H:=h
theorem za{lo:Int}{n:Nat}{tb:TS}(Pv:Nat->St->Hp->Prop)(h0:Pv 0 σ H)
  (hs:∀ i σ H,i < n->Pv i σ H->g (.int (lo + i)) σ H λ σ2 H2=>tb ⟨Pv (i + 1),rt,nx,Pv (i + 1)⟩ σ2 H2)(hd:∀ σ H,Pv n σ H->nx σ H):Jg (ko lo n) g tb nx rt σ H :=
 AB (D:=⟨nx,rt,nx,nx⟩) Pv h0 hs hd
theorem f_list{tb:TS}(Pv:Nat->St->Hp->Prop)(h0:Pv 0 σ H)(hl:∀ i σ H,i <= xs.length->Pv i σ H->bI K H a xs)
  (hs:∀ i x σ H,xs[i]? = some x->Pv i σ H->g x σ H λ σ2 H2=>tb ⟨Pv (i + 1),rt,nx,Pv (i + 1)⟩ σ2 H2)(hd:∀ σ H,Pv xs.length σ H->nx σ H):Jg (F6 K a) g tb nx rt σ H :=
 Cy (D:=⟨nx,rt,nx,nx⟩) Pv h0 hl hs hd
theorem f_tup{tb:TS}(Pv:Nat->St->Hp->Prop)(h0:Pv 0 σ H)(hl:∀ i σ H,i <= xs.length->Pv i σ H->gm K H a xs)
  (hs:∀ i x σ H,xs[i]? = some x->Pv i σ H->g x σ H λ σ2 H2=>tb ⟨Pv (i + 1),rt,nx,Pv (i + 1)⟩ σ2 H2)(hd:∀ σ H,Pv xs.length σ H->nx σ H):Jg (IQ K a) g tb nx rt σ H :=
 F7 (D:=⟨nx,rt,nx,nx⟩) Pv h0 hl hs hd
theorem Ld{n:Nat}{gs:FP}{R:St->Hp->Prop}(hS:gm K H a xs)(hn:xs.length=n)(h:gs xs σ H R):Ky K n gs (.ref a) σ H R:=⟨a,xs,rfl,hS,hn,h⟩
theorem Gq{gs:FP}{vs:List V}{R:St->Hp->Prop}(h:g v σ H λ σ' H'=>gs vs σ' H' R):IP g gs (v :: vs) σ H R:=⟨v,vs,rfl,h⟩
theorem Le{R:St->Hp->Prop}(h:R σ H):N4 [] σ H R:=⟨rfl,h⟩
theorem Gr{xs:List V}(hS:bI K H p xs)(h:R (F6 K p) H):O0 K R (.ref p) H:=⟨p,rfl,⟨xs,hS⟩,h⟩
theorem Lf{xs:List V}(hS:gm K H p xs)(h:R (IQ K p) H):O1 K R (.ref p) H:=⟨p,rfl,⟨xs,hS⟩,h⟩
theorem Uv{tb:TS}{m:Nat}{W:Nat->St->Hp->Prop}(h:tb ⟨λ σ' H'=>∃ m',m' < m /\ W m' σ' H',rt,nx,λ σ' H'=>∃ m',m' < m /\ W m' σ' H'⟩ σ H):∃ N:St->Hp->Prop,(∀ σ' H',N σ' H'->∃ m',m' < m /\ W m' σ' H') /\ tb ⟨N,rt,nx,N⟩ σ H:=⟨_,λ _ _ h=>h,h⟩
theorem su{tb:TS}(W:Nat->St->Hp->Prop)(h0:∃ m,W m σ H)(hs:∀ m σ H,W m σ H->c σ H λ b H1=>if b=true then ∃ N:St->Hp->Prop,(∀ σ' H',N σ' H'->∃ m',m' < m /\ W m' σ' H') /\ tb ⟨N,rt,nx,N⟩ σ H1 else nx σ H1):Cv c tb ⟨nx,rt,bk,ct⟩ σ H:=⟨W,h0,hs⟩
def Jh(t u:TS):TS:=Gm t u
def Ji(t u:TS):TS:=Gm t u
theorem Dc{st:Stmt}{rest:List Stmt}{t u:TS}(h1:PS X st t)(h2:ql X rest u):ql X (st :: rest) (Jh t u):=sj h1 h2
theorem Dd{st:Stmt}{rest:List Stmt}{t u:TS}(h1:PS X st t)(h2:ql X rest u):ql X (st :: rest) (Ji t u):=sj h1 h2
theorem Lg(h:t ⟨λ σ' H'=>σ'=σ /\ H'=H,rt,bk,ct⟩ σ H)(k:u ⟨nx,rt,bk,ct⟩ σ H):Jh t u ⟨nx,rt,bk,ct⟩ σ H:=⟨_,h,λ _ _ e=>by rw [e.1,e.2]; exact k⟩
theorem Lh(h:t ⟨λ σ' H'=>σ'=σ /\ aG H H',rt,bk,ct⟩ σ H)(k:∀ H',aG H H'->u ⟨nx,rt,bk,ct⟩ σ H'):Ji t u ⟨nx,rt,bk,ct⟩ σ H:=⟨_,h,λ _ _ e=>by rw [e.1]; exact k _ e.2⟩
theorem kh.same{H0:Hp}(n:kh H p o H')(e:aG H0 H)(hp:H0 p=Option.none):aG H0 H':=λ b v q=>n.keep (aV q hp) (e b v q)
theorem O7{xs:List V}(hS:bI K H p xs)(h:A):Ny K "list" (.ref p) H /\ A:=⟨.inl ⟨rfl,_,hS⟩,h⟩
theorem Li{r:St}(h:Q v H):j0 0 (some v :: r) H Q:=⟨v,rfl,h⟩
theorem Uw{r:St}{R:St->Hp->Prop}(h:R (some v :: r) H):fV 0 v (y :: r) H R:=h
theorem Lj{r:St}(h:Q v H):j0 1 (x0 :: some v :: r) H Q:=⟨v,rfl,h⟩
theorem Ux{r:St}{R:St->Hp->Prop}(h:R (x0 :: some v :: r) H):fV 1 v (x0 :: y :: r) H R:=h
theorem Lk{r:St}(h:Q v H):j0 2 (x0 :: x1 :: some v :: r) H Q:=⟨v,rfl,h⟩
theorem Uy{r:St}{R:St->Hp->Prop}(h:R (x0 :: x1 :: some v :: r) H):fV 2 v (x0 :: x1 :: y :: r) H R:=h
theorem Ll{r:St}(h:Q v H):j0 3 (x0 :: x1 :: x2 :: some v :: r) H Q:=⟨v,rfl,h⟩
theorem O8{r:St}{R:St->Hp->Prop}(h:R (x0 :: x1 :: x2 :: some v :: r) H):fV 3 v (x0 :: x1 :: x2 :: y :: r) H R:=h
theorem Lm{r:St}(h:Q v H):j0 4 (x0 :: x1 :: x2 :: x3 :: some v :: r) H Q:=⟨v,rfl,h⟩
theorem Uz{r:St}{R:St->Hp->Prop}(h:R (x0 :: x1 :: x2 :: x3 :: some v :: r) H):fV 4 v (x0 :: x1 :: x2 :: x3 :: y :: r) H R:=h
theorem Ln{r:St}(h:Q v H):j0 5 (x0 :: x1 :: x2 :: x3 :: x4 :: some v :: r) H Q:=⟨v,rfl,h⟩
theorem UA{r:St}{R:St->Hp->Prop}(h:R (x0 :: x1 :: x2 :: x3 :: x4 :: some v :: r) H):fV 5 v (x0 :: x1 :: x2 :: x3 :: x4 :: y :: r) H R:=h
theorem Lo{r:St}(h:Q v H):j0 6 (x0 :: x1 :: x2 :: x3 :: x4 :: x5 :: some v :: r) H Q:=⟨v,rfl,h⟩
theorem UB{r:St}{R:St->Hp->Prop}(h:R (x0 :: x1 :: x2 :: x3 :: x4 :: x5 :: some v :: r) H):fV 6 v (x0 :: x1 :: x2 :: x3 :: x4 :: x5 :: y :: r) H R:=h
theorem Lp{r:St}(h:Q v H):j0 7 (x0 :: x1 :: x2 :: x3 :: x4 :: x5 :: x6 :: some v :: r) H Q:=⟨v,rfl,h⟩
theorem UC{r:St}{R:St->Hp->Prop}(h:R (x0 :: x1 :: x2 :: x3 :: x4 :: x5 :: x6 :: some v :: r) H):fV 7 v (x0 :: x1 :: x2 :: x3 :: x4 :: x5 :: x6 :: y :: r) H R:=h
theorem Lq{r:St}(h:Q v H):j0 8 (x0 :: x1 :: x2 :: x3 :: x4 :: x5 :: x6 :: x7 :: some v :: r) H Q:=⟨v,rfl,h⟩
theorem UD{r:St}{R:St->Hp->Prop}(h:R (x0 :: x1 :: x2 :: x3 :: x4 :: x5 :: x6 :: x7 :: some v :: r) H):fV 8 v (x0 :: x1 :: x2 :: x3 :: x4 :: x5 :: x6 :: x7 :: y :: r) H R:=h
theorem Lr{r:St}(h:Q v H):j0 9 (x0 :: x1 :: x2 :: x3 :: x4 :: x5 :: x6 :: x7 :: x8 :: some v :: r) H Q:=⟨v,rfl,h⟩
theorem UE{r:St}{R:St->Hp->Prop}(h:R (x0 :: x1 :: x2 :: x3 :: x4 :: x5 :: x6 :: x7 :: x8 :: some v :: r) H):fV 9 v (x0 :: x1 :: x2 :: x3 :: x4 :: x5 :: x6 :: x7 :: x8 :: y :: r) H R:=h
theorem Gs{r:St}(h:Q v H):j0 10 (x0 :: x1 :: x2 :: x3 :: x4 :: x5 :: x6 :: x7 :: x8 :: x9 :: some v :: r) H Q:=⟨v,rfl,h⟩
theorem O9{r:St}{R:St->Hp->Prop}(h:R (x0 :: x1 :: x2 :: x3 :: x4 :: x5 :: x6 :: x7 :: x8 :: x9 :: some v :: r) H):fV 10 v (x0 :: x1 :: x2 :: x3 :: x4 :: x5 :: x6 :: x7 :: x8 :: x9 :: y :: r) H R:=h
theorem Pa{r:St}{R:St->Hp->Prop}(h:R (x0 :: x1 :: x2 :: x3 :: x4 :: x5 :: x6 :: x7 :: x8 :: x9 :: Ls :: some v :: r) H):fV 11 v (x0 :: x1 :: x2 :: x3 :: x4 :: x5 :: x6 :: x7 :: x8 :: x9 :: Ls :: y :: r) H R:=h
theorem Gu{R6:Option V}{r:St}(h:Q v H):j0 12 (x0 :: x1 :: x2 :: x3 :: x4 :: x5 :: x6 :: x7 :: x8 :: x9 :: Ls :: R6 :: some v :: r) H Q:=⟨v,rfl,h⟩
theorem Pb{R6:Option V}{r:St}{R:St->Hp->Prop}(h:R (x0 :: x1 :: x2 :: x3 :: x4 :: x5 :: x6 :: x7 :: x8 :: x9 :: Ls :: R6 :: some v :: r) H):fV 12 v (x0 :: x1 :: x2 :: x3 :: x4 :: x5 :: x6 :: x7 :: x8 :: x9 :: Ls :: R6 :: y :: r) H R:=h
end
end L2
namespace ZP
open PySem
variable {Q:Value->Shared->Prop}
def Src(t:Bool)(h:Heap)(a:Addr)(xs:Array Value):Prop:=match t with
 | true=>h.IsTuple a xs
 | false=>h.IsList a xs
def ko(t:Bool)(h:Heap)(it a:Addr)(i:Nat):Prop:=match t with
 | true=>h.IsTupleIter it a i
 | false=>h.IsListIter it a i
def kE(t:Bool)(a:Addr):Obj:=match t with
 | true=>{ cls:=.type "tuple_iterator", data:=.fields #[.ref a,.int 0 0] }
 | false=>{ cls:=.type "list_iterator", data:=.fields #[.ref a,.int 0 0] }
section
variable {t:Bool}{h h':Heap}{a it:Addr}{xs:Array Value}{i:Nat}
theorem Src.at(x:Src t h a xs)(k:∀ o,h.get? a=some o->h'.get? a=some o):Src t h' a xs:=by
 cases t
 ·obtain ⟨o,e,r⟩:=x; exact ⟨o,k o e,r⟩
 ·obtain ⟨o,e,r⟩:=x; exact ⟨o,k o e,r⟩
theorem Src.here(x:Src t h a xs):∃ o,h.get? a=some o:=by
 cases t
 ·obtain ⟨o,e,r⟩:=x; exact ⟨o,e⟩
 ·obtain ⟨o,e,r⟩:=x; exact ⟨o,e⟩
theorem Src.push(x:Src t h a xs)(o:Obj):Src t (h.push o) a xs:=x.at λ _ e=>bS _ e
theorem ko.at(x:ko t h it a i)(k:∀ o,h.get? it=some o->h'.get? it=some o):ko t h' it a i:=by
 cases t
 ·obtain ⟨o,e,r⟩:=x; exact ⟨o,k o e,r⟩
 ·obtain ⟨o,e,r⟩:=x; exact ⟨o,k o e,r⟩
theorem ko.here(x:ko t h it a i):∃ o,h.get? it=some o /\ ∃ vs,o.data=.fields vs:=by
 cases t
 ·obtain ⟨o,e,c,d⟩:=x; exact ⟨o,e,_,d⟩
 ·obtain ⟨o,e,c,d⟩:=x; exact ⟨o,e,_,d⟩
theorem ko.new(e:h.get? it=some (kE t a)):ko t h it a 0:=by
 cases t
 ·exact ⟨_,e,rfl,rfl⟩
 ·exact ⟨_,e,rfl,rfl⟩
end
section
variable {prog:Program}{w:World}{A:Around}{E:Value->Shared->Prop}{s:Shared}{t:Bool}{a it:Addr}{xs:Array Value}{i:Nat}
theorem zb(x:Src t s.heap a xs)(q:Q (.ref s.heap.objs.size) { s with heap:=s.heap.push (kE t a) }):wpAny (model prog w) A (pyIter (.ref a)) Q E s:=by
 cases t
 ·exact wpAny_pyIter_list x q
 ·exact wpAny_pyIter_tuple x q
theorem alive{T:Addr}{o:Obj}{Q:Option Obj->Shared->Prop}(ho:s.heap.get? T=some o)(h:Q (some o) s):wpAny (model prog w) A (loadIfAlive T) Q E s:=by
 have h':Q (s.heap.get? T) s:=by rw [ho]; exact h
 exact λ _ _ _=>h'
theorem next_item{x:Value}(hit:ko t s.heap it a i)(hs:Src t s.heap a xs)(hx:xs[i]? = some x)
  (hQ:∀ h',ko t h' it a (i + 1)->Heap.SameBut it s.heap h'->Q x { s with heap:=h' }):wpAny (model prog w) A (Builtin.SmallTypes.nextOf (.ref it)) Q E s:=by
 cases t
 ·exact wpAny_nextOf_list_item hit hs hx hQ
 ·have hit:s.heap.IsTupleIter it a i:=hit
  obtain ⟨o,ho,hc,hd⟩:=id hit
  obtain ⟨ol,NB,_,nl,hdl⟩:=id hs
  unfold Builtin.SmallTypes.nextOf
  refine af (wpAny_callSpecial?_slot (name:=Str.ofString "__next__") hit.typeIs rM (wpAny_call_entry rM hit.typeIs F.entry_tuple_iterator_next ?_ (F.args_tuple_iterator_next_1 _)))
  show wpAny _ _ (field (.ref it) 0 >>= _) _ _ s
  refine af (wpAny_field ho hd (x:=.ref a) rfl ?_)
  show wpAny _ _ (if (Value.ref a == Value.none)=true then _ else _) _ _ s
  rw [if_neg (show ¬ ((Value.ref a == Value.none)=true) from iD)]
  show wpAny _ _ (field (.ref it) 1 >>= _) _ _ s
  refine af (wpAny_field ho hd (x:=.int i 0) rfl ?_)
  show wpAny _ _ (seqItems? (.ref a) >>= _) _ _ s
  refine af (wpAny_seqItems NB hdl ?_)
  simp only [eB,hx]
  refine af (wpAny_setField ho hd (by simp) (aE ⟨x,rfl,aE (hQ _ ?_ (gO ..))⟩))
  exact ⟨_,c7 _ ho (iI (cW hd _)),(jY ..).trans hc,by rw [cW hd]; simp [rawInt]⟩
theorem next_end(hh:A.handled=none)(hit:ko t s.heap it a i)(hs:Src t s.heap a xs)(hx:xs[i]? = none)
  (hE:∀ h' e,Heap.ExtBut it s.heap h'->(∃ o,h'.get? e=some o /\ o.cls=.type "StopIteration")->E (.ref e) { s with heap:=h' }):wpAny (model prog w) A (Builtin.SmallTypes.nextOf (.ref it)) Q E s:=by
 cases t
 ·exact wpAny_nextOf_list_end hh hit hs hx hE
 ·have hit:s.heap.IsTupleIter it a i:=hit
  obtain ⟨o,ho,hc,hd⟩:=id hit
  obtain ⟨ol,NB,_,nl,hdl⟩:=id hs
  unfold Builtin.SmallTypes.nextOf
  refine af (wpAny_callSpecial?_slot (name:=Str.ofString "__next__") hit.typeIs rM (wpAny_call_entry rM hit.typeIs F.entry_tuple_iterator_next ?_ (F.args_tuple_iterator_next_1 _)))
  show wpAny _ _ (field (.ref it) 0 >>= _) _ _ s
  refine af (wpAny_field ho hd (x:=.ref a) rfl ?_)
  show wpAny _ _ (if (Value.ref a == Value.none)=true then _ else _) _ _ s
  rw [if_neg (show ¬ ((Value.ref a == Value.none)=true) from iD)]
  show wpAny _ _ (field (.ref it) 1 >>= _) _ _ s
  refine af (wpAny_field ho hd (x:=.int i 0) rfl ?_)
  show wpAny _ _ (seqItems? (.ref a) >>= _) _ _ s
  refine af (wpAny_seqItems NB hdl ?_)
  simp only [eB,hx]
  refine af (wpAny_rule (af (wpAny_setField ho hd (by simp) ?_)))
  show wpAny _ _ (newExc (.type "StopIteration") [] >>= _) _ _ _
  refine af ?_
  simp only [newExc,newTuple]
  refine af (wpAny_newObj_type ?_ (by size_fits))
  refine af (m:=firstArgMember _ _) (wpAny_of_eq (a:=Value.none) (by first | rfl | (simp only [firstArgMember]; rfl)) ?_)
  refine wpAny_newObj_type ?_ (by size_fits)
  simp only [raiseNew]
  refine af (wpAny_handled ?_)
  first | rw [show A.in1.handled=none from hh] | rw [hh]
  refine af (aE (wpAny_throw ?_))
  exact hE _ _ (((gO ..).extBut.push _).push _) ⟨_,fJ _ rfl,rfl⟩
end
abbrev ZO(h:Heap)(z TI TO:Addr)(f0:Value)(f:Bool):Prop :=
 h.get? z=some { cls:=.type "zip", dict:=none,data:=.fields #[f0,.bool f,.bool false,.ref TI,.ref TO],slots:=#[] }
structure Zs (t1 t2:Bool) (TI TO i1 i2 l1 l2:Addr) (i:Nat) (h:Heap):Prop where
 ti:IsPair h TI (.ref i1) (.ref i2)
 to:∃ a b,IsPair h TO a b
 a1:ko t1 h i1 l1 i
 a2:ko t2 h i2 l2 i
theorem Zs.keep{t1 t2:Bool}{TI TO i1 i2 l1 l2:Addr}{i:Nat}{h h':Heap}(x:Zs t1 t2 TI TO i1 i2 l1 l2 i h)(k:∀ b,b=TI \/ b=TO \/ b=i1 \/ b=i2->∀ o,h.get? b=some o->h'.get? b=some o):Zs t1 t2 TI TO i1 i2 l1 l2 i h' :=
 ⟨k _ (.inl rfl) _ x.ti,let ⟨a,b,e⟩:=x.to; ⟨a,b,k _ (.inr (.inl rfl)) _ e⟩,x.a1.at λ o e=>k _ (.inr (.inr (.inl rfl))) o e,x.a2.at λ o e=>k _ (.inr (.inr (.inr rfl))) o e⟩
def Rest(z TO i1 i2:Addr)(h h':Heap):Prop:=∀ c o,c ≠ z->c ≠ TO->c ≠ i1->c ≠ i2->h.get? c=some o->h'.get? c=some o
section
variable {prog:Program}{w:World}{A:Around}{E:Value->Shared->Prop}{s:Shared}{t1 t2:Bool}{z TI TO i1 i2 l1 l2:Addr}{i:Nat}{xs ys:Array Value}{x y:Value}
theorem De(D:ZipApart z TI TO i1 i2 l1 l2)(hz:ZO s.heap z TI TO .none false)(st:Zs t1 t2 TI TO i1 i2 l1 l2 i s.heap)(hl1:Src t1 s.heap l1 xs)(hl2:Src t2 s.heap l2 ys)(hx:xs[i]? = some x)(hy:ys[i]? = some y)
  (hQ:∀ h',ZO h' z TI TO (rawInt s.heap.objs.size) false->Zs t1 t2 TI TO i1 i2 l1 l2 (i + 1) h'->IsPair h' s.heap.objs.size x y->h'.objs.size=s.heap.objs.size + 1->Rest z TO i1 i2 s.heap h'->Q (.ref s.heap.objs.size) { s with heap:=h' }):
  wpAny (model prog w) A (Builtin.«zip.__next__» ⟨[.ref z],[]⟩) (λ fin s'=>∃ v,fin=.done (.ret v) /\ Q v s') E s:=by
 obtain ⟨hTI,⟨a,b,hTO⟩,h1,h2⟩:=st
 show wpAny _ _ (field (.ref z) 2 >>= _) _ _ _
 refine af (wpAny_field hz rfl (x:=.bool false) rfl ?_)
 show wpAny _ _ (field (.ref z) 3 >>= _) _ _ _
 refine af (wpAny_field hz rfl (x:=.ref TI) rfl ?_)
 refine af (wpAny_seqItems hTI rfl ?_)
 show wpAny _ _ (Builtin.SmallTypes.ownedTupleIsFree (.ref z) >>= _) _ _ _
 refine af ?_
 unfold Builtin.SmallTypes.ownedTupleIsFree
 refine af (wpAny_field hz rfl (x:=.none) rfl (aE ?_))
 simp only [if_true]
 refine af (wpAny_rule ?_)
 refine af (wpAny_field hz rfl (x:=.ref TO) rfl ?_)
 refine af (wpAny_setField_rec hz (by simp) λ h₁ tT hs₁=>?_)
 replace tT:ZO h₁ z TI TO .ellipsis false:=tT
 refine af ?_
 simp only [List.zipIdx_cons,List.zipIdx_nil,gQ,i6]
 refine af (af (wpAny_onRaise ?_))
 show wpAny _ _ (Builtin.SmallTypes.nextOf (.ref i1) >>= _) _ _ _
 refine af (next_item (h1.at λ o e=>hs₁.extBut _ o D.i1z e) (hl1.at λ o e=>hs₁.extBut _ o D.l1z e) hx λ h₂ Jj hs₂=>aE ?_)
 have Df:IsPair h₂ TO a b:=hs₂.extBut _ _ D.TOi1 (hs₁.extBut _ _ D.TOz hTO)
 refine af (wpAny_seqItems Df rfl ?_)
 refine af (wpAny_updateSeq_pair Df λ h₃ Gv lK=>?_)
 replace Gv:IsPair h₃ TO x b:=Gv
 refine af (wpAny_letGo (aE ?_))
 refine af (af (wpAny_onRaise ?_))
 show wpAny _ _ (Builtin.SmallTypes.nextOf (.ref i2) >>= _) _ _ _
 refine af (next_item (h2.at λ o e=>lK.extBut _ o D.TOi2.symm (hs₂.extBut _ o D.i12.symm (hs₁.extBut _ o D.i2z e)))
  (hl2.at λ o e=>lK.extBut _ o D.l2TO (hs₂.extBut _ o D.l2i1 (hs₁.extBut _ o D.l2z e))) hy λ h₄ Ym Jk=>aE ?_)
 have Pc:IsPair h₄ TO x b:=Jk.extBut _ _ D.TOi2 Gv
 refine af (wpAny_seqItems Pc rfl ?_)
 refine af (wpAny_updateSeq_pair Pc λ h₅ Gw Jl=>?_)
 replace Gw:IsPair h₅ TO x y:=Gw
 refine af (wpAny_letGo (aE (aE ?_)))
 refine af (wpAny_seqItems Gw rfl ?_)
 refine af (wpAny_newTuple ?_)
 have hsz:h₅.objs.size=s.heap.objs.size:=by rw [Jl.1,Jk.1,lK.1,hs₂.1,hs₁.1]
 have W4:ZO h₅ z TI TO .ellipsis false:=Jl.extBut _ _ D.TOz.symm (Jk.extBut _ _ D.i2z.symm (lK.extBut _ _ D.TOz.symm (hs₂.extBut _ _ D.i1z.symm tT)))
 have W5:Rest z TO i1 i2 s.heap h₅:=λ c o c1 c2 c3 c4 e=>Jl.extBut _ _ c2 (Jk.extBut _ _ c4 (lK.extBut _ _ c2 (hs₂.extBut _ _ c3 (hs₁.extBut _ _ c1 e))))
 have Yn:ko t1 h₅ i1 l1 (i + 1):=Jj.at λ o e=>Jl.extBut _ o D.TOi1.symm (Jk.extBut _ o D.i12 (lK.extBut _ o D.TOi1.symm e))
 have Yo:ko t2 h₅ i2 l2 (i + 1):=Ym.at λ o e=>Jl.extBut _ o D.TOi2.symm e
 have Pd:z < h₅.objs.size:=aD W4
 show wpAny _ _ (Builtin.SmallTypes.ownedTupleHandOut (.ref z) (.ref h₅.objs.size) >>= _) _ _ _
 refine af ?_
 unfold Builtin.SmallTypes.ownedTupleHandOut
 have Yp:ZO (h₅.push { cls:=.type "tuple", data:=.seq #[x,y] }) z TI TO .ellipsis false:=bS _ W4
 refine af (wpAny_setField_rec Yp (by simp) λ h₇ UG UH=>?_)
 replace UG:ZO h₇ z TI TO (rawInt h₅.objs.size) false:=UG
 refine wpAny_setField_rec UG (by simp) λ h₈ R7 UI=>?_
 replace R7:ZO h₈ z TI TO (rawInt h₅.objs.size) false:=R7
 have up:∀ c o,c ≠ z->h₅.get? c=some o->h₈.get? c=some o:=λ c o c1 e=>UI.extBut _ _ c1 (UH.extBut _ _ c1 (bS _ e))
 have W6:IsPair h₈ h₅.objs.size x y:=UI.extBut _ _ (jb Pd) (UH.extBut _ _ (jb Pd) (fJ _ rfl))
 have W7:h₈.objs.size=h₅.objs.size + 1:=by rw [UI.1,UH.1,cU]
 rw [hsz] at R7 W6 W7
 refine aE ⟨_,rfl,?_⟩
 show Q (.ref h₅.objs.size) _
 rw [hsz]
 exact hQ h₈ R7 ⟨up _ _ D.TIz (W5 _ _ D.TIz D.TITO D.TIi1 D.TIi2 hTI),⟨x,y,up _ _ D.TOz Gw⟩,Yn.at λ o e=>up _ o D.i1z e,Yo.at λ o e=>up _ o D.i2z e⟩ W6 W7 λ c o c1 c2 c3 c4 e=>up c o c1 (W5 c o c1 c2 c3 c4 e)
theorem R8{f:Bool}{T:Addr}{oT:Obj}(D:ZipApart z TI TO i1 i2 l1 l2)(hz:ZO s.heap z TI TO (rawInt T) f)(hT:s.heap.get? T=some oT)(st:Zs t1 t2 TI TO i1 i2 l1 l2 i s.heap)(hl1:Src t1 s.heap l1 xs)(hl2:Src t2 s.heap l2 ys)(hx:xs[i]? = some x)(hy:ys[i]? = some y)
  (hQ:∀ h',ZO h' z TI TO (rawInt T) true->Zs t1 t2 TI TO i1 i2 l1 l2 (i + 1) h'->IsPair h' s.heap.objs.size x y->h'.objs.size=s.heap.objs.size + 1->Rest z TO i1 i2 s.heap h'->Q (.ref s.heap.objs.size) { s with heap:=h' }):
  wpAny (model prog w) A (Builtin.«zip.__next__» ⟨[.ref z],[]⟩) (λ fin s'=>∃ v,fin=.done (.ret v) /\ Q v s') E s:=by
 obtain ⟨hTI,⟨a,b,hTO⟩,h1,h2⟩:=st
 show wpAny _ _ (field (.ref z) 2 >>= _) _ _ _
 refine af (wpAny_field hz rfl (x:=.bool false) rfl ?_)
 show wpAny _ _ (field (.ref z) 3 >>= _) _ _ _
 refine af (wpAny_field hz rfl (x:=.ref TI) rfl ?_)
 refine af (wpAny_seqItems hTI rfl ?_)
 show wpAny _ _ (Builtin.SmallTypes.ownedTupleIsFree (.ref z) >>= _) _ _ _
 have fin:∀ h₁,ZO h₁ z TI TO (rawInt T) true->Heap.SameBut z s.heap h₁->∀ h₂ h₃,ko t1 h₂ i1 l1 (i + 1)->Heap.SameBut i1 h₁ h₂->ko t2 h₃ i2 l2 (i + 1)->Heap.SameBut i2 h₂ h₃ ->
   Q (.ref h₃.objs.size) { s with heap:=h₃.push { cls:=.type "tuple", data:=.seq #[x,y] } }:=by
  intro h₁ tT hs₁ h₂ h₃ q1 hs₂ q2 lK
  have hsz:h₃.objs.size=s.heap.objs.size:=by rw [lK.1,hs₂.1,hs₁.1]
  have up:Rest z TO i1 i2 s.heap (h₃.push { cls:=.type "tuple", data:=.seq #[x,y] }):=λ c o c1 c2 c3 c4 e=>bS _ (lK.extBut _ _ c4 (hs₂.extBut _ _ c3 (hs₁.extBut _ _ c1 e)))
  have hp:IsPair (h₃.push { cls:=.type "tuple", data:=.seq #[x,y] }) h₃.objs.size x y:=fJ _ rfl
  rw [hsz] at hp ⊢
  refine hQ _ (bS _ (lK.extBut _ _ D.i2z.symm (hs₂.extBut _ _ D.i1z.symm tT))) ⟨up _ _ D.TIz D.TITO D.TIi1 D.TIi2 hTI,⟨a,b,?_⟩,?_,?_⟩ hp (by rw [cU,hsz]) up
  ·exact bS _ (lK.extBut _ _ D.TOi2 (hs₂.extBut _ _ D.TOi1 (hs₁.extBut _ _ D.TOz hTO)))
  ·exact q1.at λ o e=>bS _ (lK.extBut _ o D.i12 e)
  ·exact q2.at λ o e=>bS _ e
 refine af ?_
 unfold Builtin.SmallTypes.ownedTupleIsFree
 refine af (wpAny_field hz rfl (x:=rawInt T) rfl ?_)
 show wpAny _ _ (loadIfAlive ((T:Int).toNat) >>= _) _ _ _
 rw [eB]
 refine af (alive hT ?_)
 simp only [Option.isNone_some,bu,if_false]
 refine af (wpAny_field hz rfl (x:=.bool f) rfl ?_)
 cases f
 ·rw [if_pos (by decide)]
  refine af (wpAny_setField_rec hz (by simp) λ h₁ tT hs₁=>aE ?_)
  replace tT:ZO h₁ z TI TO (rawInt T) true:=tT
  rw [if_neg (by decide)]
  refine af ?_
  simp only [<- iZ,gQ,i6]
  refine af (af (wpAny_holding ?_))
  show wpAny _ _ (Builtin.SmallTypes.nextOf (.ref i1) >>= _) _ _ _
  refine af (next_item (h1.at λ o e=>hs₁.extBut _ o D.i1z e) (hl1.at λ o e=>hs₁.extBut _ o D.l1z e) hx λ h₂ Jj hs₂=>aE ?_)
  refine aE (af (af (wpAny_holding ?_)))
  show wpAny _ _ (Builtin.SmallTypes.nextOf (.ref i2) >>= _) _ _ _
  refine af (next_item (h2.at λ o e=>hs₂.extBut _ o D.i12.symm (hs₁.extBut _ o D.i2z e)) (hl2.at λ o e=>hs₂.extBut _ o D.l2i1 (hs₁.extBut _ o D.l2z e)) hy λ h₃ UJ lK=>aE ?_)
  refine aE (aE ?_)
  refine af (wpAny_newTuple (aE ⟨_,rfl,?_⟩) (hsz:=by show 2 <= sizeLine; decide))
  exact fin h₁ tT hs₁ h₂ h₃ Jj hs₂ UJ lK
 ·rw [if_neg (by decide)]
  refine aE ?_
  have tT:=hz
  have hs₁:Heap.SameBut z s.heap s.heap:=Heap.SameBut.refl ..
  let h₁:=s.heap
  rw [if_neg (by decide)]
  refine af ?_
  simp only [<- iZ,gQ,i6]
  refine af (af (wpAny_holding ?_))
  show wpAny _ _ (Builtin.SmallTypes.nextOf (.ref i1) >>= _) _ _ _
  refine af (next_item (h1.at λ o e=>hs₁.extBut _ o D.i1z e) (hl1.at λ o e=>hs₁.extBut _ o D.l1z e) hx λ h₂ Jj hs₂=>aE ?_)
  refine aE (af (af (wpAny_holding ?_)))
  show wpAny _ _ (Builtin.SmallTypes.nextOf (.ref i2) >>= _) _ _ _
  refine af (next_item (h2.at λ o e=>hs₂.extBut _ o D.i12.symm (hs₁.extBut _ o D.i2z e)) (hl2.at λ o e=>hs₂.extBut _ o D.l2i1 (hs₁.extBut _ o D.l2z e)) hy λ h₃ UJ lK=>aE ?_)
  refine aE (aE ?_)
  refine af (wpAny_newTuple (aE ⟨_,rfl,?_⟩) (hsz:=by show 2 <= sizeLine; decide))
  exact fin h₁ tT hs₁ h₂ h₃ Jj hs₂ UJ lK
theorem Gx{f:Bool}{f0:Value}{Q:Fin->Shared->Prop}(hf:f0=.none \/ ∃ (T:Addr) (oT:Obj),f0=rawInt T /\ s.heap.get? T=some oT)(hh:A.handled=none)(D:ZipApart z TI TO i1 i2 l1 l2)(hz:ZO s.heap z TI TO f0 f)(st:Zs t1 t2 TI TO i1 i2 l1 l2 i s.heap)(hl1:Src t1 s.heap l1 xs)(hl2:Src t2 s.heap l2 ys)
  (hend:xs[i]? = none \/ ys[i]? = none)
  (hE:∀ h' e,Rest z TO i1 i2 s.heap h'->(∃ o,h'.get? e=some o /\ o.cls=.type "StopIteration")->E (.ref e) { s with heap:=h' }):
  wpAny (model prog w) A (Builtin.«zip.__next__» ⟨[.ref z],[]⟩) Q E s:=by
 obtain ⟨hTI,⟨a,b,hTO⟩,h1,h2⟩:=st
 show wpAny _ _ (field (.ref z) 2 >>= _) _ _ _
 refine af (wpAny_field hz rfl (x:=.bool false) rfl ?_)
 show wpAny _ _ (field (.ref z) 3 >>= _) _ _ _
 refine af (wpAny_field hz rfl (x:=.ref TI) rfl ?_)
 refine af (wpAny_seqItems hTI rfl ?_)
 show wpAny _ _ (Builtin.SmallTypes.ownedTupleIsFree (.ref z) >>= _) _ _ _
 refine af ?_
 unfold Builtin.SmallTypes.ownedTupleIsFree
 rcases hf with rfl | ⟨T,oT,rfl,hT⟩
 ·refine af (wpAny_field hz rfl (x:=.none) rfl (aE ?_))
  simp only [if_true]
  refine af (wpAny_rule ?_)
  refine af (wpAny_field hz rfl (x:=.ref TO) rfl ?_)
  refine af (wpAny_setField_rec hz (by simp) λ h₁ tT hs₁=>?_)
  replace tT:ZO h₁ z TI TO .ellipsis f:=tT
  refine af ?_
  simp only [List.zipIdx_cons,List.zipIdx_nil,gQ,i6]
  refine af (af (wpAny_onRaise ?_))
  show wpAny _ _ (Builtin.SmallTypes.nextOf (.ref i1) >>= _) _ _ _
  cases hx:xs[i]? with
  | none =>
   refine af (next_end hh (h1.at λ o e=>hs₁.extBut _ o D.i1z e) (hl1.at λ o e=>hs₁.extBut _ o D.l1z e) hx λ h₂ e hs₂ he=>?_)
   obtain ⟨oe,Lu,hce⟩:=he
   have W8:ZO h₂ z TI TO .ellipsis f:=hs₂ _ _ D.i1z.symm tT
   have UK:e ≠ z:=λ x=>by subst x; rw [W8] at Lu; cases Lu; simp at hce
   exact wpAny_setField_rec W8 (by simp) λ h₃ _ lK=>hE h₃ e (λ c o c1 _ c3 _ x=>lK.extBut _ _ c1 (hs₂ _ _ c3 (hs₁.extBut _ _ c1 x))) ⟨oe,lK.extBut _ _ UK Lu,hce⟩
  | some x =>
   have hy:ys[i]? = none:=by
    rcases hend with h | h
    ·rw [hx] at h; cases h
    ·exact h
   refine af (next_item (h1.at λ o e=>hs₁.extBut _ o D.i1z e) (hl1.at λ o e=>hs₁.extBut _ o D.l1z e) hx λ h₂ Jj hs₂=>aE ?_)
   have Df:IsPair h₂ TO a b:=hs₂.extBut _ _ D.TOi1 (hs₁.extBut _ _ D.TOz hTO)
   refine af (wpAny_seqItems Df rfl ?_)
   refine af (wpAny_updateSeq_pair Df λ h₃ Gv lK=>?_)
   refine af (wpAny_letGo (aE ?_))
   refine af (af (wpAny_onRaise ?_))
   show wpAny _ _ (Builtin.SmallTypes.nextOf (.ref i2) >>= _) _ _ _
   refine af (next_end hh (h2.at λ o e=>lK.extBut _ o D.TOi2.symm (hs₂.extBut _ o D.i12.symm (hs₁.extBut _ o D.i2z e)))
    (hl2.at λ o e=>lK.extBut _ o D.l2TO (hs₂.extBut _ o D.l2i1 (hs₁.extBut _ o D.l2z e))) hy λ h₄ e Jk he=>?_)
   obtain ⟨oe,Lu,hce⟩:=he
   have W9:ZO h₄ z TI TO .ellipsis f:=Jk _ _ D.i2z.symm (lK.extBut _ _ D.TOz.symm (hs₂.extBut _ _ D.i1z.symm tT))
   have UK:e ≠ z:=λ x=>by subst x; rw [W9] at Lu; cases Lu; simp at hce
   exact wpAny_setField_rec W9 (by simp) λ h₅ _ Jl=>hE h₅ e (λ c o c1 c2 c3 c4 x=>Jl.extBut _ _ c1 (Jk _ _ c4 (lK.extBut _ _ c2 (hs₂.extBut _ _ c3 (hs₁.extBut _ _ c1 x))))) ⟨oe,Jl.extBut _ _ UK Lu,hce⟩
 ·refine af (wpAny_field hz rfl (x:=rawInt T) rfl ?_)
  show wpAny _ _ (loadIfAlive ((T:Int).toNat) >>= _) _ _ _
  rw [eB]
  refine af (alive hT ?_)
  simp only [Option.isNone_some,bu,if_false]
  refine af (wpAny_field hz rfl (x:=.bool f) rfl ?_)
  cases f
  ·rw [if_pos (by decide)]
   refine af (wpAny_setField_rec hz (by simp) λ h₁ tT hs₁=>aE ?_)
   rw [if_neg (by decide)]
   refine af ?_
   simp only [<- iZ,gQ,i6]
   refine af (af (wpAny_holding ?_))
   show wpAny _ _ (Builtin.SmallTypes.nextOf (.ref i1) >>= _) _ _ _
   cases hx:xs[i]? with
   | none=>exact af (next_end hh (h1.at λ o e=>hs₁.extBut _ o D.i1z e) (hl1.at λ o e=>hs₁.extBut _ o D.l1z e) hx λ h₂ e hs₂ he=>hE h₂ e (λ c o c1 _ c3 _ x=>hs₂ _ _ c3 (hs₁.extBut _ _ c1 x)) he)
   | some x =>
    have hy:ys[i]? = none:=by
     rcases hend with h | h
     ·rw [hx] at h; cases h
     ·exact h
    refine af (next_item (h1.at λ o e=>hs₁.extBut _ o D.i1z e) (hl1.at λ o e=>hs₁.extBut _ o D.l1z e) hx λ h₂ Jj hs₂=>aE ?_)
    refine aE (af (af (wpAny_holding ?_)))
    show wpAny _ _ (Builtin.SmallTypes.nextOf (.ref i2) >>= _) _ _ _
    exact af (next_end hh (h2.at λ o e=>hs₂.extBut _ o D.i12.symm (hs₁.extBut _ o D.i2z e)) (hl2.at λ o e=>hs₂.extBut _ o D.l2i1 (hs₁.extBut _ o D.l2z e)) hy λ h₃ e lK he=>hE h₃ e (λ c o c1 _ c3 c4 x=>lK _ _ c4 (hs₂.extBut _ _ c3 (hs₁.extBut _ _ c1 x))) he)
  ·rw [if_neg (by decide)]
   refine aE ?_
   let h₁:=s.heap
   have hs₁:Heap.SameBut z s.heap s.heap:=Heap.SameBut.refl ..
   rw [if_neg (by decide)]
   refine af ?_
   simp only [<- iZ,gQ,i6]
   refine af (af (wpAny_holding ?_))
   show wpAny _ _ (Builtin.SmallTypes.nextOf (.ref i1) >>= _) _ _ _
   cases hx:xs[i]? with
   | none=>exact af (next_end hh (h1.at λ o e=>hs₁.extBut _ o D.i1z e) (hl1.at λ o e=>hs₁.extBut _ o D.l1z e) hx λ h₂ e hs₂ he=>hE h₂ e (λ c o c1 _ c3 _ x=>hs₂ _ _ c3 (hs₁.extBut _ _ c1 x)) he)
   | some x =>
    have hy:ys[i]? = none:=by
     rcases hend with h | h
     ·rw [hx] at h; cases h
     ·exact h
    refine af (next_item (h1.at λ o e=>hs₁.extBut _ o D.i1z e) (hl1.at λ o e=>hs₁.extBut _ o D.l1z e) hx λ h₂ Jj hs₂=>aE ?_)
    refine aE (af (af (wpAny_holding ?_)))
    show wpAny _ _ (Builtin.SmallTypes.nextOf (.ref i2) >>= _) _ _ _
    exact af (next_end hh (h2.at λ o e=>hs₂.extBut _ o D.i12.symm (hs₁.extBut _ o D.i2z e)) (hl2.at λ o e=>hs₂.extBut _ o D.l2i1 (hs₁.extBut _ o D.l2z e)) hy λ h₃ e lK he=>hE h₃ e (λ c o c1 _ c3 c4 x=>lK _ _ c4 (hs₂.extBut _ _ c3 (hs₁.extBut _ _ c1 x))) he)
theorem Gy{Q:Option Value->Shared->Prop}{Q':Value->Shared->Prop}(hT:s.TypeIs (.ref z) "zip")(h:wpAny (model prog w) A.in1 (Builtin.«zip.__next__» ⟨[.ref z],[]⟩) (λ fin s'=>∃ v,fin=.done (.ret v) /\ Q' v s') (λ _ _=>False) s)(q:∀ v s',Q' v s'->Q (some v) s'):wpAny (model prog w) A (pyNext (.ref z)) Q E s:=by
 unfold pyNext
 refine af (wpAny_attempt (wpAny_callSpecial?_slot (name:=Str.ofString "__next__") hT F.slot_zip_next (wpAny_call_entry F.slot_zip_next hT F.entry_zip_next (wpAny_mono h (λ fin s' h'=>?_) λ _ _ h'=>h'.elim) (F.args_zip_next_1 _))))
 obtain ⟨v,rfl,h'⟩:=h'
 exact ⟨v,rfl,aE (q v s' h')⟩
theorem Lv{Q:Option Value->Shared->Prop}(hT:s.TypeIs (.ref z) "zip")(h:wpAny (model prog w) A.in1 (Builtin.«zip.__next__» ⟨[.ref z],[]⟩) (λ _ _=>False) (λ e s'=>∃ a o,e=.ref a /\ s'.heap.get? a=some o /\ o.cls=.type "StopIteration" /\ Q none s') s):wpAny (model prog w) A (pyNext (.ref z)) Q E s:=by
 unfold pyNext
 refine af (wpAny_attempt (wpAny_callSpecial?_slot (name:=Str.ofString "__next__") hT F.slot_zip_next (wpAny_call_entry F.slot_zip_next hT F.entry_zip_next (wpAny_mono h (λ _ _ h'=>h'.elim) λ e s' h'=>?_) (F.args_zip_next_1 _))))
 obtain ⟨a,o,rfl,ho,hc,q⟩:=h'
 refine af (wpAny_isInstance (T := "StopIteration") (b:=true) ⟨o,ho,hc⟩ isSubtype_stop ?_)
 exact aE q
end
section
variable {prog:Program}{w:World}{A:Around}{E:Value->Shared->Prop}{s:Shared}{t1 t2:Bool}{l1 l2:Addr}{xs ys:Array Value}
abbrev R9(t1:Bool)(h:Heap)(l1:Addr):Heap:=h.push (kE t1 l1)
abbrev Sa(t1 t2:Bool)(h:Heap)(l1 l2:Addr):Heap:=(R9 t1 h l1).push (kE t2 l2)
abbrev Sb(t1 t2:Bool)(h:Heap)(l1 l2:Addr):Heap:=(Sa t1 t2 h l1 l2).push { cls:=.type "tuple", data:=.seq #[.ref h.objs.size,.ref (R9 t1 h l1).objs.size] }
abbrev Sd(t1 t2:Bool)(h:Heap)(l1 l2:Addr):Heap:=(Sb t1 t2 h l1 l2).push { cls:=.type "tuple", data:=.seq #[.none,.none] }
abbrev Lw(t1 t2:Bool)(h:Heap)(l1 l2:Addr):Heap:=(Sd t1 t2 h l1 l2).push { cls:=.type "zip", data:=.fields #[.none,.bool false,.bool false,.ref (Sa t1 t2 h l1 l2).objs.size,.ref (Sb t1 t2 h l1 l2).objs.size] }
theorem AN(t1 t2:Bool)(l1 l2:Addr)(xs ys:Array Value):
  Meets (Builtin.«zip.__new__» ⟨[.type "zip", .ref l1,.ref l2],[]⟩) (λ _ R s=>Src t1 s.heap l1 xs /\ Src t2 s.heap l2 ys /\
   R (.ok (.ret (.ref (Sd t1 t2 s.heap l1 l2).objs.size))) { s with heap:=Lw t1 t2 s.heap l1 l2 }) :=
 .of_wp λ prog w A R s h=>by
  obtain ⟨hp,g,d,tk,os⟩:=s; obtain ⟨hl1,hl2,h⟩:=h
  have hsub:=sub_zip
  have Yq:Src t1 (Shared.heap ⟨hp,g,d,tk,os⟩) l1 xs:=hl1
  have Xa:Src t2 (Shared.heap ⟨hp.push (kE t1 l1),g,d,tk,os⟩) l2 ys:=Src.push hl2 _
  wp_walk using zb Yq,zb Xa
  exact ⟨_,rfl,h⟩
theorem Dg(hl1:Src t1 s.heap l1 xs)(hl2:Src t2 s.heap l2 ys)
  (h:∀ h',ZO h' (s.heap.objs.size + 4) (s.heap.objs.size + 2) (s.heap.objs.size + 3) .none false->Zs t1 t2 (s.heap.objs.size + 2) (s.heap.objs.size + 3) s.heap.objs.size (s.heap.objs.size + 1) l1 l2 0 h' ->
   h'.objs.size=s.heap.objs.size + 5->(∀ c o,s.heap.get? c=some o->h'.get? c=some o)->Q (.ref (s.heap.objs.size + 4)) { s with heap:=h' }):
  wpAny (model prog w) A (call (.type "zip") [.ref l1,.ref l2]) Q E s:=by
 refine callType_new F.called_zip (by decide) (F.typeCall_zip_2 _ _) (F.newCall_zip_2 _ _) (λ obj=>F.args_object_init_3 obj _ _) F.entry_zip_new
  (AN t1 t2 l1 l2 xs ys) ⟨hl1,hl2,?_⟩
 have z1:(R9 t1 s.heap l1).objs.size=s.heap.objs.size + 1:=cU ..
 have z2:(Sa t1 t2 s.heap l1 l2).objs.size=s.heap.objs.size + 2:=by rw [cU,z1]
 have z3:(Sb t1 t2 s.heap l1 l2).objs.size=s.heap.objs.size + 3:=by rw [cU,z2]
 have z4:(Sd t1 t2 s.heap l1 l2).objs.size=s.heap.objs.size + 4:=by rw [cU,z3]
 have z5:(Lw t1 t2 s.heap l1 l2).objs.size=s.heap.objs.size + 5:=by rw [cU,z4]
 have g5:(Lw t1 t2 s.heap l1 l2).get? (Sd t1 t2 s.heap l1 l2).objs.size=some _:=fJ _ rfl
 have g4:(Lw t1 t2 s.heap l1 l2).get? (Sb t1 t2 s.heap l1 l2).objs.size=some _:=bS _ (fJ _ rfl)
 have g3:(Lw t1 t2 s.heap l1 l2).get? (Sa t1 t2 s.heap l1 l2).objs.size=some _:=bS _ (bS _ (fJ _ rfl))
 have r2:(kE t2 l2).isFreed=false:=by cases t2 <;> rfl
 have r1:(kE t1 l1).isFreed=false:=by cases t1 <;> rfl
 have g2:(Lw t1 t2 s.heap l1 l2).get? (R9 t1 s.heap l1).objs.size=some (kE t2 l2):=bS _ (bS _ (bS _ (fJ _ r2)))
 have g1:(Lw t1 t2 s.heap l1 l2).get? s.heap.objs.size=some (kE t1 l1):=bS _ (bS _ (bS _ (bS _ (fJ _ r1))))
 show _ /\ _
 rw [z2,z3,z4] at g5
 rw [z1,z2] at g3
 rw [z3] at g4
 rw [z1] at g2
 rw [z4]
 exact ⟨⟨_,g5,rfl⟩,h _ g5 ⟨g3,⟨_,_,g4⟩,ko.new g1,ko.new g2⟩ z5 λ c o x =>
  bS _ (bS _ (bS _ (bS _ (bS _ x))))⟩
end
section
variable {prog:Program}{w:World}{A:Around}{E:Value->Shared->Prop}{s:Shared}{I:Addr}{T:String}{St:Heap->Prop}
end
end ZP
theorem BT.Pe:PySem.bootBuiltins "zip" = some (.type "zip"):=by decide +kernel
namespace L2
open PySem PySem.Spec PyProof.Rows
variable {b a:Addr}{xs:List V}{R:Option Int->Hp->Prop}{scope:Scope}{cl:List (Str × Addr)}{fr:List Str}{ix:List Nat}{tt:TT}
section
variable {X:Cx}{pins:List (Addr × Obj)}{σ:St}{H:Hp}{s:Shared}{h':Heap}
theorem Inv.nj{t':Nat}{fp:List Addr}(I:Inv X pins σ H s)(k:∀ b o,b ∉ fp->s.heap.get? b=some o->h'.get? b=some o)(hf:∀ b∈fp,c9 X pins H b):Inv X pins σ H { s with heap:=h',toks:=t' }:=by
 have NX:∀ b u,H b=some u->b ∉ fp:=λ b u e z=>by rw [(hf b z).1] at e; cases e
 refine I.step (g':=s.gens) (d':=s.drawn) (ch:=fp) (λ b hb=>?_) (λ b o _ _ hc e _=>k b o hc e) (λ b o _ _ hc e _=>⟨o.slots,k b o hc e⟩) (λ _ _ _ _ n=>n)
  (λ b o hc e=>⟨o,k b o hc e⟩) (λ _ _ e=>e) (λ _ _ _ e=>e) (λ b ps e=>⟨#[],by rw [e]; simp⟩) (λ m hm=>?_) (λ b u e=>?_) I.bare
 ·exact ⟨(hf b hb).2.2.2.1,(hf b hb).2.1,(hf b hb).2.2.2.2.1,(hf b hb).2.2.2.2.2⟩
 ·obtain ⟨o,es,ep,ho,r⟩:=hm
  exact ⟨o,es,ep,k _ o (λ z=>(hf _ z).2.1 rfl) ho,r⟩
 ·refine (I.hok b u e).stay (λ c v hc q=>k c v ?_ q) (λ _ q=>q) λ _ _ q=>q
  rcases hc with z | z
  ·rw [z]; exact NX b u e
  ·exact NX c _ z
theorem c9.upd{T:Addr}{o:HO}(f:c9 X pins H b)(h:b ≠ T):c9 X pins (L2.upd H T o) b:=⟨by rw [aP h]; exact f.1,f.2⟩
def AO(t:Bool)(K:ay)(H:Hp)(a:Addr)(xs:List V):Prop:=match t with
 | true=>gm K H a xs
 | false=>bI K H a xs
theorem aG.UL{K:ay}{H H':Hp}(e:aG H H')(h:gm K H a xs):gm K H' a xs:=by
 rcases h with (h | ⟨o,h⟩) | h
 ·exact .inl (.inl (e _ _ h))
 ·exact .inl (.inr ⟨o,e _ _ h⟩)
 ·exact .inr h
theorem Inv.src{t:Bool}(I:Inv X pins σ H s)(h:AO t X.K H a xs):∃ its:List Value,Vals xs its /\ ZP.Src t s.heap a its.toArray /\ xs.length <= sizeLine:=by
 cases t
 ·obtain ⟨its,r,pl,z⟩:=I.list h
  exact ⟨its,r,pl.isList,z⟩
 ·obtain ⟨its,r,pl,z⟩:=I.tuple h
  exact ⟨its,r,pl,z⟩
def bf(H:Hp)(ps:List Addr)(xs ys:List V)(i:Nat):Prop:=ps.length=i /\ ∀ (j:Nat) (p:Addr),ps[j]? = some p->∃ x y,xs[j]? = some x /\ ys[j]? = some y /\ H p=some (.tup [x,y])
end
section
variable {K:ay}{nx bk ct:St->Hp->Prop}{rt:VK}{σ:St}{H:Hp}{Q:VK}{te:TE}{t u:TS}
def Jm(R:Option Int->Hp->Prop):V->Hp->Prop:=λ x H=>∃ i,x=.int i /\ R (some i) H
theorem Lx(h:te σ H (Jm R)):I0 te σ H R:=h
theorem Gz{i:Int}(h:R (some i) H):Jm R (.int i) H:=⟨i,rfl,h⟩
theorem Dh(h:R none H):yP σ H R:=h
end
def tU{α:Type}(P:α->Prop):List α->Prop
 | []=>True
 | a :: l=>P a /\ tU P l
theorem tU.mem{α:Type}{P:α->Prop}:∀ {l:List α},tU P l->∀ a∈l,P a
 | [],_,a,h=>nomatch h
 | b :: l,hl,a,h=>by
  rcases aB.mp h with e | h
  ·rw [e]; exact hl.1
  ·exact tU.mem hl.2 a h
section
variable {X:Cx}
theorem bY.caps{x:Str}{nm:List Str}(calm:X.calm=true)(clos:closureFor scope X.env=pure cl)(cell:∀ y∈scope.names,y.2 ≠ .cell)(kind:scope.kind=.function)
  (names:∀ y∈scope.names,y.2=.local->scope.names.lookup y.1=some .local)(loc:scope.names.lookup x=some .local)(nd:(x :: fr).Nodup)
  (hcl:tU (λ p=>X.env.cells.lookup p.1=some p.2) cl)(hnm:cl.map (·.1)=nm)(hfree:∀ z∈scope.names,z.2=.free->z.1∈nm)(hlen:fr.length=ix.length)
  (hfx:tU (λ p=>X.N[p.2]? = some p.1 /\ X.env.kindOf p.1=some .cell /\ (relabel scope X.env).names.lookup p.1=some .cell) (fr.zip ix)):bY X scope cl x fr ix where
 calm:=calm
 clos:=clos
 cell:=cell
 kind:=kind
 names:=names
 loc:=loc
 nd:=nd
 Ci:=λ y c h=>hcl.mem (y,c) (eO h)
 C1:=λ y h=>by
  have mem:∀ {k:NameKind},(relabel scope X.env).names.lookup y=some k->∃ z∈scope.names,(if (z.2 == .free && X.env.scope.kind == .function && X.env.kindOf z.1 == some .cell) then (z.1,NameKind.cell) else (z.1,z.2))=(y,k):=λ {k} e=>by
   have q:=eO e
   obtain ⟨z,hz,e⟩:=aA.mp q
   exact ⟨z,hz,e⟩
  have key:∃ z∈scope.names,z.1=y /\ z.2=.free:=by
   rcases h with h | h
   ·obtain ⟨z,hz,e⟩:=mem h
    refine ⟨z,hz,?_⟩
    by_cases hf:(z.2 == NameKind.free)=true
    ·refine ⟨?_,by cases hk:z.2 <;> rw [hk] at hf <;> first | rfl | cases hf⟩
     split at e
     ·exact congrArg Prod.fst e
     ·exact congrArg Prod.fst e
    ·exfalso
     rw [Bool.not_eq_true] at hf
     rw [hf,nS,nS,if_neg iD] at e
     exact cell z hz (congrArg Prod.snd e)
   ·obtain ⟨z,hz,e⟩:=mem h
    refine ⟨z,hz,?_⟩
    split at e
    ·exact absurd (congrArg Prod.snd e) (by intro q; cases q)
    ·exact ⟨congrArg Prod.fst e,congrArg Prod.snd e⟩
  obtain ⟨z,hz,rfl,hk⟩:=key
  have hm:=hfree z hz hk
  rw [<- hnm] at hm
  obtain ⟨p,hp,e⟩:=aA.mp hm
  cases q:cl.lookup z.1 with
  | some c=>exact ⟨c,rfl⟩
  | none =>
   exfalso
   have:=List.lookup_eq_none_iff.mp q p hp
   rw [e] at this
   simp at this
 fx:=λ j y h=>by
  have hj:j < fr.length:=(e9 h).1
  have hi:ix[j]? = some (ix[j]'(by omega)):=by simp
  have hz:(y,ix[j]'(by omega))∈fr.zip ix:=fm (i:=j) (by rw [jT]; exact ⟨h,hi⟩)
  obtain ⟨a,b,c⟩:=hfx.mem _ hz
  exact ⟨_,hi,a,.inl b,.inl c⟩
 len:=hlen
end
section
variable {X:Cx}{K:ay}{nx bk ct:St->Hp->Prop}{rt:VK}{σ:St}{H:Hp}{Q:VK}{P:Bool->Hp->Prop}{te ta tb:TE}{t u:TS}
def Ly:R2:=λ x y H Q=>y=.cP /\ Q (.bl (decide (x=.cP))) H
theorem zc:kg X (compareOp .Is) Ly:=KH
theorem Lz(h:Q (.bl true) H):Ly .cP .cP H Q:=⟨rfl,h⟩
theorem LA(h:Q (.bl false) H):Ly (.ref a) .cP H Q:=⟨rfl,h⟩
theorem Pf{l:Addr}{zs:List V}(h1:H l=some (.lst xs))(h2:H b=some (.lst zs))(hz:xs.length + zs.length <= 1000000)(h:∀ p H',eT H p (.lst (xs++zs)) H'->Q (.ref p) H'):Ot (.ref l) (.ref b) H Q :=
 ⟨l,b,xs,zs,rfl,rfl,h1,h2,br hz (by decide),λ p hp=>h p _ ⟨hp,rfl⟩⟩
theorem Di{l:Addr}{zs:List V}(h1:H l=some (.lst xs))(h2:H b=some (.lst zs))(hz:xs.length + zs.length <= 1000000)(h:∀ H',kh H l (.lst (xs++zs)) H'->Q .cP H'):yU (.ref l) [.ref b] H Q :=
 ⟨l,b,xs,zs,rfl,rfl,h1,h2,br hz (by decide),h _ rfl⟩
def Pg(K:ay)(P:Bool->Hp->Prop):VK:=λ x H=>∃ k,F9 K x H k /\ P k H
def Ph(K:ay)(ta:TE):TT:=λ σ H Q=>ta σ H λ x H'=>∃ k,F9 K x H' k /\ Q k H'
theorem l6{a:Expr}(ha:PE X a ta)(he:∀ whole,isTrue a X.env whole=(do let v <- whole; standAt a.pos; holding [v] (truthy v))):PT X a (Ph X.K ta):=CA ha he
theorem Pj(h:ta σ H (Pg K P)):Ph K ta σ H P:=h
theorem LB{p:Addr}(hS:bI K H p xs)(h:P (!xs.isEmpty) H):Pg K P (.ref p) H:=⟨_,.inl ⟨xs,hS,rfl⟩,h⟩
theorem UM{r:V->Option Int->Option Int->Hp->VK->Prop}{tl th:TO}(h:te σ H λ x H1=>tl σ H1 λ l H2=>th σ H2 λ u H3=>r x l u H3 Q):WZ r te tl th σ H Q:=h
theorem Pk{lo hi:Option Int}(hS:bI K H a xs)(h:∀ p H',eT H p (.lst (lZ xs lo hi)) H'->Q (.ref p) H'):Ol K (.ref a) lo hi H Q:=⟨a,xs,rfl,hS,λ p hp=>h p _ ⟨hp,rfl⟩⟩
theorem LC{i:Nat}{v:V}(e:σ[i]? = some (some v))(h:Q v H):j0 i σ H Q:=⟨v,e,h⟩
theorem LD{i:Nat}(h:te σ H λ v H1=>fV i v σ H1 nx):C3 te i ⟨nx,rt,bk,ct⟩ σ H:=h
theorem tV(x y:Str):(x++y).length=x.length + y.length:=by
 show (x.cps++y.cps).size=x.cps.size + y.cps.size
 simp
theorem Pn(h:P true H):OB σ H P:=h
def GA(J:It)(tt:TT)(te:TE)(τ:St)(Q:VK)(H:Hp):Prop:=∃ W:Nat->Nat->List V->Hp->Prop,(∃ m,W 0 m [] H) /\ ∀ i m ys H,W i m ys H ->
 (J.stop i H /\ ∀ p,H p=none->Q (.ref p) (upd H p (.lst ys))) \/ (J.go i H /\ ys.length < sizeLine /\ ∃ N:List V->Hp->Prop,(∀ ys' H',N ys' H'->∃ m',m' < m /\ W (i + 1) m' ys' H') /\
  ∀ v H',J.Cg i H v H'->tt (some v :: τ) H' λ b H3=>if b=true then te (some v :: τ) H3 λ y H4=>N (ys++[y]) H4 else N ys H3)
theorem LF{wi:TI}(h:wi σ H λ J H1=>GA J tt te (cut ix σ) Q H1):C2 wi tt te ix σ H Q:=h
theorem GB{lo:Int}{n:Nat}{τ:St}(Pv:Nat->List V->Hp->Prop)(h0:Pv 0 [] H)
  (hs:∀ i ys H,i < n->Pv i ys H->ys.length < sizeLine /\ tt (some (.int (lo + i)) :: τ) H λ b H3=>if b=true then te (some (.int (lo + i)) :: τ) H3 λ y H4=>Pv (i + 1) (ys++[y]) H4 else Pv (i + 1) ys H3)
  (hd:∀ ys H,Pv n ys H->∀ p H',eT H p (.lst ys) H'->Q (.ref p) H'):GA (ko lo n) tt te τ Q H:=by
 refine ⟨λ i m ys H=>m=n - i /\ i <= n /\ Pv i ys H,⟨n,by simp,aL _,h0⟩,?_⟩
 rintro i m ys H ⟨rfl,hi,p⟩
 by_cases hlt:i < n
 ·obtain ⟨hz,q⟩:=hs i ys H hlt p
  refine .inr ⟨hlt,hz,Pv (i + 1),λ σ' H' p'=>⟨n - (i + 1),by omega,rfl,hlt,p'⟩,λ x H' y=>?_⟩
  obtain ⟨e,y⟩:=y
  subst e y
  exact q
 ·have e:i=n:=by omega
  subst e
  exact .inl ⟨ak _,λ q hq=>hd ys H p q _ ⟨hq,rfl⟩⟩
theorem gX{τ:St}(Pv:Nat->List V->Hp->Prop)(h0:Pv 0 [] H)(hl:∀ i ys H,i <= xs.length->Pv i ys H->bI K H a xs)
  (hs:∀ i x ys H,xs[i]? = some x->Pv i ys H->ys.length < sizeLine /\ tt (some x :: τ) H λ b H3=>if b=true then te (some x :: τ) H3 λ y H4=>Pv (i + 1) (ys++[y]) H4 else Pv (i + 1) ys H3)
  (hd:∀ ys H,Pv xs.length ys H->∀ p H',eT H p (.lst ys) H'->Q (.ref p) H'):GA (F6 K a) tt te τ Q H:=by
 refine ⟨λ i m ys H=>m=xs.length - i /\ i <= xs.length /\ Pv i ys H,⟨xs.length,by simp,aL _,h0⟩,?_⟩
 rintro i m ys H ⟨rfl,hi,p⟩
 have q:=hl i ys H hi p
 by_cases hlt:i < xs.length
 ·have hx:xs[i]? = some xs[i]:=by simp [hlt]
  obtain ⟨hz,q'⟩:=hs i _ ys H hx p
  refine .inr ⟨⟨xs,xs[i],q,hx⟩,hz,Pv (i + 1),λ σ' H' p'=>⟨xs.length - (i + 1),by omega,rfl,hlt,p'⟩,λ x H' y=>?_⟩
  obtain ⟨e,y⟩:=y
  subst e
  have e2:x=xs[i]:=Option.some.inj ((y xs q).symm.trans hx)
  subst e2
  exact q'
 ·have e:i=xs.length:=by omega
  subst e
  exact .inl ⟨⟨xs,q,ak _⟩,λ r hr=>hd ys H p r _ ⟨hr,rfl⟩⟩
end
structure iK (X:Cx) (scope:Scope) (cl:List (Str × Addr)) (xs fr:List Str) (ix:List Nat):Prop where
 calm:X.calm=true
 clos:closureFor scope X.env=pure cl
 cell:∀ y∈scope.names,y.2 ≠ .cell
 kind:scope.kind=.function
 names:∀ y∈scope.names,y.2=.local->scope.names.lookup y.1=some .local
 nd:(xs++fr).Nodup
 Ci:∀ y c,cl.lookup y=some c->X.env.cells.lookup y=some c
 C1:∀ y,((relabel scope X.env).names.lookup y=some .cell \/ (relabel scope X.env).names.lookup y=some .free)->∃ c,cl.lookup y=some c
 fx:∀ (j:Nat) y,fr[j]? = some y->∃ i:Nat,ix[j]? = some i /\ X.N[i]? = some y /\ (X.env.kindOf y=some .cell \/ X.env.kindOf y=some .free) /\ ((relabel scope X.env).names.lookup y=some .cell \/ (relabel scope X.env).names.lookup y=some .free)
 len:fr.length=ix.length
section
variable {X:Cx}{pins:List (Addr × Obj)}{σ:St}{H:Hp}{s:Shared}
theorem iK.of{x:Str}{xs:List Str}(O:bY X scope cl x fr ix)(nd:(xs++fr).Nodup):iK X scope cl xs fr ix:=⟨O.calm,O.clos,O.cell,O.kind,O.names,nd,O.Ci,O.C1,O.fx,O.len⟩
theorem mP{elt iter tg:Expr}{xs:List Str}{g:TG}{ifs:List Expr}{pos:Pos}{te:TE}{E:Value->Shared->Prop}{RR:Value->Addr->Result->Shared->Prop}
  (O:iK X scope cl xs fr ix)(hg:∀ C fp s H,PG (jL X (xs++fr) scope cl C fp s H) tg g)(ht:∀ C fp s H,PF (jL X (xs++fr) scope cl C fp s H) ifs tt)(he:∀ C fp s H,PE (jL X (xs++fr) scope cl C fp s H) elt te)
  {it:Addr}{fp:List Addr}{tn:Nat->Heap->Prop}{J:It}{H2:Hp}{s2:Shared}(I2:Inv X pins σ H2 s2)(T:Turn X.prog X.w X.K tg J fp it tn)(st2:tn 0 s2.heap)(f2:∀ b∈fp,c9 X pins H2 b)
  (Z:List V->Hp->Prop)(W:Nat->Nat->List V->St->Hp->Prop)(m0:Nat)(w0:W 0 m0 [] (List.replicate xs.length none++cut ix σ) H2)
  (turn:∀ i m ys τ H,W i m ys τ H->(J.stop i H /\ Z ys H) \/ (J.go i H /\ ys.length < sizeLine /\ ∃ N:List V->St->Hp->Prop,(∀ ys' τ' H',N ys' τ' H'->∃ m',m' < m /\ W (i + 1) m' ys' τ' H') /\
   ∀ v H',J.Cg i H v H'->g v τ H' λ τ2 H2=>tt τ2 H2 λ b H3=>if b=true then te τ2 H3 λ y H4=>N (ys++[y]) τ2 H4 else N ys τ2 H3))
  (hRR:∀ D C s' ys H',Inv X pins σ (upd H' D (.lst ys)) s'->(∃ m,s'.heap.Ns C m)->c9 X pins (upd H' D (.lst ys)) C->H' D=none->Z ys H'->RR (.ref D) C (.ok .next) s'):
  wpAny (model X.prog X.w) X.A (newList []) (λ acc s₃=>wpAny (model X.prog X.w) X.A (newFunctionEnv scope X.env.globals cl [] X.env.qual none .none (some X.env)) (λ cenv s₄ =>
   codeAny (model X.prog X.w) X.A (.compStart (.ListComp elt [⟨tg,iter,ifs,0⟩] scope pos) 0 (.ref it) acc { cenv with scope:=relabel scope X.env }) (RR acc cenv.locals) s₄) E s₃) E s2:=by
 refine wpAny_newObj_type (wpAny_newFunctionEnv O.cell (by intro y hy; simp at hy) (λ h₁ w4 sr=>?_) O.kind)
 dsimp only at w4 sr ⊢
 generalize hG:s2.heap.push { cls:=.type "list", dict:=none,data:=.seq ([]:List Value).toArray }=G at w4 sr ⊢
 have hC:G.objs.size=s2.heap.objs.size + 1:=by rw [<- hG,cU]
 have hDC:s2.heap.objs.size ≠ G.objs.size:=by rw [hC]; exact aO (jX _)
 have w5:s2.heap.objs.size <= G.objs.size:=by rw [hC]; exact gT _
 have below:∀ b,b < s2.heap.objs.size->b ≠ G.objs.size /\ b ≠ s2.heap.objs.size:=λ b hb=>⟨by rw [hC]; exact aO (ja hb),aO hb⟩
 have old:∀ b o,s2.heap.get? b=some o->h₁.get? b=some o:=λ b o e=>sr.extBut b o (below b (aD e)).1 (bS _ (hG ▸ bS _ e))
 have hacc:h₁.get? s2.heap.objs.size=some { cls:=.type "list", data:=.seq ([]:List Value).toArray }:=sr.extBut _ _ hDC (bS _ (hG ▸ fJ _ rfl))
 have OC:H2 s2.heap.objs.size=none:=I2.hok.fresh (ak _)
 have OD:H2 G.objs.size=none:=I2.hok.fresh w5
 have fD:c9 X pins H2 s2.heap.objs.size:=I2.jJ (ak _) OC
 have fC:c9 X pins H2 G.objs.size:=I2.jJ w5 OD
 have w6:∀ b∈fp,b < s2.heap.objs.size:=λ b hb=>by
  obtain ⟨o,e,_⟩:=T.obj _ _ st2 b hb
  exact aD e
 have qK:∀ b∈frs X.stack,b∈X.env.locals :: X.fs:=I2.oj
 have dg:=O.Ci
 have ok:(jL X (xs++fr) scope cl G.objs.size fp s2 H2).Ok:=by
  refine ⟨I2.ok.mod,O.kind,I2.ok.glob,I2.ok.blt,w5,λ y z c h1 h2=>I2.ok.inj y z c (dg y c h1) (dg z c h2),λ y hy=>O.C1 y hy,λ y c h _=>absurd h iD,λ h=>I2.ok.hd h,I2.ok.frames,.inl rfl,λ b hb=>?_,I2.bs,br I2.ok.Cf I2.sz,λ b o e hb=>?_,λ b hb hs=>?_,I2.stack,I2.nh⟩
  ·exact ⟨(below b (w6 b hb)).1,λ y c e=>(f2 b hb).2.2.2.2.1 y c (dg y c e)⟩
  ·rcases (f2 b hb).2.2.2.1 with z | z
   ·exact I2.ok.Aw b o e z
   ·exact absurd (bN (aD (I2.ok.bs b o e).1) z) (cV _)
  ·rcases aB.mp (qK b hs) with z | z
   ·exact (f2 b hb).2.1 z
   ·exact (f2 b hb).2.2.1 z
 have OE:∀ b,s2.heap.objs.size <= b->b ∉ frs X.stack:=λ b hb hs=>by
  rcases aB.mp (qK b hs) with z | z
  ·exact absurd (bN I2.lt (z ▸ hb)) (cV _)
  ·exact I2.Kq hb z
 have Ic:Inv (jL X (xs++fr) scope cl G.objs.size fp s2 H2) [(s2.heap.objs.size,{ cls:=.type "list", data:=.seq ([]:List Value).toArray })] (List.replicate xs.length none++cut ix σ) H2 { s2 with heap:=h₁,toks:=s2.toks + ([]:List (Str × Value)).length }:=by
  refine ⟨ok,rfl,I2.bare,Un.kept old,⟨_,w4,λ i y v h1 h2 h3=>?_⟩,λ y c e=>?_,OD,λ y c e=>I2.gr y c (dg y c e),λ p hp=>?_,I2.hok.kept old,?_⟩
  ·have hk:xs.length <= i:=by
    rcases bG i xs.length with q | q
    ·rw [nZ (by simpa using q),List.getElem?_replicate,if_pos q] at h2
     cases h2
    ·exact q
   ·obtain ⟨j,rfl⟩:∃ j,i=xs.length + j:=⟨i - xs.length,by omega⟩
    have h1:fr[j]? = some y:=by
     have h1:(xs++fr)[xs.length + j]? = some y:=h1
     rwa [i7 (by omega),Nat.add_sub_cancel_left] at h1
    have h2:(cut ix σ)[j]? = some (some v):=by
     rwa [i7 (by simp),List.length_replicate,Nat.add_sub_cancel_left] at h2
    obtain ⟨i,e1,e2,k,kc⟩:=O.fx j y h1
    obtain ⟨c,e3⟩:=O.C1 y kc
    have e4:σ[i]? = some (some v):=by
     unfold cut at h2
     rw [aS,e1] at h2
     have h2:some ((σ[i]?).join)=some (some v):=h2
     have h2:=Option.some.inj h2
     cases q:σ[i]? with
     | none=>rw [q] at h2; cases h2
     | some z=>rw [q] at h2; exact congrArg some h2
    obtain ⟨m,_,hl⟩:=I2.loc
    obtain ⟨u,r,l⟩:=hl i y v e2 e4 (k.elim (λ z=>.inr (.inl z)) λ z=>.inr (.inr z))
    refine ⟨u,r,.inr ⟨kc,c,e3,?_⟩⟩
    rcases l with ⟨l1,_⟩ | ⟨_,c',l2,l3⟩
    ·rcases k with k | k <;> (rw [k] at l1; cases l1)
    ·have e5:=dg y c e3
     rw [l2] at e5; cases e5
     obtain ⟨o,ho,hd⟩:=l3
     exact ⟨o,old _ _ ho,hd⟩
  ·obtain ⟨v,o,ho,hd⟩:=I2.cell y c (dg y c e)
   exact ⟨v,o,old _ _ ho,hd⟩
  ·have e:p=(s2.heap.objs.size,{ cls:=.type "list", data:=.seq ([]:List Value).toArray }):=by simpa [jL] using hp
   subst e
   exact ⟨hacc,OC,hDC,OE _ (ak _),λ v z=>by cases z⟩
  ·show (List.replicate xs.length none++cut ix σ).length=(xs++fr).length
   unfold cut
   simp [O.len]
 have xg:∀ b∈fp,b ≠ s2.heap.objs.size:=λ b hb=>(below b (w6 b hb)).2
 have oA:∀ {pl:List (Addr × Obj)} {H':Hp},(∀ p∈pl,p.1=s2.heap.objs.size)->(∀ b∈fp,H' b=none)->∀ b∈fp,c9 (jL X (xs++fr) scope cl G.objs.size fp s2 H2) pl H' b:=λ {pl H'} hp hn b hb =>
  ⟨hn b hb,(below b (w6 b hb)).1,λ hs=>ok.Ax b hb hs,.inl hb,λ y c e=>(f2 b hb).2.2.2.2.1 y c (dg y c e),λ p K2 z=>xg b hb (z.symm.trans (hp p K2))⟩
 have one:∀ {o:Obj},∀ p∈[(s2.heap.objs.size,o)],p.1=s2.heap.objs.size:=λ p hp=>by
  have e:=au.mp hp
  rw [e]
 have loop:codeAny (model X.prog X.w) X.A (.compLoop (.ListComp elt [⟨tg,iter,ifs,0⟩] scope pos) 0 (.ref it) (.ref s2.heap.objs.size) (compEnvC scope cl G.objs.size X.env)) (RR (.ref s2.heap.objs.size) G.objs.size)
   { s2 with heap:=h₁,toks:=s2.toks + ([]:List (Str × Value)).length }:=by
  refine kC (λ n s'=>∃ (i:Nat) (ys:List V) (its:List Value) (c:Nat) (τ:St) (H':Hp),Inv (jL X (xs++fr) scope cl G.objs.size fp s2 H2) [(s2.heap.objs.size,{ cls:=.type "list", data:=.seq its.toArray c })] τ H' s' /\ tn i s'.heap /\ (∀ b∈fp,H' b=none) /\ Vals ys its /\ ys.length <= sizeLine /\ W i n ys τ H') ?_ m0
   ⟨0,[],[],0,_,H2,Ic,T.keep _ _ _ st2 (λ b _ o e=>old b o e),λ b hb=>(f2 b hb).1,.nil,aL _,w0⟩
  rintro n s3 ⟨i,ys,its,c,τ,H3,I3,st3,IU,rv,hl3,w3⟩
  rcases turn i n ys τ H3 w3 with ⟨stop,zz⟩ | ⟨go,hlt,N,hN,step⟩
  ·refine wpAny_mono (T.done (jL X (xs++fr) scope cl G.objs.size fp s2 H2) rfl rfl rfl O.calm i _ s3 _ H3 _ I3 (oA one IU) st3 stop) (λ r s4 h4=>?_) λ _ _ e=>e
   obtain ⟨hr,I4⟩:=h4
   subst hr
   have pD:=I4.pin _ (bg _ (au.mpr rfl))
   have IX:Inv X pins σ H3 s4:=I2.Cr I4.os I4.base I4.hok I4.bare λ b hb=>⟨(f2 b hb).2.2.2.1,(f2 b hb).2.1,(f2 b hb).2.2.2.2.1,(f2 b hb).2.2.2.2.2⟩
   obtain ⟨mC,Uh,_⟩:=I4.loc
   exact hRR _ _ s4 ys H3 (IX.tR ⟨pD.2.1,fD.2⟩ ⟨hl3,its,c,rv,pD.1⟩) ⟨mC,Uh⟩ ⟨by rw [aP (aZ hDC)]; exact I4.free,fC.2⟩ pD.2.1 zz
  ·refine wpAny_mono (T.item (jL X (xs++fr) scope cl G.objs.size fp s2 H2) rfl rfl rfl O.calm i _ s3 _ H3 _ I3 (oA one IU) st3 go) (λ r s4 h4=>?_) λ _ _ e=>e
   obtain ⟨u,hr,h4⟩:=h4
   subst hr
   refine wpAny_mono h4 (λ _ s5 h5=>?_) λ _ _ e=>e
   obtain ⟨v,H5,I5,r5,y5,wL,N8⟩:=h5
   have N9:=I5.pinned (oA one N8) (T.obj _ _ wL)
   refine wpAny_mono (hg _ _ _ _ _ s5 τ H5 v u _ N9 r5 (step v H5 y5)) (λ _ s6 h6=>?_) λ _ _ f=>False.elim f
   obtain ⟨τ2,H6,I6,q6⟩:=h6
   refine wpAny_mono (ht _ _ _ _ _ s6 _ H6 _ I6 q6) (λ ok s7 h7=>?_) λ _ _ f=>False.elim f
   obtain ⟨H7,I7,q7⟩:=h7
   cases ok with
   | true =>
    rw [if_pos rfl] at q7 ⊢
    refine wpAny_mono (he _ _ _ _ _ s7 _ H7 _ I7 q7) (λ uy s8 h8=>?_) λ _ _ f=>False.elim f
    obtain ⟨y,H8,I8,r8,n8⟩:=h8
    have pD:=I8.pin _ (bg _ (gR _ (au.mpr rfl)))
    have rl:=rv.length
    refine append_at (hsz:=by rw [aM]; omega) pD.1 λ h9 OF Ui=>?_
    obtain ⟨m',hm,w9⟩:=hN _ _ _ n8
    have Ia:Inv (jL X (xs++fr) scope cl G.objs.size fp s2 H2) (jd fp s5.heap) τ2 H8 s8:=I8.ju λ p hp=>I8.pin p (bg _ (bg _ hp))
    have Ib:=Ia.turned (h':=h9) (t':=s8.toks) (it:=s2.heap.objs.size) (λ b o hb e=>OF.extBut b o hb e) pD.2.1 hDC (.inr (ak _)) (λ y c e=>fD.2.2.2.2.1 y c (dg y c e))
     λ p hp=>by
      obtain ⟨hb,_⟩:=lX (fp:=fp) (h:=s5.heap) (show p∈jd fp s5.heap from hp)
      exact xg p.1 hb
    refine ⟨m',hm,i + 1,ys++[y],its++[uy],c + 1,τ2,H8,Ib.ju λ p hp=>?_,T.keep _ _ _ wL λ b hb o e=>?_,λ b hb=>?_,rv.append (.cons r8 .nil),by rw [aN,dW]; omega,w9⟩
    ·have e:=au.mp hp
     subst e
     refine ⟨?_,pD.2.1,hDC,pD.2.2.2.1,λ v z=>by cases z⟩
     have q:its.toArray.push uy=(its++[uy]).toArray:=by simp
     rw [<- q]
     exact Ui
    ·exact OF.extBut b o (xg b hb) (I8.pin (b,o) (bg _ (bg _ (cH hb e)))).1
    ·obtain ⟨o,e,d⟩:=T.obj _ _ wL b hb
     exact (I8.pin (b,o) (bg _ (bg _ (cH hb e)))).2.1
   | false =>
    rw [if_neg iD] at q7 ⊢
    obtain ⟨m',hm,w9⟩:=hN _ _ _ q7
    refine ⟨m',hm,i + 1,ys,its,c,τ2,H7,I7.je,T.keep _ _ _ wL λ b hb o e=>?_,λ b hb=>?_,rv,hl3,w9⟩
    ·exact (I7.pin (b,o) (bg _ (bg _ (cH hb e)))).1
    ·obtain ⟨o,e,d⟩:=T.obj _ _ wL b hb
     exact (I7.pin (b,o) (bg _ (bg _ (cH hb e)))).2.1
 exact codeAny_compStart_list loop (T.self _ 0 _ _ _ (T.keep _ _ _ st2 λ b _ o e=>old b o e) loop)
def xo(wi:TI)(g:TG)(tt:TT)(te:TE)(ix:List Nat)(k:Nat):TE:=λ σ H Q=>wi σ H λ J H1=>∃ W:Nat->Nat->List V->St->Hp->Prop,(∃ m,W 0 m [] (List.replicate k none++cut ix σ) H1) /\ ∀ i m ys τ H,W i m ys τ H ->
 (J.stop i H /\ ∀ p,H p=none->Q (.ref p) (upd H p (.lst ys))) \/ (J.go i H /\ ys.length < sizeLine /\ ∃ N:List V->St->Hp->Prop,(∀ ys' τ' H',N ys' τ' H'->∃ m',m' < m /\ W (i + 1) m' ys' τ' H') /\
  ∀ v H',J.Cg i H v H'->g v τ H' λ τ2 H2=>tt τ2 H2 λ b H3=>if b=true then te τ2 H3 λ y H4=>N (ys++[y]) τ2 H4 else N ys τ2 H3)
theorem Dj{elt iter tg:Expr}{xs:List Str}{g:TG}{ifs:List Expr}{pos:Pos}{wi:TI}{te:TE}(O:iK X scope cl xs fr ix)(hi:PI X tg iter wi)(hg:∀ C fp s H,PG (jL X (xs++fr) scope cl C fp s H) tg g)
  (ht:∀ C fp s H,PF (jL X (xs++fr) scope cl C fp s H) ifs tt)(he:∀ C fp s H,PE (jL X (xs++fr) scope cl C fp s H) elt te)
  (hs:∀ v,foldedSetIterable iter X.env v=pure v:=by intro _; rfl):PE X (.ListComp elt [⟨tg,iter,ifs,0⟩] scope pos) (xo wi g tt te ix xs.length):=by
 intro pins s σ H Q I h
 rw [eval_ListComp]
 refine wpAny_comprehension_free (use:=none) rfl hs O.clos O.kind O.names (cA (hi pins s σ H _ I h) λ v s1 h1=>cA h1 λ itv s2 h2=>?_)
 obtain ⟨it,fp,tn,J,H2,e,I2,T,st2,f2,W,⟨m0,w0⟩,turn⟩:=h2
 subst e
 refine mP O hg ht he I2 T st2 f2 (λ ys H=>∀ p,H p=none->Q (.ref p) (upd H p (.lst ys))) W m0 w0 turn λ D C s' ys H' I' hm fC hD z=>?_
 obtain ⟨m,hm⟩:=hm
 refine ⟨m,hm,λ h' hs'=>?_⟩
 exact ⟨.ref D,_,I'.turned (t':=s'.toks) (it:=C) (λ b o hb e=>hs'.extBut b o hb e) fC.1 fC.2.1 fC.2.2.2.1 fC.2.2.2.2.1 fC.2.2.2.2.2,rfl,z D hD⟩
end
end L2
theorem BT.tW:PySem.bootBuiltins "enumerate" = some (.type "enumerate"):=by decide +kernel
namespace L2
open PySem PySem.Spec PyProof.Rows
variable {w:World}{K:ay}{es:List Expr}{k n:Nat}{pos:Pos}{t1 t2:Bool}{xs ys:List V}{a b:Addr}{R:It->Hp->Prop}{g:TG}{tt:TT}
def Po(K:ay)(t1 t2:Bool)(l1 l2:Addr)(xs ys:List V):It :=
 ⟨λ i H=>AO t1 K H l1 xs /\ AO t2 K H l2 ys /\ i < min xs.length ys.length,
  λ i H v H'=>∃ p x y,xs[i]? = some x /\ ys[i]? = some y /\ v=.ref p /\ eT H p (.tup [x,y]) H',
  λ i H=>AO t1 K H l1 xs /\ AO t2 K H l2 ys /\ min xs.length ys.length <= i⟩
theorem Dk{P:Program}{z TI TO i1 i2 l1 l2:Addr}(D:ZipApart z TI TO i1 i2 l1 l2):
  Turn P w K (.Tuple es k pos) (Po K t1 t2 l1 l2 xs ys) [z,TI,TO,i1,i2] z (λ i h=>ZP.ZO h z TI TO .none false /\ ZP.Zs t1 t2 TI TO i1 i2 l1 l2 i h) where
 mem:=by simp
 obj:=λ i h st b hb=>by
  obtain ⟨hz,hs⟩:=st
  obtain ⟨a,c,hTO⟩:=hs.to
  simp only [aB,eK,or_false] at hb
  rcases hb with e | e | e | e | e <;> rw [e]
  ·exact ⟨_,hz,λ v q=>by cases q⟩
  ·exact ⟨_,hs.ti,λ v q=>by cases q⟩
  ·exact ⟨_,hTO,λ v q=>by cases q⟩
  ·obtain ⟨o,e1,vs,d⟩:=hs.a1.here
   exact ⟨o,e1,λ v q=>by rw [d] at q; cases q⟩
  ·obtain ⟨o,e1,vs,d⟩:=hs.a2.here
   exact ⟨o,e1,λ v q=>by rw [d] at q; cases q⟩
 keep:=λ i h h' st kk=>⟨kk z (by simp) _ st.1,st.2.keep λ b hb o e=>kk b (by rcases hb with q | q | q | q <;> simp [q]) o e⟩
 item:=by
  intro X hP hw hK hc i pins s σ H E I hf st hg
  subst hP hw hK
  obtain ⟨q1,q2,hlt⟩:=hg
  obtain ⟨Dl,v1,AQ,z1⟩:=I.src q1
  obtain ⟨its2,v2,AR,z2⟩:=I.src q2
  have hx:xs[i]? = some (xs[i]'(by omega)):=by simp
  have hy:ys[i]? = some (ys[i]'(by omega)):=by simp
  generalize xs[i]'(by omega)=x at hx
  generalize ys[i]'(by omega)=y at hy
  obtain ⟨u,hu,ru⟩:=v1.get hx
  obtain ⟨v,hv,rv⟩:=v2.get hy
  obtain ⟨hz,hs⟩:=st
  refine ZP.Gy ⟨_,hz,rfl⟩ (ZP.De (Q:=λ r s'=>r=.ref s.heap.objs.size /\ ∃ h',s'={ s with heap:=h' } /\ ZP.ZO h' z TI TO (rawInt s.heap.objs.size) false /\ ZP.Zs t1 t2 TI TO i1 i2 l1 l2 (i + 1) h' /\ IsPair h' s.heap.objs.size u v /\ ZP.Rest z TO i1 i2 s.heap h')
   D hz hs AQ AR (by simpa using hu) (by simpa using hv) λ h' a1 a2 a3 _ a5=>⟨rfl,h',rfl,a1,a2,a3,a5⟩) λ r s' q=>?_
  obtain ⟨rfl,h',rfl,hz',st',K2,hr⟩:=q
  refine ⟨_,rfl,wpAny_letOwnedTupleGo_zip hz' λ h2 hz2 hs2=>?_⟩
  have Yr:z ≠ s.heap.objs.size:=aO (aD hz)
  have hr2:∀ b o,b ∉ [z,TO,i1,i2]->s.heap.get? b=some o->h2.get? b=some o:=λ b o hb e =>
   hs2.extBut b o (λ q=>hb (by simp [q])) (hr b o (λ q=>hb (by simp [q])) (λ q=>hb (by simp [q])) (λ q=>hb (by simp [q])) (λ q=>hb (by simp [q])) e)
  have I1:Inv X pins σ H { s with heap:=h2,toks:=s.toks }:=I.nj (fp:=[z,TO,i1,i2]) hr2 λ b hb=>hf b (by
   simp only [aB,eK,or_false] at hb ⊢
   rcases hb with h | h | h | h <;> simp [h])
  have hfr:H s.heap.objs.size=none:=I.hok.fresh (ak _)
  have I2:=I1.tR (I.jJ (ak _) hfr) (o:=.tup [x,y]) ⟨by show 2 <= sizeLine; decide,[u,v],.cons ru (.cons rv .nil),⟨_,hs2.extBut _ _ (aZ Yr) K2,rfl,_,rfl⟩⟩
  obtain ⟨a,c,hTO⟩:=st'.to
  refine ⟨.ref s.heap.objs.size,_,I2,rfl,⟨_,x,y,hx,hy,rfl,hfr,rfl⟩,⟨hz2,st'.keep λ b hb o e=>hs2.extBut b o ?_ e⟩,λ b hb=>?_⟩
  ·rcases hb with q | q | q | q <;> rw [q]
   ·exact D.TIz
   ·exact D.TOz
   ·exact D.i1z
   ·exact D.i2z
  ·rw [aP ?_]
   ·exact (hf b hb).1
   ·obtain ⟨a0,c0,UN⟩:=hs.to
    obtain ⟨o1,e1,_⟩:=hs.a1.here
    obtain ⟨o2,e2,_⟩:=hs.a2.here
    have lt:∀ {b:Addr} {o:Obj},s.heap.get? b=some o->b ≠ s.heap.objs.size:=λ e=>aO (aD e)
    simp only [aB,eK,or_false] at hb
    rcases hb with h | h | h | h | h <;> rw [h]
    ·exact lt hz
    ·exact lt hs.ti
    ·exact lt UN
    ·exact lt e1
    ·exact lt e2
 done:=by
  intro X hP hw hK hc i pins s σ H E I hf st hg
  subst hP hw hK
  obtain ⟨q1,q2,hge⟩:=hg
  obtain ⟨Dl,v1,AQ,z1⟩:=I.src q1
  obtain ⟨its2,v2,AR,z2⟩:=I.src q2
  obtain ⟨hz,hs⟩:=st
  have e1:=v1.length
  have e2:=v2.length
  refine ZP.Lv ⟨_,hz,rfl⟩ (ZP.Gx (.inl rfl) (I.ok.hd hc) D hz hs AQ AR ?_ λ h' e hr he=>?_)
  ·rcases Nat.le_total xs.length ys.length with hle | hle
   ·refine .inl ?_
    simp only [i8]
    exact iF (by omega)
   ·refine .inr ?_
    simp only [i8]
    exact iF (by omega)
  ·obtain ⟨o,ho,hcl⟩:=he
   refine ⟨e,o,rfl,ho,hcl,rfl,?_⟩
   exact I.nj (t':=s.toks) (fp:=[z,TO,i1,i2]) (λ b o hb e=>hr b o (λ q=>hb (by simp [q])) (λ q=>hb (by simp [q])) (λ q=>hb (by simp [q])) (λ q=>hb (by simp [q])) e) λ b hb=>hf b (by
    simp only [aB,eK,or_false] at hb ⊢
    rcases hb with h | h | h | h <;> simp [h])
 self:=λ A i s Q E st q=>wpAny_pyIter_zip st.1 q
section
variable {X:Cx}{es:List Expr}{k:Nat}{tpos:Pos}
def LG(K:ay)(R:It->Hp->Prop):List V->Hp->Prop:=λ vs H=>∃ t1 t2 a b xs ys,vs=[.ref a,.ref b] /\ AO t1 K H a xs /\ AO t2 K H b ys /\ R (Po K t1 t2 a b xs ys) H
def Pp(K:ay)(ta:TA):TI:=λ σ H R=>ta σ H (LG K R)
theorem Dm{a b:Expr}{ta:TA}{p:Pos}(hg:Gl X "zip")(hm:X.mg "zip" = none)(ha:PA X [a,b] ta)
  (he:starEach [a,b] X.env=(false,eval a X.env) :: starEach [b] X.env:=by rfl)(hpl:(backTo pos (starEach [b] X.env)).any (·.1)=false:=by rfl):PI X (.Tuple es k tpos) (.Call (.Name "zip" p) [a,b] [] pos) (Pp X.K ta):=by
 intro pins s σ H R I h
 refine wpAny_Call_Name_kw (gu I hg hm BT.Pe ?_)
 refine iJ (cA (ha pos pins s σ H _ I h) λ us s1 ⟨vs,H1,I1,rv,q1⟩=>?_) he hpl
 obtain ⟨t1,t2,pa,pb,xs,ys,rfl,hx,hy,q⟩:=q1
 obtain ⟨u,u',rfl,r1,r2⟩:=vals2 rv
 cases r1; cases r2
 obtain ⟨Dl,v1,AQ,z1⟩:=I1.src hx
 obtain ⟨its2,v2,AR,z2⟩:=I1.src hy
 obtain ⟨o1,e1⟩:=AQ.here
 obtain ⟨o2,e2⟩:=AR.here
 refine ZP.Dg AQ AR λ h' hz st hsz hk=>?_
 have I2:Inv X pins σ H1 { s1 with heap:=h',toks:=s1.toks }:=I1.kept hk
 refine wpAny_pyIter_zip hz ⟨_,_,_,_,H1,rfl,I2,Dk (zipApart_new (aD e1) (aD e2)),⟨hz,st⟩,λ b hb=>?_,q⟩
 have fr:∀ b,s1.heap.objs.size <= b->c9 X pins H1 b:=λ b hb=>I1.jJ hb (I1.hok.fresh hb)
 refine fr b ?_
 simp only [aB,eK,or_false] at hb
 rcases hb with h | h | h | h | h <;> rw [h]
 ·exact jW _ _
 ·exact jW _ _
 ·exact jW _ _
 ·exact ak _
 ·exact jW _ _
end
def Pq(K:ay)(l:Addr)(xs:List V):It :=
 ⟨λ i H=>bI K H l xs /\ i < xs.length,λ i H v H'=>∃ p x,xs[i]? = some x /\ v=.ref p /\ eT H p (.tup [.int i,x]) H',λ i H=>bI K H l xs /\ xs.length <= i⟩
theorem AS{P:Program}{e it l:Addr}(hei:e ≠ it):
  Turn P w K (.Tuple es k pos) (Pq K l xs) [e,it] e (λ i h=>(∃ old,IsEnum h e it i old) /\ h.IsListIter it l i) where
 mem:=by simp
 obj:=λ i h st b hb=>by
  obtain ⟨⟨old,he⟩,o,e1,c,d⟩:=st
  simp only [aB,eK,or_false] at hb
  rcases hb with q | q <;> rw [q]
  ·exact ⟨_,he,λ v q=>by cases q⟩
  ·exact ⟨o,e1,λ v q=>by rw [d] at q; cases q⟩
 keep:=λ i h h' st kk=>⟨let ⟨old,he⟩:=st.1; ⟨old,kk e (by simp) _ he⟩,let ⟨o,e1,r⟩:=st.2; ⟨o,kk it (by simp) o e1,r⟩⟩
 item:=by
  intro X hP hw hK hc i pins s σ H E I hf st hg
  subst hP hw hK
  obtain ⟨q1,hlt⟩:=hg
  obtain ⟨Dl,v1,pl,z1⟩:=I.list q1
  have hx:xs[i]? = some (xs[i]'(by omega)):=by simp
  generalize xs[i]'(by omega)=x at hx
  obtain ⟨u,hu,ru⟩:=v1.get hx
  obtain ⟨⟨old,he⟩,hit⟩:=st
  have hT1:e ≠ s.heap.objs.size:=aO (aD he)
  have hT2:it ≠ s.heap.objs.size:=by
   obtain ⟨o,e1,_⟩:=hit
   exact aO (aD e1)
  refine wpAny_pyNext_enum_item he hit pl.isList (by simpa using hu) hei λ h' ho tX hT hsz hk=>⟨_,rfl,?_⟩
  refine wpAny_letOwnedTupleGo_enum ho λ h2 Se hs2=>?_
  have hfr:H s.heap.objs.size=none:=I.hok.fresh (ak _)
  have I1:Inv X pins σ H { s with heap:=h2,toks:=s.toks + 1 }:=I.nj (fp:=[e,it]) (λ b o hb e1=>hs2.extBut b o (λ q=>hb (by simp [q])) (hk b o (λ q=>hb (by simp [q])) (λ q=>hb (by simp [q])) e1)) λ b hb=>hf b hb
  have I2:=I1.tR (I.jJ (ak _) hfr) (o:=.tup [.int i,x]) ⟨by show 2 <= sizeLine; decide,[.int i s.toks,u],.cons ⟨_,rfl⟩ (.cons ru .nil),⟨_,hs2.extBut _ _ (aZ hT1) hT,rfl,_,rfl⟩⟩
  refine ⟨.ref s.heap.objs.size,_,I2,rfl,⟨_,x,hx,rfl,hfr,rfl⟩,⟨⟨_,by simpa using Se⟩,tX.extBut hs2.extBut (aZ hei)⟩,λ b hb=>?_⟩
  rw [aP ?_]
  ·exact (hf b hb).1
  ·simp only [aB,eK,or_false] at hb
   rcases hb with h | h <;> rw [h]
   ·exact hT1
   ·exact hT2
 done:=by
  intro X hP hw hK hc i pins s σ H E I hf st hg
  subst hP hw hK
  obtain ⟨q1,hge⟩:=hg
  obtain ⟨Dl,v1,pl,z1⟩:=I.list q1
  obtain ⟨⟨old,he⟩,hit⟩:=st
  have e1:=v1.length
  refine wpAny_pyNext_enum_end (I.ok.hd hc) he hit pl.isList ?_ λ h' hx=>⟨rfl,?_⟩
  ·simp only [i8]
   exact iF (by omega)
  ·exact I.nj (t':=s.toks) (fp:=[e,it]) (λ b o hb e1=>hx b o (λ q=>hb (by simp [q])) e1) λ b hb=>hf b hb
 self:=λ A i s Q E st q=>let ⟨old,he⟩:=st.1; wpAny_pyIter_enum he q
section
variable {X:Cx}{es:List Expr}{k:Nat}{tpos:Pos}
def LH(K:ay)(R:It->Hp->Prop):List V->Hp->Prop:=λ vs H=>∃ a xs,vs=[.ref a] /\ bI K H a xs /\ R (Pq K a xs) H
def Jo(K:ay)(ta:TA):TI:=λ σ H R=>ta σ H (LH K R)
theorem sy{a:Expr}{ta:TA}{p:Pos}(hg:Gl X "enumerate")(hm:X.mg "enumerate" = none)(ha:PA X [a] ta)
  (he:starEach [a] X.env=(false,eval a X.env) :: starEach [] X.env:=by rfl)(hpl:(backTo pos (starEach [] X.env)).any (·.1)=false:=by rfl):PI X (.Tuple es k tpos) (.Call (.Name "enumerate" p) [a] [] pos) (Jo X.K ta):=by
 intro pins s σ H R I h
 refine wpAny_Call_Name_kw (gu I hg hm BT.tW ?_)
 refine iJ (cA (ha pos pins s σ H _ I h) λ us s1 ⟨vs,H1,I1,rv,q1⟩=>?_) he hpl
 obtain ⟨pa,xs,rfl,hx,q⟩:=q1
 obtain ⟨u,rfl,r1⟩:=vals1 rv
 cases r1
 obtain ⟨Dl,v1,pl,z1⟩:=I1.list hx
 refine call_enumerate_list pl.isList λ h' hE hI hsz hk=>?_
 have I2:Inv X pins σ H1 { s1 with heap:=h',toks:=s1.toks }:=I1.kept hk
 refine wpAny_pyIter_enum hE ⟨_,_,_,_,H1,rfl,I2,AS (Nat.succ_ne_self _),⟨⟨_,hE⟩,hI⟩,λ b hb=>?_,q⟩
 have fr:∀ b,s1.heap.objs.size <= b->c9 X pins H1 b:=λ b hb=>I1.jJ hb (I1.hok.fresh hb)
 refine fr b ?_
 simp only [aB,eK,or_false] at hb
 rcases hb with h | h <;> rw [h]
 ·exact jW _ _
 ·exact ak _
end
section
variable {X:Cx}
end
mutual
inductive RD (K:ay) (H:Hp):V->PyData->Prop
 | cP:RD K H .cP .none
 | bl (b:Bool):RD K H (.bl b) (.bool b)
 | int (i:Int):RD K H (.int i) (.int i)
 | str (x:Str):RD K H (.str x) (.str x)
 | lst {a:Addr} {xs:List V} {ds:List PyData}:bI K H a xs->kF K H xs ds->RD K H (.ref a) (.list ds)
 | tup {a:Addr} {xs:List V} {ds:List PyData}:gm K H a xs->kF K H xs ds->RD K H (.ref a) (.tuple ds)
inductive kF (K:ay) (H:Hp):List V->List PyData->Prop
 | nil:kF K H [] []
 | cons {x:V} {d:PyData} {xs:List V} {ds:List PyData}:RD K H x d->kF K H xs ds->kF K H (x :: xs) (d :: ds)
end
section
variable {X:Cx}{pins:List (Addr × Obj)}{σ:St}{H:Hp}{s:Shared}
mutual
theorem RD.reads(I:Inv X pins σ H s):∀ {x:V} {d:PyData} {u:Value},RD X.K H x d->RelV x u->∃ as,Reads s.heap u d as
 | _,_,_,.cP,r=>by cases r; exact ⟨[],.none⟩
 | _,_,_,.bl b,r=>by cases r; exact ⟨[],.bool b⟩
 | _,_,_,.int i,r=>by obtain ⟨t,rfl⟩:=r; exact ⟨[],.int i t⟩
 | _,_,_,.str x,r=>by obtain ⟨t,rfl⟩:=r; exact ⟨[],.str x t⟩
 | _,_,_,.lst h rs,r=>by
  cases r
  obtain ⟨its,rv,⟨o,n,e,hc,hd,hs⟩,z⟩:=I.list h
  obtain ⟨as,q⟩:=kF.reads I rs rv
  exact ⟨_,.list e hc hs (by simpa using q)⟩
 | _,_,_,.tup h rs,r=>by
  cases r
  obtain ⟨its,rv,⟨o,e,hc,n,hs⟩,z⟩:=I.tuple h
  obtain ⟨as,q⟩:=kF.reads I rs rv
  exact ⟨_,.tuple e hc hs (by simpa using q)⟩
theorem kF.reads(I:Inv X pins σ H s):∀ {xs:List V} {ds:List PyData} {us:List Value},kF X.K H xs ds->Vals xs us->∃ as,ReadsAll s.heap us ds as
 | _,_,_,.nil,r=>by cases r; exact ⟨[],.nil⟩
 | _,_,_,.cons h rs,r=>by
  cases r with
  | cons r1 r2 =>
   obtain ⟨as,q⟩:=RD.reads I h r1
   obtain ⟨bs,q'⟩:=kF.reads I rs r2
   exact ⟨_,.cons q q'⟩
end
end
section
variable {K:ay}{H H':Hp}
mutual
theorem RD.same(e:aG H H'):∀ {x:V} {d:PyData},RD K H x d->RD K H' x d
 | _,_,.cP=>.cP
 | _,_,.bl b=>.bl b
 | _,_,.int i=>.int i
 | _,_,.str x=>.str x
 | _,_,.lst h rs=>.lst (e.seq h) (kF.same e rs)
 | _,_,.tup h rs=>.tup (e.UL h) (kF.same e rs)
theorem kF.same(e:aG H H'):∀ {xs:List V} {ds:List PyData},kF K H xs ds->kF K H' xs ds
 | _,_,.nil=>.nil
 | _,_,.cons h rs=>.cons (RD.same e h) (kF.same e rs)
end
theorem kF.ints:∀ ns:List Int,kF K H (ns.map V.int) (ns.map PyData.int)
 | []=>.nil
 | n :: ns=>.cons (.int n) (kF.ints ns)
theorem kF.append{ds es:List PyData}(h:kF K H xs ds)(h':kF K H ys es):kF K H (xs++ys) (ds++es):=by
 induction xs generalizing ds with
 | nil=>cases h; exact h'
 | cons x xs ih=>cases h with
  | cons a b=>exact .cons a (ih b)
end
def Sh(k:Nat)(d:PyData):Prop:=d.canLay0=true /\ d.depth <= k
theorem Sh.shaped{d:PyData}(h:Sh k d)(hk:k <= 64):SeqAt.shaped d=true:=by
 unfold SeqAt.shaped
 rw [h.1,decide_eq_true (br h.2 hk)]
 rfl
theorem Sh.mono{j k:Nat}{d:PyData}(h:Sh j d)(hk:j <= k):Sh k d:=⟨h.1,br h.2 hk⟩
theorem Sh.int(i:Int):Sh k (.int i):=⟨rfl,aL _⟩
theorem Sh.bool(i:Bool):Sh k (.bool i):=⟨rfl,aL _⟩
theorem Sh.cP:Sh k .none:=⟨rfl,aL _⟩
theorem Sh.str{x:Str}(h:PyData.strOk x=true):Sh k (.str x):=⟨h,aL _⟩
theorem Sh.all:∀ {ds:List PyData},(∀ d∈ds,Sh k d)->PyData.canLayAll0 ds=true /\ PyData.depthAll ds <= k
 | [],_=>⟨rfl,aL _⟩
 | d :: ds,h=>by
  have h1:=h d (by simp)
  have h2:=Sh.all (ds:=ds) λ e he=>h e (cu _ he)
  refine ⟨?_,?_⟩
  ·show (PyData.canLay0 d && PyData.canLayAll0 ds)=true
   rw [h1.1,h2.1]; rfl
  ·show max (PyData.depth d) (PyData.depthAll ds) <= k
   exact Nat.max_le.mpr ⟨h1.2,h2.2⟩
theorem Sh.list{ds:List PyData}(h:∀ d∈ds,Sh k d):Sh (k + 1) (.list ds):=⟨(Sh.all h).1,Nat.succ_le_succ (Sh.all h).2⟩
theorem Sh.tup{k:Nat}{ds:List PyData}(h:∀ d∈ds,Sh k d):Sh (k + 1) (.tuple ds):=⟨(Sh.all h).1,Nat.succ_le_succ (Sh.all h).2⟩
theorem Sh.ints{ns:List Int}:Sh (k + 1) (.list (ns.map PyData.int)):=Sh.list λ d hd=>by
 obtain ⟨n,_,rfl⟩:=aA.mp hd
 exact .int n
def Dp(K:ay):R2:=λ x y H Q=>∃ d e,RD K H x d /\ RD K H y e /\ SeqAt.shaped d=true /\ SeqAt.shaped e=true /\ Q (.bl (PyData.eqv d e)) H
def Pr(K:ay):R2:=λ x y H Q=>∃ d e,RD K H x d /\ RD K H y e /\ SeqAt.shaped d=true /\ SeqAt.shaped e=true /\ Q (.bl (!PyData.eqv d e)) H
section
variable {X:Cx}
theorem xq(hu:X.A.units + 64 < cLine):kg X (compareOp .Eq) (Dp X.K):=by
 intro pins s σ H x y v u Q I rx ry h
 obtain ⟨d,e,hd,he,sd,se,q⟩:=h
 obtain ⟨as,ra⟩:=hd.reads I rx
 obtain ⟨bs,rb⟩:=he.reads I ry
 exact eq_dataH ra rb sd se hu ⟨.bl _,H,I,rfl,q⟩
theorem LI(hu:X.A.units + 64 < cLine):kg X (compareOp .NotEq) (Pr X.K):=by
 intro pins s σ H x y v u Q I rx ry h
 obtain ⟨d,e,hd,he,sd,se,q⟩:=h
 obtain ⟨as,ra⟩:=hd.reads I rx
 obtain ⟨bs,rb⟩:=he.reads I ry
 exact ne_dataH ra rb sd se hu ⟨.bl _,H,I,rfl,q⟩
end
section
variable {K:ay}{nx bk ct:St->Hp->Prop}{rt:VK}{σ:St}{H:Hp}{Q:VK}{P:Bool->Hp->Prop}{ta tb tc te:TE}{t u:TS}
theorem LJ{x y:V}(d:PyData)(k:Nat)(hk:k <= 64)(hx:RD K H x d)(hy:RD K H y d)(hs:Sh k d)(h:Q (.bl true) H):Dp K x y H Q:=⟨d,d,hx,hy,hs.shaped hk,hs.shaped hk,by rw [SeqAt.eqv_refl d hs.1]; exact h⟩
theorem LK{x y:V}(d:PyData)(k:Nat)(hk:k <= 64)(hx:RD K H x d)(hy:RD K H y d)(hs:Sh k d)(h:Q (.bl false) H):Pr K x y H Q:=⟨d,d,hx,hy,hs.shaped hk,hs.shaped hk,by rw [SeqAt.eqv_refl d hs.1]; exact h⟩
theorem Pu{lo hi:Option Int}(hS:gm K H a xs)(hw:¬ (HT.e8 xs.length 0 lo=0 /\ HT.e8 xs.length xs.length hi=xs.length))(h:∀ p H',eT H p (.tup (lZ xs lo hi)) H'->Q (.ref p) H'):Oi K (.ref a) lo hi H Q:=⟨a,xs,rfl,hS,hw,λ p hp=>h p _ ⟨hp,rfl⟩⟩
theorem LL{tl:TA}(h:tl σ H (LG K R)):Pp K tl σ H R:=h
theorem zd(hx:AO t1 K H a xs)(hy:AO t2 K H b ys)(h:R (Po K t1 t2 a b xs ys) H):LG K R [.ref a,.ref b] H:=⟨t1,t2,a,b,xs,ys,rfl,hx,hy,h⟩
theorem GC{tl:TA}(h:tl σ H (LH K R)):Jo K tl σ H R:=h
theorem Pw(hS:bI K H a xs)(h:R (Pq K a xs) H):LH K R [.ref a] H:=⟨a,xs,rfl,hS,h⟩
theorem Dq{tb:TS}(Pv:Nat->St->Hp->Prop)(h0:Pv 0 σ H)(hl:∀ i σ H,i <= xs.length->Pv i σ H->bI K H a xs)
  (hs:∀ i x p σ H H',xs[i]? = some x->Pv i σ H->eT H p (.tup [.int i,x]) H'->g (.ref p) σ H' λ σ2 H2=>tb ⟨Pv (i + 1),rt,nx,Pv (i + 1)⟩ σ2 H2)(hd:∀ σ H,Pv xs.length σ H->nx σ H):Jg (Pq K a xs) g tb nx rt σ H:=by
 refine ⟨λ i m σ H=>m=xs.length - i /\ i <= xs.length /\ Pv i σ H,⟨xs.length,by simp,aL _,h0⟩,?_⟩
 rintro i m σ H ⟨rfl,hi,p⟩
 have q:=hl i σ H hi p
 by_cases hlt:i < xs.length
 ·refine .inr ⟨⟨q,hlt⟩,Pv (i + 1),λ σ' H' p'=>⟨xs.length - (i + 1),by omega,rfl,hlt,p'⟩,λ x H' y=>?_⟩
  obtain ⟨pa,x',hx,rfl,n⟩:=y
  exact hs i x' pa σ H H' hx p n
 ·have e:i=xs.length:=by omega
  subst e
  exact .inl ⟨⟨q,ak _⟩,hd σ H p⟩
theorem Px{tb:TS}(Pv:Nat->St->Hp->Prop)(h0:Pv 0 σ H)(hl:∀ i σ H,i <= min xs.length ys.length->Pv i σ H->AO t1 K H a xs /\ AO t2 K H b ys)
  (hs:∀ i x y p σ H H',xs[i]? = some x->ys[i]? = some y->Pv i σ H->eT H p (.tup [x,y]) H'->g (.ref p) σ H' λ σ2 H2=>tb ⟨Pv (i + 1),rt,nx,Pv (i + 1)⟩ σ2 H2)(hd:∀ σ H,Pv (min xs.length ys.length) σ H->nx σ H):Jg (Po K t1 t2 a b xs ys) g tb nx rt σ H:=by
 refine ⟨λ i m σ H=>m=min xs.length ys.length - i /\ i <= min xs.length ys.length /\ Pv i σ H,⟨min xs.length ys.length,by simp,aL _,h0⟩,?_⟩
 rintro i m σ H ⟨rfl,hi,p⟩
 have q:=hl i σ H hi p
 by_cases hlt:i < min xs.length ys.length
 ·refine .inr ⟨⟨q.1,q.2,hlt⟩,Pv (i + 1),λ σ' H' p'=>⟨min xs.length ys.length - (i + 1),by omega,rfl,hlt,p'⟩,λ x H' y=>?_⟩
  obtain ⟨pa,x',y',hx,hy,rfl,n⟩:=y
  exact hs i x' y' pa σ H H' hx hy p n
 ·have e:i=min xs.length ys.length:=by omega
  rw [e] at p
  exact .inl ⟨⟨q.1,q.2,by omega⟩,hd σ H p⟩
def Dr(J:It)(g:TG)(tt:TT)(te:TE)(τ0:St)(Q:VK)(H:Hp):Prop:=∃ W:Nat->Nat->List V->St->Hp->Prop,(∃ m,W 0 m [] τ0 H) /\ ∀ i m ys τ H,W i m ys τ H ->
 (J.stop i H /\ ∀ p,H p=none->Q (.ref p) (upd H p (.lst ys))) \/ (J.go i H /\ ys.length < sizeLine /\ ∃ N:List V->St->Hp->Prop,(∀ ys' τ' H',N ys' τ' H'->∃ m',m' < m /\ W (i + 1) m' ys' τ' H') /\
  ∀ v H',J.Cg i H v H'->g v τ H' λ τ2 H2=>tt τ2 H2 λ b H3=>if b=true then te τ2 H3 λ y H4=>N (ys++[y]) τ2 H4 else N ys τ2 H3)
theorem GD{wi:TI}{ix:List Nat}(h:wi σ H λ J H1=>Dr J g tt te (List.replicate k none++cut ix σ) Q H1):xo wi g tt te ix k σ H Q:=h
theorem LM{τ0:St}(Pv:Nat->List V->St->Hp->Prop)(h0:Pv 0 [] τ0 H)(hl:∀ i zs τ H,i <= min xs.length ys.length->Pv i zs τ H->AO t1 K H a xs /\ AO t2 K H b ys /\ zs.length <= i)(hz:xs.length <= 1000000)
  (hs:∀ i x y p zs τ H H',xs[i]? = some x->ys[i]? = some y->Pv i zs τ H->eT H p (.tup [x,y]) H'->g (.ref p) τ H' λ τ2 H2=>tt τ2 H2 λ b H3=>if b=true then te τ2 H3 λ y H4=>Pv (i + 1) (zs++[y]) τ2 H4 else Pv (i + 1) zs τ2 H3)
  (hd:∀ zs τ H,Pv (min xs.length ys.length) zs τ H->∀ p H',eT H p (.lst zs) H'->Q (.ref p) H'):Dr (Po K t1 t2 a b xs ys) g tt te τ0 Q H:=by
 refine ⟨λ i m zs τ H=>m=min xs.length ys.length - i /\ i <= min xs.length ys.length /\ Pv i zs τ H,⟨min xs.length ys.length,by simp,aL _,h0⟩,?_⟩
 rintro i m zs τ H ⟨rfl,hi,p⟩
 obtain ⟨q1,q2,q3⟩:=hl i zs τ H hi p
 by_cases hlt:i < min xs.length ys.length
 ·refine .inr ⟨⟨q1,q2,hlt⟩,bN (show zs.length < 1000001 by omega) (by decide),Pv (i + 1),λ zs' τ' H' p'=>⟨min xs.length ys.length - (i + 1),by omega,rfl,hlt,p'⟩,λ x H' y=>?_⟩
  obtain ⟨pa,x',y',hx,hy,rfl,n⟩:=y
  exact hs i x' y' pa zs τ H H' hx hy p n
 ·have e:i=min xs.length ys.length:=by omega
  rw [e] at p
  exact .inl ⟨⟨q1,q2,by omega⟩,λ r hr=>hd zs τ H p r _ ⟨hr,rfl⟩⟩
theorem GF{τ0:St}(Pv:Nat->List V->St->Hp->Prop)(h0:Pv 0 [] τ0 H)(hl:∀ i zs τ H,i <= xs.length->Pv i zs τ H->bI K H a xs /\ zs.length <= i)(hz:xs.length <= 1000000)
  (hs:∀ i x p zs τ H H',xs[i]? = some x->Pv i zs τ H->eT H p (.tup [.int i,x]) H'->g (.ref p) τ H' λ τ2 H2=>tt τ2 H2 λ b H3=>if b=true then te τ2 H3 λ y H4=>Pv (i + 1) (zs++[y]) τ2 H4 else Pv (i + 1) zs τ2 H3)
  (hd:∀ zs τ H,Pv xs.length zs τ H->∀ p H',eT H p (.lst zs) H'->Q (.ref p) H'):Dr (Pq K a xs) g tt te τ0 Q H:=by
 refine ⟨λ i m zs τ H=>m=xs.length - i /\ i <= xs.length /\ Pv i zs τ H,⟨xs.length,by simp,aL _,h0⟩,?_⟩
 rintro i m zs τ H ⟨rfl,hi,p⟩
 obtain ⟨q1,q3⟩:=hl i zs τ H hi p
 by_cases hlt:i < xs.length
 ·refine .inr ⟨⟨q1,hlt⟩,bN (show zs.length < 1000001 by omega) (by decide),Pv (i + 1),λ zs' τ' H' p'=>⟨xs.length - (i + 1),by omega,rfl,hlt,p'⟩,λ x H' y=>?_⟩
  obtain ⟨pa,x',hx,rfl,n⟩:=y
  exact hs i x' pa zs τ H H' hx p n
 ·have e:i=xs.length:=by omega
  rw [e] at p
  exact .inl ⟨⟨q1,by omega⟩,λ r hr=>hd zs τ H p r _ ⟨hr,rfl⟩⟩
end
def tY(w:World)(K:ay)(a:Addr)(kvs:List (Key × V)):Prop:=(a == sysModules)=false /\ ∀ (P:Program) (h:Heap),K.In h->∃ vs,KV kvs vs /\ h.DictOf (bJ P w) a vs
def entriesOf(w:World):List (Str × Tok × Value)->List DictEntry
 | []=>[]
 | (k,t,v) :: r=>{ hash:=PyData.keyHash w.params k,key:=.str k t,val:=v } :: entriesOf w r
theorem iL{P:Program}{w:World}:∀ (es:List (Str × Tok × Value)),(∀ e∈entriesOf w es,∃ k,(bJ P w).is k e.key=true /\ e.hash=(bJ P w).hash k) /\ Pairs (bJ P w) (entriesOf w es) (es.map λ e=>(Sum.inr e.1,e.2.2))
 | []=>by
  refine ⟨λ e h=>?_,?_⟩
  ·simp [entriesOf] at h
  ·exact Pairs.nil
 | (k,t,v) :: r=>by
  obtain ⟨h1,h2⟩:=iL (P:=P) (w:=w) r
  refine ⟨λ e he=>?_,.cons (jc P w k t) rfl h2⟩
  rcases aB.mp he with q | q
  ·subst q
   exact ⟨.inr k,jc P w k t,rfl⟩
  ·exact h1 e q
theorem tY.mk'{es:List (Str × Tok × Value)}{kvs:List (Key × V)}(l:K.lookup a=some ⟨.type "dict", none,.dict (entriesOf w es).toArray n,#[]⟩)(hd:(a == sysModules)=false)(nd:(es.map (·.1)).Nodup)
  (hv:KV kvs (es.map λ e=>((Sum.inr e.1:Key),e.2.2))):tY w K a kvs:=by
 refine ⟨hd,λ P h Nu=>⟨_,hv,_,_,_,Nu a _ l,⟨rfl,rfl,rfl⟩,rfl,?_,?_,?_⟩⟩
 ·intro e he
  exact (iL es).1 e (by simpa using he)
 ·simpa using (iL (P:=P) (w:=w) es).2
 ·have q:((es.map λ e=>((Sum.inr e.1:Key),e.2.2)).map (·.1))=(es.map (·.1)).map (λ x=>(Sum.inr x:Key)):=by simp [eF,Function.comp_def]
  rw [q]
  exact jV.mpr (List.Pairwise.imp (λ h e=>h (Sum.inr.inj e)) nd)
section
variable {X:Cx}{o i e f:Expr}{pos apos cpos:Pos}{td ty tx:TE}{a:Addr}{kvs:List (Key × V)}
def Ds(a:Addr)(kvs:List (Key × V))(td ty:TE):TE:=λ σ H Q=>td σ H λ x H1=>ty σ H1 λ y H2=>∃ k v,x=.ref a /\ y=kV k /\ ie kvs k=some v /\ Q v H2
theorem Dt(C:tY X.w X.K a kvs)(ho:PE X o td)(hi:PE X i ty)(hs:Gj i):PE X (.Subscript o i pos) (Ds a kvs td ty):=by
 intro pins s σ H Q I h
 refine yV PySem.F.slot_dict_getitem.lookup hs (cA (ho pins s σ H _ I h) λ u s1 ⟨x,H1,I1,rx,q1⟩=>cA (hi pins s1 σ H1 _ I1 q1) λ iv s2 ⟨y,H2,I2,ry,k,v,ex,ey,l,q2⟩=>?_)
 subst ex ey
 obtain rfl:u=Value.ref a:=rx
 obtain ⟨vs,rel,dd⟩:=C.2 X.prog s2.heap I2.rO
 obtain ⟨w',hw,rw'⟩:=jZ.some_of (v:=v) (o:=valueAt vs k) (by rw [<- l]; exact rel.val k)
 exact ⟨dd.typeIs,wpAny_getItem_of (tP ry) dd.mapOf hw ⟨v,H2,I2.tok _,rw',q2⟩⟩
end
section
variable {nx bk ct:St->Hp->Prop}{rt:VK}{σ:St}{H:Hp}{Q:VK}{td ty tx:TE}{a:Addr}{kvs:List (Key × V)}
def Xb(a:Addr)(kvs:List (Key × V)):R2:=λ x y H Q=>∃ k v,x=.ref a /\ y=kV k /\ ie kvs k=some v /\ Q v H
theorem GG(h:td σ H λ x H1=>ty σ H1 λ y H2=>Xb a kvs x y H2 Q):Ds a kvs td ty σ H Q:=h
theorem Py{x:Str}{v:V}(hv:ie kvs (.inr x)=some v)(h:Q v H):Xb a kvs (.ref a) (.str x) H Q:=⟨.inr x,v,rfl,rfl,hv,h⟩
end
def fN(K:ay)(a:Addr)(xs:List V):Prop:=∀ H:Hp,gm K H a xs
theorem fN.sq{H:Hp}(c:fN K a xs):gm K H a xs:=c H
theorem fN.mk'{od:Option Addr}{its:Array Value}{sl:Array (Option Value)}(l:K.lookup a=some ⟨.type "tuple", od,.seq its n,sl⟩)(r:Vals xs its.toList)(hz:its.size <= 1000):fN K a xs :=
 λ _=>.inr ⟨_,its,n,l,rfl,rfl,br hz (by decide),r⟩
section
variable {X:Cx}{K:ay}
theorem tZ(e:X.K=K):Gf X (KS K):=e ▸ cK
theorem ze(e:X.K=K):Gf X (KU K):=e ▸ fF
theorem xr(e:X.K=K):cX X (.builtin "len") (Lc K):=e ▸ bZ
theorem LN(e:X.K=K):cX X (.builtin "isinstance") (O3 K):=e ▸ AM
theorem GH(e:X.K=K)(hu:X.A.units + 64 < cLine):kg X (compareOp .Eq) (Dp K):=e ▸ xq hu
theorem zf{t:FP}(e:X.K=K)(hc:X.calm=true)(h:N3 X es t)
  (hn:(assignEach es X.env).length=n:=by rfl)(hst:(assignEach es X.env).findIdx? (·.1)=none:=by rfl):PG X (.Tuple es k pos) (Ky K n t):=e ▸ ou hc h hn hst
end
theorem Du{α:Type}(x:α)(xs:List α):rW (x :: xs) 0=some x:=fK (j:=0) rfl
end L2
theorem BT.Dv:PySem.bootBuiltins "max" = some (.builtin "max"):=by decide +kernel
namespace L2
open PySem PySem.Spec PyProof.Rows
section
variable {X:Cx}{K:ay}{nx bk ct:St->Hp->Prop}{rt:VK}{σ:St}{H:Hp}{Q:VK}{P:Bool->Hp->Prop}{ta tb tc te td ty tx tv:TE}{t u:TS}{a:Addr}{kvs:List (Key × V)}
def Pz:R2:=λ y x H Q=>∃ a o,x=.ref a /\ wX H a y o /\ Q (.bl (!o.isSome)) H
theorem LO(h:ty σ H λ y H1=>td σ H1 λ x H2=>Pz y x H2 Q):yW ty td σ H Q:=h
def UO(v x y:V)(H3:Hp)(R:Hp->Prop):Prop:=∃ a H4,x=.ref a /\ tQ H3 a y v H4 /\ R H4
theorem LP(h:tv σ H λ v H1=>td σ H1 λ x H2=>ty σ H2 λ y H3=>UO v x y H3 λ H4=>nx σ H4):Je td ty tv ⟨nx,rt,bk,ct⟩ σ H:=h
theorem PB{i:Int}{v:V}{R:Hp->Prop}(hd:H a=some (.dK kvs))(hz:kvs.length < 1000000)(h:∀ H',kh H a (.dK (putK kvs (.inl i) v)) H'->R H'):UO v (.ref a) (.int i) H R:=⟨a,_,rfl,.inl ⟨kvs,.inl i,hd,rfl,bN hz (by decide),rfl⟩,h _ rfl⟩
theorem LQ(h:∀ p H',eT H p (.dK []) H'->Q (.ref p) H'):CQ σ H Q:=λ p hp=>h p _ ⟨hp,rfl⟩
theorem zg{l:Addr}{xs:List V}{i:Int}{k:Nat}{y:V}(hl:H l=some (.lst xs))(h0:0 <= i)(hk:i.toNat=k)(hy:xs[k]? = some y)(hz:xs.length <= 1000000)(h:∀ H',kh H l (.lst (xs.eraseIdx k)) H'->Q y H'):CM (.ref l) [.int i] H Q:=by
 have hlt:k < xs.length:=(e9 hy).1
 refine ⟨l,xs,i,k,y,rfl,rfl,hl,by omega,by omega,?_,hy,h _ rfl⟩
 have e1:(if i < 0 then i + (xs.length:Int) else i)=i:=if_neg (by omega)
 unfold seqIndex?
 simp only [e1]
 have h1:i < (xs.length:Int):=by omega
 rw [if_pos (by simp [h0,h1]),hk]
theorem Dw{i:Nat}{y:Str}{py spos:Pos}{elt iter tg:Expr}{xs:List Str}{g:TG}{ifs:List Expr}{scope:Scope}{cl:List (Str × Addr)}{pos:Pos}{fr:List Str}{ix:List Nat}{wi:TI}{tt:TT}{te:TE}(hN:X.N.Nodup)(Uj:X.N[i]? = some y)(hy:Loc X.env.scope y)
  (O:iK X scope cl xs fr ix)(hi:PI X tg iter wi)(hg:∀ C fp s H,PG (jL X (xs++fr) scope cl C fp s H) tg g)
  (ht:∀ C fp s H,PF (jL X (xs++fr) scope cl C fp s H) ifs tt)(he:∀ C fp s H,PE (jL X (xs++fr) scope cl C fp s H) elt te)
  (hsw:swapsWith (.ListComp elt [⟨tg,iter,ifs,0⟩] scope pos) (some (.Name y py)) spos.line X.env=pure true:=by rfl)
  (hs:∀ v,foldedSetIterable iter X.env v=pure v:=by intro _; rfl)(hf:X.fn y=true \/ X.env.scope.names.lookup y=some .local:=by first | exact .inl rfl | exact .inr rfl | assumption):
  PS X (.Assign [.Name y py] (.ListComp elt [⟨tg,iter,ifs,0⟩] scope pos) spos) (C3 (xo wi g tt te ix xs.length) i):=by
 intro pins s σ H D I h
 rw [exec_Assign_Name_used _ _ _ _ hsw]
 refine af (wpAny_standAt (af ?_))
 show wpAny _ X.A (do let _ <- comprehension (.ListComp elt [⟨tg,iter,ifs,0⟩] scope pos) scope X.env _ (newList []) false (eval iter X.env) (some (assign (.Name y py) X.env))) _ _ s
 refine af (wpAny_mono (wpAny_comprehension_free (use:=some (assign (.Name y py) X.env)) (Q:=λ _ s'=>SP X pins D .next s') rfl hs O.clos O.kind O.names
  (cA (hi pins s σ H _ I h) λ v s1 h1=>cA h1 λ itv s2 h2=>?_)) (λ _ s' hq=>aE (aE hq)) λ _ _ e=>e)
 obtain ⟨it,fp,tn,J,H2,e,I2,T,st2,f2,W,⟨m0,w0⟩,turn⟩:=h2
 subst e
 refine mP O hg ht he I2 T st2 f2 (λ ys H=>∀ p,H p=none->D.nx (σ.set i (some (.ref p))) (upd H p (.lst ys))) W m0 w0 turn λ L C s' ys H' I' hm fC hD z=>?_
 obtain ⟨m,hm⟩:=hm
 show wpAny _ X.A (assign (.Name y py) X.env (.ref L)) _ _ _
 refine wpAny_assign_Name (lU I' hN Uj hy (v:=.ref L) rfl (λ s'' Uk Gn=>?_) hf)
 obtain ⟨a,Gn,ha⟩:=Gn
 have Ul:C ≠ a:=by
  rcases ha with z | z
  ·rw [z]; exact fC.2.1
  ·exact aZ (fC.2.2.2.2.1 _ _ z)
 refine ⟨m,hm.sameBut Gn Ul,λ h' hs'=>?_⟩
 exact ⟨_,_,Uk.turned (t':=s''.toks) (it:=C) (λ b o hb e=>hs'.extBut b o hb e) fC.1 fC.2.1 fC.2.2.2.1 fC.2.2.2.2.1 fC.2.2.2.2.2,z L hD⟩
end
section
variable {K:ay}{H:Hp}{Q:VK}{te:TE}
end
structure PD (K:ay) (x qual:Str) (st:Stmt) (f:Addr) (fd:FuncData) (dV:Value):Prop where
 ex:∃ (oc:Value) (od:Option Addr) (kV doc pm:Value) (an:Option Addr) (cdv ct:Value) (osl:Array (Option Value)),
  fd=PySem.W.fnOf x qual (gI st) (eS st) (aF st) dV kV doc pm an cdv ct /\ K.lookup f=some ⟨oc,od,.func fd,osl⟩ /\ PySem.W.codeIn K cdv qual=true
 kp:PySem.W.keepIn K (.ref f)=true
section
variable {P:Program}{w:World}{K:ay}{mg:Str->Option Value}{base:Heap}
theorem PD.ok{x qual:Str}{st:Stmt}{f:Addr}{fd:FuncData}{dV:Value}{N ps:List Str}{k:Nat}{sp:Sp}(F:PD K x qual st f fd dV)(S:aY N ps (aF st))(len:∀ vs H Q E,sp vs H Q E->vs.length=ps.length)
  (hbody:∀ (cdv:Value) (A:Around) (outer:List Env) (s:Shared) (H:Hp) (vs:List V) (Q:VK) (E:XK),fE k (A.deeper (envOfC qual (aF st) s.heap.objs.size f cdv))->sp vs H Q E ->
   ∃ t,ql (rS ji P w K mg base N qual (aF st) f cdv A outer s H E).Az (eS st) t /\ t { nx:=λ _ H'=>Q .cP H',rt:=Q } (start N vs) H):cJ P w K mg base ji (k + 1) f fd ps sp:=by
 obtain ⟨oc,od,kV,doc,pm,an,cdv,ct,osl,rfl,lk,hcd⟩:=F.ex
 refine CC lk hcd S len λ A outer s H vs Q E hr wC=>?_
 obtain ⟨t,h,q⟩:=hbody cdv A outer s H vs Q E hr wC
 exact ⟨t,h.Az,q⟩
end
section
variable {X:Cx}{K:ay}{nx bk ct:St->Hp->Prop}{rt:VK}{σ:St}{H:Hp}{Q:VK}{P:Bool->Hp->Prop}{ta tb tc te td ty tx tv:TE}{t u:TS}{a:Addr}
end
end L2
namespace ZP
open PySem PySem.Spec PyProof.Rows
section
variable {prog:Program}{w:World}{A:Around}{E:Value->Shared->Prop}{s:Shared}
end
end ZP
theorem F.dR:PySem.entryFor PySem.table "dict.update.loop" = some PySem.Builtin.«dict.update.loop»:=PySem.entryFor_of_tree (by kernel_rfl)
theorem F.bL:PySem.plainId "dict.update.loop" = true:=by decide +kernel
namespace L2
open PySem PySem.Spec PyProof.Rows
def j3(ks:Nat->Key)(vs:Nat->V):Nat->List (Key × V)
 | 0=>[]
 | i + 1=>putK (j3 ks vs i) (ks i) (vs i)
theorem oQ(ks:Nat->Key)(vs:Nat->V):∀ i,(j3 ks vs i).length <= i
 | 0=>ak _
 | i + 1=>by
  have h1:=jh (j3 ks vs i) (ks i) (vs i)
  have h2:=oQ ks vs i
  show (putK (j3 ks vs i) (ks i) (vs i)).length <= i + 1
  omega
structure zh (prog:Program) (w:World) (z d:Addr) (tn:String) (fp:List Addr) (n:Nat) (ks:Nat->Key) (vs:Nat->V) (St:Nat->Heap->Prop):Prop where
 ty:∀ i (s:Shared),St i s.heap->s.TypeIs (.ref z) tn
 nd:(Value.type tn != Value.type "dict")=true
 self:∀ (A:Around) (s:Shared) (Q:Value->Shared->Prop) (E:Value->Shared->Prop),St 0 s.heap->Q (.ref z) s->wpAny (model prog w) A (pyIter (.ref z)) Q E s
 nk:∀ (A:Around) i (s:Shared) (Q:Option Value->Shared->Prop) (E:Value->Shared->Prop),A.handled=none->St i s.heap->(∀ h' tk,(∀ b o,s.heap.get? b=some o->h'.get? b=some o)->Q none { s with heap:=h',toks:=tk })->wpAny (model prog w) A (getAttr? (.ref z) "keys") Q E s
 frame:∀ i h h',St i h->(∀ b o,b ≠ d->h.get? b=some o->h'.get? b=some o)->St i h'
 item:∀ (A:Around) i (s:Shared) (Q:Option Value->Shared->Prop) (E:Value->Shared->Prop),A.handled=none->i < n->St i s.heap ->
  (∀ h' tk u v,RelV (kV (ks i)) u->RelV (vs i) v->(s.heap.objs.size ≠ d->St (i + 1) h')->h'.get? s.heap.objs.size=some { cls:=.type "tuple", data:=.seq #[u,v] } -> (∀ b o,b ∉ fp->s.heap.get? b=some o->h'.get? b=some o) ->
   Q (some (.ref s.heap.objs.size)) { s with heap:=h',toks:=tk })->wpAny (model prog w) A (pyNext (.ref z)) Q E s
 done:∀ (A:Around) (s:Shared) (Q:Option Value->Shared->Prop) (E:Value->Shared->Prop),A.handled=none->St n s.heap->(∀ h',(∀ b o,b ∉ fp->s.heap.get? b=some o->h'.get? b=some o)->Q none { s with heap:=h' })->wpAny (model prog w) A (pyNext (.ref z)) Q E s
section
variable {prog:Program}{w:World}{A:Around}{z d:Addr}{tn:String}{fp:List Addr}{n:Nat}{ks:Nat->Key}{vs:Nat->V}{St:Nat->Heap->Prop}
theorem zh.loop{R:Result->Shared->Prop}{s0:Shared}(O:zh prog w z d tn fp n ks vs St)(hd:d ∉ fp)(hh:A.in1.handled=none)(hn:n <= sizeLine)
  (hR:∀ h' tk rs,(∀ b o,b ∉ fp->b ≠ d->s0.heap.get? b=some o->h'.get? b=some o)->h'.DictOf (bJ prog w) d rs->KV (j3 ks vs n) rs->R (.ok (.ret .none)) { s0 with heap:=h',toks:=tk }):
  ∀ (k i:Nat) (h:Heap) (t:Nat) (rs:List (Key × Value)) (c:Tok),n - i=k->i <= n->(∀ b o,b ∉ fp->b ≠ d->s0.heap.get? b=some o->h.get? b=some o)->St i h->h.DictOf (bJ prog w) d rs->KV (j3 ks vs i) rs ->
   codeAny (model prog w) A (.builtin "dict.update.loop" ⟨[.ref d,.ref z,.int i c,.none],[]⟩) R { s0 with heap:=h,toks:=t }:=by
 intro k
 induction k with
 | zero =>
  intro i h t rs c hk hi kp st dd rel
  have e:i=n:=by omega
  subst e
  refine codeAny_builtin F.dR ?_
  rw [fh F.bL _]
  show wpAny _ A.in1 (pyNext (.ref z) >>= _) _ _ _
  refine af (O.done _ { s0 with heap:=h,toks:=t } _ _ hh st λ h' k'=>?_)
  show wpAny _ A.in1 (Builtin.Dict.addKeywords d [] >>= _) _ _ _
  refine af (aE (aE ?_))
  exact hR h' t rs (λ b o b1 b2 q=>k' b o b1 (kp b o b1 b2 q)) (let ⟨o,es,ep,q,r⟩:=dd; ⟨o,es,ep,k' d o hd q,r⟩) rel
 | succ k ih =>
  intro i h t rs c hk hi kp st dd rel
  have hlt:i < n:=by omega
  refine codeAny_builtin F.dR ?_
  rw [fh F.bL _]
  show wpAny _ A.in1 (pyNext (.ref z) >>= _) _ _ _
  refine af (O.item _ i { s0 with heap:=h,toks:=t } _ _ hh hlt st λ h1 t1 u v ru rv st1 ht k1=>?_)
  have hT:d ≠ h.objs.size:=by
   obtain ⟨o,_,_,q,_⟩:=dd
   exact aO (aD q)
  have d1:h1.DictOf (bJ prog w) d rs:=let ⟨o,es,ep,q,r⟩:=dd; ⟨o,es,ep,k1 d o hd q,r⟩
  have UP:({ s0 with heap:=h1,toks:=t1 }:Shared).TypeIs (.ref h.objs.size) "tuple" := ⟨_,ht,rfl⟩
  show wpAny _ A.in1 (holding [Value.ref h.objs.size] _ >>= _) _ _ _
  refine af (wpAny_holding ?_)
  refine af (wpAny_tryCatch ?_)
  unfold Builtin.Dict.pairItems
  refine af (wpAny_typeOf UP ?_)
  show wpAny _ _ (seqItems? (.ref h.objs.size) >>= _) _ _ _
  refine af (wpAny_seqItems ht rfl (aE ?_))
  show wpAny _ _ (holding [u,v] (dictSet d u v)) _ _ _
  refine wpAny_holding (wpAny_dictSet_pairs (hsz:=?_) (tP ru) d1 λ h2 d2 sb=>?_)
  ·refine aE ⟨plainId_quiet F.bL _,?_⟩
   refine ih (i + 1) h2 _ (stored rs (ks i) v) 0 (by omega) hlt (λ b o b1 b2 q=>?_) (O.frame _ _ _ (st1 (aZ hT)) λ b o b1 q=>sb.extBut b o b1 q) d2 (rel.put (ks i) rv)
   exact sb.extBut b o b2 (k1 b o b1 (kp b o b1 b2 q))
  ·rw [<- rel.length]
   exact br (oQ ks vs i) (br (gS hlt) hn)
end
section
variable {prog:Program}{w:World}{A:Around}{E:Value->Shared->Prop}{s:Shared}{z:Addr}{tn:String}{fp:List Addr}{n:Nat}{ks:Nat->Key}{vs:Nat->V}{St:Nat->Heap->Prop}
theorem zh.call{Q:Value->Shared->Prop}(O:zh prog w z s.heap.objs.size tn fp n ks vs St)(hfp:∀ b∈fp,b < s.heap.objs.size)(hh:A.in1.in1.handled=none)(hn:n <= sizeLine)(st:St 0 s.heap)
  (q:∀ h' tk rs,(∀ b o,b ∉ fp->s.heap.get? b=some o->h'.get? b=some o)->h'.DictOf (bJ prog w) s.heap.objs.size rs->KV (j3 ks vs n) rs->Q (.ref s.heap.objs.size) { s with heap:=h',toks:=tk }):
  wpAny (model prog w) A (call (.type "dict") [.ref z]) Q E s:=by
 refine callType_codes (Q₁:=λ x s1=>x=.ref s.heap.objs.size /\ s1={ s with heap:=s.heap.push { cls:=.type "dict", data:=.dict #[] } }) F.kt_called_dict (F.kt_typeCall_dict_1 _) F.entry_dict_init (kt_code_dict_new _ ⟨rfl,rfl⟩) ?_
 rintro _ _ ⟨rfl,rfl⟩
 have dd:(s.heap.push { cls:=.type "dict", data:=.dict #[] }).DictOf (bJ prog w) s.heap.objs.size []:=Heap.DictOf.new s.heap
 have hd:s.heap.objs.size ∉ fp:=λ h=>cV _ (hfp _ h)
 have st1:St 0 (s.heap.push { cls:=.type "dict", data:=.dict #[] }):=O.frame _ _ _ st λ b o _ e=>bS _ e
 refine ⟨dd.typeIs,F.args_dict_init_2 _ _,?_⟩
 unfold Builtin.«dict.__init__»
 refine af ?_
 unfold Builtin.Dict.selfAndRest
 refine af (wpAny_notOrdered_dict dd.typeIs ?_)
 refine aE (a:=(s.heap.objs.size,[Value.ref z])) ?_
 show wpAny _ _ (Builtin.Dict.updateFrom "dict.__init__" s.heap.objs.size (.ref z) [] .none) _ _ _
 unfold Builtin.Dict.updateFrom
 refine af (wpAny_typeOf (O.ty 0 _ st1) ?_)
 rw [if_pos O.nd]
 refine af (O.nk _ 0 _ _ _ hh st1 λ h1 t1 k1=>?_)
 show wpAny _ _ (rule _ >>= _) _ _ _
 refine af (wpAny_rule ?_)
 have st2:St 0 h1:=O.frame _ _ _ st1 λ b o _ e=>k1 b o e
 refine af (O.self _ _ _ _ st2 ?_)
 refine aE ⟨plainId_quiet F.bL _,?_⟩
 have hsz:∀ b o,s.heap.get? b=some o->b ≠ s.heap.objs.size:=λ b o e=>aO (aD e)
 refine O.loop (s0:={ s with heap:=h1,toks:=t1 }) hd hh hn (λ h' tk rs k' d' rel=>?_) _ 0 h1 t1 [] 0 rfl (aL _) (λ b o _ _ e=>e) st2 (let ⟨o,es,ep,x,r⟩:=dd; ⟨o,es,ep,k1 _ _ x,r⟩) .nil
 exact ⟨rfl,q h' tk rs (λ b o b1 e=>k' b o b1 (hsz b o e) (k1 b o (bS _ e))) d' rel⟩
end
end L2
namespace ZP
open PySem PySem.Spec PyProof.Rows
end ZP
namespace L2
open PySem PySem.Spec PyProof.Rows
section
variable {X:Cx}
variable {K:ay}{σ:St}{H:Hp}{Q:VK}{a b:Addr}
end
section
variable {X:Cx}{K:ay}{nx bk ct:St->Hp->Prop}{rt:VK}{σ:St}{H:Hp}{Q:VK}{P:Bool->Hp->Prop}{ta tb tc te td ty tx tv:TE}{t u:TS}{a:Addr}
end
section
variable {K:ay}{nx bk ct:St->Hp->Prop}{rt:VK}{σ:St}{H:Hp}{Q:VK}{ta:TA}
end
end L2
namespace HT
open PySem PySem.Spec PyProof.Rows
section
variable {prog:Program}{w:World}{A:Around}{E:Value->Shared->Prop}{s:Shared}
end
end HT
namespace L2
open PySem PySem.Spec PyProof.Rows
section
variable {X:Cx}{K:ay}{nx bk ct:St->Hp->Prop}{rt:VK}{σ:St}{H:Hp}{Q:VK}{a:Addr}
end
section
variable {X:Cx}{K:ay}{nx bk ct:St->Hp->Prop}{rt:VK}{σ:St}{H:Hp}{Q:VK}{ta tv:TE}{t:TA}{a C dx:Addr}{fs fs':List (Str × V)}{f m:Str}{v y z:V}{sp:Sp}{E:XK}
theorem LR{i j:Int}(h:Q (.int (i - j)) H):Od (.int i) (.int j) H Q:=⟨i,j,rfl,rfl,h⟩
end
section
variable {co si pl mk wd se an st x:V}
end
section
variable {X:Cx}{K:ay}{σ:St}{H:Hp}{Q:VK}{t:TA}
def qo(i:Int)(n:Nat):List V:=(List.range n).map λ k:Nat=>V.int (i + (k:Int))
theorem Dy(i:Int)(n:Nat):(qo i n).length=n:=by unfold qo; simp
theorem AU{i:Int}{n:Nat}{acc:Array Value}(h:ItemsOf (λ k v=>∃ t,v=.int (i + (k:Int) * 1) t) acc n):Vals (qo i n) acc.toList:=by
 obtain ⟨h1,h2⟩:=h
 have key:∀ (l:List Value) (m:Nat),(∀ (k:Nat) v,l[k]? = some v->∃ t,v=Value.int (i + ((m + k:Nat):Int)) t)->Vals ((List.range' m l.length).map λ k:Nat=>V.int (i + (k:Int))) l:=by
  intro l
  induction l with
  | nil=>intro m _; exact .nil
  | cons x l ih =>
   intro m h
   rw [dI,List.range'_succ,bq]
   refine .cons ?_ (ih (m + 1) λ k v hk=>?_)
   ·obtain ⟨t,e⟩:=h 0 x rfl
    exact ⟨t,by rw [e]; rfl⟩
   ·obtain ⟨t,e⟩:=h (k + 1) v (by simpa using hk)
    exact ⟨t,by rw [e,show m + (k + 1)=m + 1 + k by omega]⟩
 have:=key acc.toList 0 λ k v hk=>by
  obtain ⟨t,e⟩:=h2 k v (by simpa using hk)
  exact ⟨t,by rw [e,Int.mul_one,Nat.zero_add]⟩
 unfold qo
 rw [List.range_eq_range']
 have hl:acc.toList.length=n:=by rw [bT,h1]
 rw [hl] at this
 exact this
end
end L2
namespace ZP
open PySem PySem.Spec PyProof.Rows
theorem qp:entryFor table "list.__getattribute__" = some Builtin.«object.__getattribute__»:=entryFor_alias (id' := "object.__getattribute__") (by kernel_rfl) (by decide +kernel) (by decide +kernel) (by kernel_rfl)
theorem sA:typeLookup (.type "list") "__getattr__" = pure none:=by
 rw [typeLookup_type,builtinLookup_eq_fast]; kernel_rfl
theorem sC:typeLookup (.type "list") "keys" = pure none:=by
 rw [typeLookup_type,builtinLookup_eq_fast]; kernel_rfl
theorem qq(x:Addr)(its:Array Value)(n:Nat)(sl:Array (Option Value))(u:Tok):
  Meets (Builtin.«object.__getattribute__» ⟨[.ref x,.str "keys" u],[]⟩) (λ A R s=>s.heap.get? x=some { cls:=.type "list", dict:=none,data:=.seq its n,slots:=sl } /\ raisesAttr (.ref x) "keys" A R s):=by
 refine Meets.of_wp λ prog w A R s q=>?_
 obtain ⟨h0,g0,d0,t0,o0⟩:=s
 obtain ⟨hx,q⟩:=q
 have hT:(⟨h0,g0,d0,t0,o0⟩:Shared).TypeIs (.ref x) "list" := ⟨_,hx,rfl⟩
 have hmiss:=sC
 unfold Builtin.«object.__getattribute__»
 repeat (any_goals (first | assumption | wp_step))
 exact wpAny_raiseAttrError q.1 q.2 (attrMsg_fits (by decide +kernel) (by size_fits))
theorem GI{prog:Program}{w:World}{A:Around}{E:Value->Shared->Prop}{s:Shared}{x:Addr}{its:Array Value}{n:Nat}{sl:Array (Option Value)}{Q:Option Value->Shared->Prop}(hx:s.heap.get? x=some { cls:=.type "list", dict:=none,data:=.seq its n,slots:=sl })(hA:A.handled=none)
  (q:∀ h' tk,(∀ b o,s.heap.get? b=some o->h'.get? b=some o)->Q none { s with heap:=h',toks:=tk }):wpAny (model prog w) A (getAttr? (.ref x) "keys") Q E s:=by
 obtain ⟨h0,g0,d0,t0,o0⟩:=s
 have hT:∀ tk',(⟨h0,g0,d0,tk',o0⟩:Shared).TypeIs (.ref x) "list" := λ _=>⟨_,hx,rfl⟩
 have e1:=sub_AttributeError
 have e2:=F.slot_list_getattribute.lookup
 have e3:=F.slot_list_getattribute.bind (.ref x)
 have e4:=sA
 unfold getAttr? getAttrBy? getAttrBy
 repeat (any_goals (first | assumption | exact hT _ | ((with_reducible show wpAny _ _ (call (Value.builtin "list.__getattribute__") _ _) _ _ _); refine call_meets F.slot_list_getattribute (hT _) qp (F.args_list_getattribute_2 _ _) (qq x its n sl _) ⟨hx,hA,λ h' tk' e he=>?_⟩) | wp_step))
 obtain ⟨t',u',PJ⟩:=he.there
 show wpAny _ _ (getattributeRaised _ _ _ _ _ _ _) _ _ _
 unfold getattributeRaised
 repeat (any_goals (first | assumption | wp_step))
 exact q _ _ he.keeps
end ZP
namespace L2
open PySem PySem.Spec PyProof.Rows
section
variable {prog:Program}{w:World}{A:Around}
end
section
variable {prog:Program}{w:World}{A:Around}{E:Value->Shared->Prop}{s:Shared}
end
section
variable {X:Cx}{K:ay}{H:Hp}{Q:VK}{a:Addr}
end
section
variable {H:Hp}{Q:VK}{a:Addr}{kvs:List (Key × V)}
end
theorem jj(f:Nat->Int):∀ n,argBest (λ i j=>decide (f i > f j)) n <= n /\ ∀ i,i <= n->f i <= f (argBest (λ i j=>decide (f i > f j)) n)
 | 0=>⟨ak _,λ i h=>by rw [Nat.le_zero.mp h]; exact Int.le_refl _⟩
 | n + 1=>by
  obtain ⟨h1,h2⟩:=jj f n
  by_cases h:f (n + 1) > f (argBest (λ i j=>decide (f i > f j)) n)
  ·have e:argBest (λ i j=>decide (f i > f j)) (n + 1)=n + 1:=by simp only [argBest]; rw [if_pos (decide_eq_true h)]
   rw [e]
   refine ⟨ak _,λ i hi=>?_⟩
   rcases bG i (n + 1) with hl | hl
   ·have:=h2 i (by omega)
    omega
   ·rw [show i=n + 1 by omega]
    exact Int.le_refl _
  ·have e:argBest (λ i j=>decide (f i > f j)) (n + 1)=argBest (λ i j=>decide (f i > f j)) n:=by simp only [argBest]; rw [if_neg (by simpa using h)]
   rw [e]
   refine ⟨by omega,λ i hi=>?_⟩
   rcases bG i (n + 1) with hl | hl
   ·exact h2 i (by omega)
   ·rw [show i=n + 1 by omega]
    omega
theorem qL:∀ {xs:List Int} {its:List Value},Vals (xs.map V.int) its->∃ ps:List (Int × Tok),its=ps.map (λ p=>.int p.1 p.2) /\ ps.map (·.1)=xs
 | [],_,.nil=>⟨[],rfl,rfl⟩
 | x :: xs,_,.cons r t=>by
  obtain ⟨u,rfl⟩:=r
  obtain ⟨ps,rfl,e⟩:=qL t
  exact ⟨(x,u) :: ps,rfl,by simp [e]⟩
section
variable {X:Cx}{K:ay}{H:Hp}{Q:VK}{a:Addr}
end
section
variable {K:ay}{σ:St}{H:Hp}{Q:VK}{te:TE}
theorem LS{x y:V}(d e:PyData)(k:Nat)(hk:k <= 64)(hx:RD K H x d)(hy:RD K H y e)(hs:Sh k d)(hs':Sh k e)(h:Q (.bl (PyData.eqv d e)) H):Dp K x y H Q:=⟨d,e,hx,hy,hs.shaped hk,hs'.shaped hk,h⟩
end
section
variable {σ:St}{H:Hp}{Q:VK}
end
section
variable {X:Cx}{K:ay}{H:Hp}{Q:VK}{a:Addr}
end
section
variable {X:Cx}{K:ay}{H:Hp}{Q:VK}{σ:St}{a:Addr}
end
section
variable {X:Cx}{tg:Expr}
end
section
variable {K:ay}{nx bk ct:St->Hp->Prop}{rt:VK}{σ:St}{H:Hp}{Q:VK}{te:TE}
end
section
variable {K:ay}{nx:St->Hp->Prop}{rt:VK}{σ:St}{H:Hp}{g:TG}{tb:TS}{a:Addr}{xs:List V}
end
section
variable {K:ay}{H:Hp}{Q:VK}{te:TE}{tt:TT}{τ:St}{a:Addr}{xs:List V}
end
section
variable {nx bk ct:St->Hp->Prop}{rt:VK}{σ:St}{H:Hp}{t u:TS}
def zj(t u:TS):TS:=Kx t u
theorem LU{D:Ends}(h:zj t u D σ H):Kx t u D σ H:=h
theorem LV(h:∀ nx':St->Hp->Prop,(∀ σ H,u ⟨nx,rt,λ _ _=>False,λ _ _=>False⟩ σ H->nx' σ H)->t ⟨nx',rt,λ _ _=>False,λ _ _=>False⟩ σ H):zj t u ⟨nx,rt,λ _ _=>False,λ _ _=>False⟩ σ H:=h _ λ _ _ x=>x
theorem xw(h:∀ nx':St->Hp->Prop,(∀ σ H,u ⟨nx,rt,bk,ct⟩ σ H->nx' σ H)->t ⟨nx',rt,bk,ct⟩ σ H):zj t u ⟨nx,rt,bk,ct⟩ σ H:=h _ λ _ _ x=>x
theorem LW(h:∀ no UQ UR:St->Hp->Prop,(∀ σ H,nx σ H->no σ H)->(∀ σ H,bk σ H->UQ σ H)->(∀ σ H,ct σ H->UR σ H)->∀ nx':St->Hp->Prop,(∀ σ H,u ⟨no,rt,UQ,UR⟩ σ H->nx' σ H)->t ⟨nx',rt,UQ,UR⟩ σ H):zj t u ⟨nx,rt,bk,ct⟩ σ H:=h _ _ _ (λ _ _ x=>x) (λ _ _ x=>x) (λ _ _ x=>x) _ λ _ _ x=>x
theorem Jp{c:TT}(h:∀ kt kf:Hp->Prop,(∀ H,t ⟨nx,rt,bk,ct⟩ σ H->kt H)->(∀ H,u ⟨nx,rt,bk,ct⟩ σ H->kf H)->c σ H λ b H1=>if b=true then kt H1 else kf H1):N2 c t u ⟨nx,rt,bk,ct⟩ σ H:=h _ _ (λ _ x=>x) λ _ x=>x
end
end L2
namespace SN
open PySem
variable {xs:Array Nat}
theorem Dz{j:Nat}(hs:xs.toList.Pairwise (· < ·)):∀ (fuel lo hi:Nat),hi - lo <= fuel->lo <= hi->hi <= xs.size->(∀ i v,i < lo->xs[i]? = some v->v < j)->(∀ i v,hi <= i->xs[i]? = some v->j <= v) ->
  ∀ p,SetTable.below.go xs j fuel lo hi=p->p <= xs.size /\ (∀ i v,i < p->xs[i]? = some v->v < j) /\ ∀ i v,p <= i->xs[i]? = some v->j <= v:=by
 have mono:∀ {i k:Nat} {v u:Nat},i < k->xs[i]? = some v->xs[k]? = some u->v < u:=λ {i k v u} hik hi hk=>by
  rw [<- c6] at hi hk
  obtain ⟨h1,e1⟩:=e9 hi
  obtain ⟨h2,e2⟩:=e9 hk
  rw [<- e1,<- e2]
  exact i9.mp hs i k h1 h2 hik
 intro fuel
 induction fuel with
 | zero =>
  intro lo hi hf Ys hsz h1 h2 p e
  unfold SetTable.below.go at e
  subst e
  have:lo=hi:=by omega
  exact ⟨by omega,h1,λ i v hi'=>h2 i v (by omega)⟩
 | succ fuel ih =>
  intro lo hi hf Ys hsz h1 h2 p e
  unfold SetTable.below.go at e
  by_cases hlt:lo < hi
  ·rw [if_pos hlt] at e
   dsimp only at e
   have hm:(lo + hi) / 2 < xs.size:=by omega
   have hg:xs[(lo + hi) / 2]? = some xs[(lo + hi) / 2]:=dD hm
   have hgd:xs.getD ((lo + hi) / 2) j=xs[(lo + hi) / 2]:=by simp [Array.getD,hm]
   rw [hgd] at e
   by_cases hc:xs[(lo + hi) / 2] < j
   ·rw [if_pos hc] at e
    refine ih ((lo + hi) / 2 + 1) hi (by omega) (by omega) hsz (λ i v hi' hv=>?_) h2 p e
    rcases bG i ((lo + hi) / 2) with hl | hg'
    ·have:=mono hl hv hg
     omega
    ·have:i=(lo + hi) / 2:=by omega
     subst this
     rw [hg] at hv
     cases hv
     exact hc
   ·rw [if_neg hc] at e
    refine ih lo ((lo + hi) / 2) (by omega) (by omega) (by omega) h1 (λ i v hi' hv=>?_) p e
    rcases bG ((lo + hi) / 2) i with hl | hg'
    ·have:=mono hl hg hv
     omega
    ·have:i=(lo + hi) / 2:=by omega
     subst this
     rw [hg] at hv
     cases hv
     omega
  ·rw [if_neg hlt] at e
   subst e
   exact ⟨by omega,h1,λ i v hi'=>h2 i v (by omega)⟩
theorem iM(hs:xs.toList.Pairwise (· < ·))(j:Nat):SetTable.below xs j <= xs.size /\ (∀ i v,i < SetTable.below xs j->xs[i]? = some v->v < j) /\ ∀ i v,SetTable.below xs j <= i->xs[i]? = some v->j <= v :=
 Dz hs xs.size 0 xs.size (by omega) (by omega) (ak _) (λ i v h=>absurd h (Nat.not_lt_zero _)) (λ i v h hv=>by
  have:=(i0.mp hv).1
  omega) _ rfl
theorem xy(hs:xs.toList.Pairwise (· < ·)):SetTable.below xs 0=0:=by
 obtain ⟨h1,h2,_⟩:=iM hs 0
 rcases Nat.eq_zero_or_pos (SetTable.below xs 0) with e | hp
 ·exact e
 ·have:=h2 0 xs[0] hp (dD (by omega))
  omega
theorem xA(hs:xs.toList.Pairwise (· < ·)){i v:Nat}(hv:xs[i]? = some v):SetTable.below xs (v + 1)=i + 1:=by
 obtain ⟨h1,h2,h3⟩:=iM hs (v + 1)
 have hi:=(i0.mp hv).1
 have mono:∀ {i k:Nat} {v u:Nat},i < k->xs[i]? = some v->xs[k]? = some u->v < u:=λ {i k v u} hik hi hk=>by
  rw [<- c6] at hi hk
  obtain ⟨h1,e1⟩:=e9 hi
  obtain ⟨h2,e2⟩:=e9 hk
  rw [<- e1,<- e2]
  exact i9.mp hs i k h1 h2 hik
 rcases Nat.lt_trichotomy (SetTable.below xs (v + 1)) (i + 1) with hl | he | hg
 ·have:=h3 i v (by omega) hv
  omega
 ·exact he
 ·have hk:i + 1 < xs.size:=by omega
  have hu:=dD hk
  have h4:=h2 (i + 1) _ hg hu
  have h5:=mono (jX i) hv hu
  omega
theorem jM(hs:xs.toList.Pairwise (· < ·)){j:Nat}(hj:∀ (i:Nat) (v:Nat),xs[i]? = some v->v ≠ j):(SetTable.insertAt xs (SetTable.below xs j) j).toList.Pairwise (· < ·):=by
 obtain ⟨h1,h2,h3⟩:=iM hs j
 rw [SetTable.toList_insertAt]
 have hmt:∀ v∈xs.toList.take (SetTable.below xs j),v < j:=λ v hv=>by
  obtain ⟨i,hi⟩:=dX.mp hv
  have hlt:i < SetTable.below xs j:=by
   have:=(e9 hi).1
   rw [bV] at this
   omega
  rw [lM hlt,c6] at hi
  exact h2 i v hlt hi
 have hmd:∀ v∈xs.toList.drop (SetTable.below xs j),j < v:=λ v hv=>by
  obtain ⟨i,hi⟩:=dX.mp hv
  rw [List.getElem?_drop,c6] at hi
  have h4:=h3 _ v (jW _ _) hi
  have h5:=hj _ v hi
  omega
 rw [List.pairwise_append]
 refine ⟨hs.sublist (List.take_sublist ..),?_,λ a ha b hb=>?_⟩
 ·rw [lQ]
  exact ⟨hmd,hs.sublist (List.drop_sublist ..)⟩
 ·have:=hmt a ha
  rcases aB.mp hb with e | hb
  ·omega
  ·have:=hmd b hb
   omega
end SN
namespace SG
open PySem
variable {led:Bool}{es:Array (Int × Value)}{t:SetTable}{j ep i:Nat}{a it tp:Addr}{o:Obj}{Q:Value->Shared->Prop}{ys:List Nat}{ns:List Int}
structure Tab (led:Bool) (es:Array (Int × Value)) (t:SetTable):Prop where
 led:t.led=led
 AV:t.dummies=#[]
 up:t.place.toList.Pairwise (· < ·)
 fits:t.fits es.size=true
theorem Tab.sz(T:Tab led es t):t.place.size=es.size:=by
 have:=T.fits
 unfold SetTable.fits at this
 simp only [mJ,beq_iff_eq] at this
 exact this.1
theorem kG(h:t.dummies=#[])(j:Nat):SetTable.has t.dummies j=false:=by unfold SetTable.has; rw [h]; simp
theorem j4(hs:t.place.toList.Pairwise (· < ·))(h:t.slot j=.empty):∀ (i:Nat) (v:Nat),t.place[i]? = some v->v ≠ j:=by
 intro i v hv e
 subst e
 obtain ⟨h1,h2,h3⟩:=SN.iM hs v
 have hi:SetTable.below t.place v <= i:=by
  rcases bG i (SetTable.below t.place v) with hl | hg
  ·exact absurd (h2 i v hl hv) (cV _)
  ·exact hg
 have hlt:=(i0.mp hv).1
 have hb:SetTable.below t.place v < t.place.size:=Nat.lt_of_le_of_lt hi hlt
 have hg:=dD hb
 have h4:=h3 _ _ (ak _) hg
 have hi2:SetTable.below t.place v=i:=by
  rcases bG (SetTable.below t.place v) i with hl | hge
  ·rw [<- c6] at hv hg
   obtain ⟨a1,e1⟩:=e9 hg
   obtain ⟨a2,e2⟩:=e9 hv
   have:=i9.mp hs _ _ a1 a2 hl
   rw [e1,e2] at this
   omega
  ·omega
 unfold SetTable.slot at h
 dsimp only at h
 rw [hi2,hv] at h
 simp at h
theorem uc(hd:t.dummies=#[])(f:Nat->Int)(x:Int):∀ (fuel:Nat) (p:SetTable.Probe) (j:Nat) (dm:Option Nat),p.dummy=none->SetTable.probe.go t f x fuel p=some (.empty j dm)->dm=none /\ t.slot j=.empty:=by
 intro fuel
 induction fuel with
 | zero=>intro p j dm _ h; cases h
 | succ fuel ih =>
  intro p j dm hp h
  have Yt:(t.advance p).dummy=none:=by unfold SetTable.advance; split <;> exact hp
  unfold SetTable.probe.go at h
  cases hs:t.slot p.j with
  | empty =>
   rw [hs] at h
   cases h
   exact ⟨hp,hs⟩
  | dummy =>
   exfalso
   unfold SetTable.slot at hs
   dsimp only at hs
   rw [kG hd] at hs
   split at hs <;> cases hs
  | live i =>
   rw [hs] at h
   dsimp only at h
   split at h
   ·cases h
   ·exact ih _ j dm Yt h
theorem AW(hd:t.dummies=#[]){x:Int}{b:Bool}(h:t.freeSlot x=some (j,b)):b=false /\ t.slot j=.empty:=by
 unfold SetTable.freeSlot at h
 cases e:t.probe (λ _=>x + 1) x (t.probeStart x) with
 | none=>rw [e] at h; cases h
 | some m =>
  cases m with
  | candidate _ _ _=>rw [e] at h; cases h
  | empty k dm =>
   rw [e] at h
   obtain ⟨rfl,h2⟩:=uc hd _ _ _ _ k dm rfl e
   cases h
   exact ⟨rfl,h2⟩
theorem kH(n:Nat):(Array.range n).toList.Pairwise (· < ·):=by
 rw [Array.toList_range]
 exact List.pairwise_lt_range
theorem Tab.lay(T:Tab led es t)(h:Int)(x:Value):
  ∃ es1 t1 gv,layNew t es h x=(es1,t1,false,gv) /\ Tab led es1 t1 /\ es1.toList.Perm (es.toList++[(h,x)]):=by
 have hp:=layNew_perm t es h x
 have hf:=layNew_fits t es h x
 rw [Array.toList_push] at hp
 cases e:t.freeSlot h with
 | none =>
  have el:layNew t es h x=(es.push (h,x),t.standIn (es.size + 1),false,true):=by unfold layNew; rw [e]
  rw [el] at hp hf
  exact ⟨_,_,_,el,⟨T.led,rfl,kH _,hf⟩,hp⟩
 | some q =>
  obtain ⟨j,b⟩:=q
  obtain ⟨rfl,hs⟩:=AW T.AV e
  have LX:t.put j=({ t with place:=SetTable.insertAt t.place (SetTable.below t.place j) j },SetTable.below t.place j):=by
   unfold SetTable.put
   rw [kG T.AV]
   rfl
  have el:layNew t es h x=(SetTable.insertAt es (SetTable.below t.place j) (h,x),({ t with place:=SetTable.insertAt t.place (SetTable.below t.place j) j }:SetTable).orStandIn (SetTable.insertAt es (SetTable.below t.place j) (h,x)).size,false,!({ t with place:=SetTable.insertAt t.place (SetTable.below t.place j) j }:SetTable).fits (SetTable.insertAt es (SetTable.below t.place j) (h,x)).size):=by
   unfold layNew
   rw [e]
   dsimp only
   rw [LX]
  rw [el] at hp hf
  dsimp only at hp hf
  refine ⟨_,_,_,el,⟨?_,?_,?_,hf⟩,hp⟩
  ·unfold SetTable.orStandIn
   split <;> exact T.led
  ·unfold SetTable.orStandIn
   split
   ·exact T.AV
   ·rfl
  ·unfold SetTable.orStandIn
   split
   ·exact SN.jM T.up (j4 T.up hs)
   ·exact kH _
theorem Tab.PK(T:Tab led es t)(n:Nat):
    ∃ es1 t1 gv,relayAll t es n=(es1,t1,gv) /\ Tab led es1 t1 /\ es1.toList.Perm es.toList:=by
  have hp:=relayAll_perm t es n
  have hf:=relayAll_fits t es n
  generalize hR:relayAll t es n=R at hp hf
  obtain ⟨es1,t1,gv⟩:=R
  dsimp only at hp hf
  refine ⟨es1,t1,gv,rfl,⟨?_,?_,?_,hf⟩,hp⟩ <;> clear hp hf <;> unfold relayAll at hR <;> cases e:t.relaid (es.map (·.1)) n with
  | none =>
    rw [e] at hR
    cases hR
    first | exact T.led | rfl | exact kH _
  | some q =>
    obtain ⟨t',od⟩:=q
    rw [e] at hR
    dsimp only at hR
    split at hR
    · obtain ⟨rfl,rfl,_⟩:_ /\ _ /\ _:=by simpa only [Prod.mk.injEq] using hR
      unfold SetTable.relaid SetTable.laid at e
      cases e2:SetTable.layClean (SetTable.sizeAbove n - 1) (es.map (·.1)) with
      | none=>rw [e2] at e; cases e
      | some ow =>
        rw [e2] at e
        cases e
        first
          | exact T.led
          | rfl
          | (rw [List.toList_toArray,jV]
             refine List.Pairwise.filterMap _ (λ a b hab x hx y hy=>?_) (List.pairwise_lt_range (n:=SetTable.sizeAbove n - 1 + 1))
             obtain ⟨_,_,rfl⟩:=fB.mp hx
             obtain ⟨_,_,rfl⟩:=fB.mp hy
             exact hab)
    · cases hR
      first | exact T.led | rfl | exact kH _
open PySem.Spec PyProof.Rows
def bH(w:World):Bool:=w.params.followText "set-order"
theorem GJ:entryFor table "set.__iter__" = some Builtin.«frozenset.__iter__»:=entryFor_alias (id' := "frozenset.__iter__") (by kernel_rfl) rfl (by decide +kernel) (by kernel_rfl)
theorem dS:Slot "set_iterator" "__next__" "set_iterator.__next__" := .of (owner := "set_iterator") (n := "__next__") (by rw [typeLookup_type,builtinLookup_eq_fast]; kernel_rfl) (by decide +kernel) (by decide +kernel) (by decide +kernel) (by first | exact .inl (by decide +kernel) | exact .inr (by decide +kernel)) (by rw [isSubtype_type]; kernel_rfl)
theorem nu:entryFor table "set_iterator.__next__" = some Builtin.«set_iterator.__next__»:=entryFor_of_tree (by kernel_rfl)
theorem nv(a:Value):argsOk "set_iterator.__next__" ⟨[a],[]⟩:=by unfold argsOk; kernel_rfl
theorem ny:Slot "set_iterator" "__iter__" "set_iterator.__iter__" := .of (owner := "set_iterator") (n := "__iter__") (by rw [typeLookup_type,builtinLookup_eq_fast]; kernel_rfl) (by decide +kernel) (by decide +kernel) (by decide +kernel) (by first | exact .inl (by decide +kernel) | exact .inr (by decide +kernel)) (by rw [isSubtype_type]; kernel_rfl)
theorem zk:entryFor table "set_iterator.__iter__" = some Builtin.«dict_keyiterator.__iter__»:=entryFor_alias (id' := "dict_keyiterator.__iter__") (by kernel_rfl) rfl (by decide +kernel) (by kernel_rfl)
theorem zl(a:Value):argsOk "set_iterator.__iter__" ⟨[a],[]⟩:=by unfold argsOk; kernel_rfl
def ord(w:World)(a:Addr)(es:Array (Int × Value))(ep:Nat):Array (Int × Value):=if bH w=true then pickOrder (w.params.setOrder a ep) es else es
theorem fG{α:Type}:∀ (l:List α) (i:Nat) (h:i < l.length),(l[i] :: l.eraseIdx i).Perm l
 | x :: l,0,_=>jS _
 | x :: l,i + 1,h=>by
  have hi:i < l.length:=by simpa using h
  simp only [List.getElem_cons_succ,rN]
  exact (List.Perm.swap x l[i] _).trans ((fG l i hi).cons x)
theorem qM{α:Type}(nx:Nat->Nat):∀ (fuel k:Nat) (left:List α) (out:Array α),left.length <= fuel->(pickOrder.go nx fuel k left out).toList.Perm (out.toList++left)
 | 0,k,left,out,h=>by
  unfold pickOrder.go
  rw [List.eq_nil_of_length_eq_zero (Nat.le_zero.mp h),eE]
 | fuel + 1,k,left,out,h=>by
  unfold pickOrder.go
  cases e:left[nx k % left.length]? with
  | none =>
   dsimp only
   have:left=[]:=by
    cases left with
    | nil=>rfl
    | cons x l =>
     have hlt:nx k % (x :: l).length < (x :: l).length:=Nat.mod_lt _ (Nat.zero_lt_succ _)
     rw [dB hlt] at e
     cases e
   rw [this,eE]
  | some x =>
   dsimp only
   obtain ⟨hlt,ex⟩:=e9 e
   have hl:(left.eraseIdx (nx k % left.length)).length <= fuel:=by rw [List.length_eraseIdx_of_lt hlt]; omega
   refine (qM nx fuel (k + 1) _ (out.push x) hl).trans ?_
   rw [Array.toList_push,c8]
   refine List.Perm.append_left _ ?_
   have:=fG left _ hlt
   rw [ex] at this
   exact this
theorem DA(w:World)(a:Addr)(es:Array (Int × Value))(ep:Nat):(ord w a es ep).toList.Perm es.toList:=by
 unfold ord
 split
 ·unfold pickOrder
  have:=qM (w.params.setOrder a ep) es.size 0 es.toList #[] (by simp)
  simpa using this
 ·exact jS _
theorem qt{M:Model}{A:Around}{E:Value->Shared->Prop}{s:Shared}{src:Source}{n:Nat}{Q:Nat->Shared->Prop}(hn:n ≠ 0)(h:∀ i,i < n->Q i { s with drawn:=s.drawn.bump src }):wpAny M A (choose src n) Q E s :=
 λ _ _ _=>⟨hn,h _ (Nat.mod_lt _ (Nat.pos_of_ne_zero hn))⟩
theorem oR{M:Model}{A:Around}{E:Value->Shared->Prop}{α:Type}:∀ (n:Nat) (xs:List α) (s:Shared) (Q:List α->Shared->Prop),xs.length <= n->(∀ ys d',ys.Perm xs->Q ys { s with drawn:=d' })->wpAny M A (drawOrder n xs) Q E s
 | 0,xs,s,Q,hn,h=>by
  have:xs=[]:=List.eq_nil_of_length_eq_zero (Nat.le_zero.mp hn)
  subst this
  exact aE (h [] s.drawn (jS _))
 | n + 1,[],s,Q,hn,h=>aE (h [] s.drawn (jS _))
 | n + 1,x :: xs,s,Q,hn,h=>by
  unfold drawOrder
  refine af (qt (by simp) λ i hi=>?_)
  have e:(x :: xs)[i]? = some (x :: xs)[i]:=dB hi
  rw [e]
  dsimp only
  have hl:((x :: xs).eraseIdx i).length <= n:=by rw [List.length_eraseIdx_of_lt hi]; simp only [dI] at hn ⊢; omega
  refine af (oR n _ _ _ hl λ ys d' hp=>aE ?_)
  exact h _ d' ((hp.cons _).trans (fG _ i hi))
section
variable {prog:Program}{w:World}{A:Around}{E:Value->Shared->Prop}{s:Shared}
def Still(w:World)(es:Array (Int × Value))(t:SetTable):Prop:=bH w=true \/ t.plain=true \/ es.size <= 1
def AX(w:World)(a:Addr)(o:Obj)(es:Array (Int × Value))(ep:Nat)(t:SetTable)(it:Addr)(i:Nat)(h:Heap):Prop :=
 h.get? a=some o /\ ∃ oi sl,h.get? it=some oi /\ oi.cls=.type "set_iterator" /\ oi.data=.fields #[.int ((sl:Nat):Int) 0,.int ((i:Nat):Int) 0,.ref a,.int ((es.size:Nat):Int) 0,.int ((ep:Nat):Int) 0] /\ (bH w=false->SetTable.below t.place sl=i)
theorem AX.ty(h:AX w a o es ep t it i s.heap):s.TypeIs (.ref it) "set_iterator" := by
 obtain ⟨_,oi,sl,h1,h2,_⟩:=h
 exact ⟨oi,h1,h2⟩
theorem zm{o:Obj}{sl:Nat}{Q:Option (Value × Nat)->Shared->Prop}(ho:s.heap.get? a=some o)(hd:o.data=.set es ep t)(T:Tab (!bH w) es t)(hst:Still w es t)(hb:bH w=false->SetTable.below t.place sl=i)
  (h:∀ Ce,(∀ e,(ord w a es ep)[i]? = some e->bH w=false->SetTable.below t.place Ce=i + 1)->Q ((ord w a es ep)[i]?.map λ e=>(e.2,Ce)) s):wpAny (model prog w) A (setNext a sl i ep) Q E s:=by
 unfold setNext
 refine af (wpAny_setState_of ho hd T.fits ?_)
 dsimp only
 unfold setsByText
 refine af (af (wpAny_askSetting (aE ?_)))
 show wpAny _ _ (if bH w=true then _ else _) _ _ _
 cases hx:bH w with
 | true =>
  rw [if_pos rfl]
  simp only [bne_self_eq_false,bu,if_false]
  refine af ?_
  unfold setWalk
  refine af (wpAny_setState_of ho hd T.fits ?_)
  dsimp only
  unfold setsByText
  refine af (af (wpAny_askSetting (aE ?_)))
  show wpAny _ _ (if bH w=true then _ else _) _ _ _
  rw [if_pos hx]
  refine af (wpAny_askSetting (aE (aE ?_)))
  have:=h sl (λ e _ z=>by rw [hx] at z; cases z)
  unfold ord at this
  rw [if_pos hx] at this
  exact this
 | false =>
  rw [if_neg (by decide)]
  have PL:t.led=true:=by rw [T.led,hx]; rfl
  have hz:=T.sz
  have hup:=T.up
  have hb':=hb hx
  have ho':ord w a es ep=es:=by unfold ord; rw [hx]; rfl
  rw [ho'] at h
  have hdr:(!t.plain && decide (es.size > 1))=false:=by
   rcases hst with e | e | e
   ·rw [hx] at e; cases e
   ·rw [e]; rfl
   ·have:decide (es.size > 1)=false:=decide_eq_false (by omega)
    rw [this,Bool.and_false]
  clear T hb ho hd hst
  obtain ⟨mask,place,dummies,finger,led,moves,plain⟩:=t
  dsimp only at PL hz hup hb' h hdr
  subst PL
  show wpAny _ _ (if (!plain && decide (es.size > 1))=true then _ else _) _ _ _
  rw [if_neg (by rw [hdr]; decide)]
  refine af (wpAny_of_eq (a:=()) rfl ?_)
  dsimp only
  rw [hb']
  rcases bG i es.size with hlt | hge
  ·have e1:es[i]? = some es[i]:=dD hlt
   have e2:place[i]? = some place[i]:=dD (by omega)
   rw [e1,e2]
   refine aE ?_
   have:=h (place[i] + 1) (λ _ _ _=>SN.xA hup e2)
   rw [e1] at this
   exact this
  ·have e1:es[i]? = none:=nR hge
   rw [e1]
   refine aE ?_
   have:=h 0 (λ e z=>by rw [e1] at z; cases z)
   rw [e1] at this
   exact this
theorem GK{e:Int × Value}{Q:Option Value->Shared->Prop}(hne:a ≠ it)(hd:o.data=.set es ep t)(T:Tab (!bH w) es t)(hst:Still w es t)
  (I:AX w a o es ep t it i s.heap)(hi:(ord w a es ep)[i]? = some e)(hQ:∀ h',AX w a o es ep t it (i + 1) h'->(∀ b x,b ≠ it->s.heap.get? b=some x->h'.get? b=some x)->Q (some e.2) { s with heap:=h' }):wpAny (model prog w) A (pyNext (.ref it)) Q E s:=by
 have ty:=I.ty
 obtain ⟨ho,oi,sl,wD,hc,hf,hb⟩:=I
 unfold pyNext
 refine af (wpAny_attempt (wpAny_callSpecial?_slot (name:=Str.ofString "__next__") ty dS (wpAny_call_entry dS ty nu ?_ (nv _))))
 unfold Builtin.«set_iterator.__next__»
 refine af (wpAny_of_eq (a:=(Value.ref it,[])) rfl ?_)
 refine af (wpAny_fieldsOf wD hf ?_)
 dsimp only
 refine af (wpAny_setEntries_of ho hd T.fits ?_)
 rw [if_neg (by simp)]
 rw [show ((sl:Nat):Int).toNat=sl from rfl,show ((i:Nat):Int).toNat=i from rfl,show ((ep:Nat):Int).toNat=ep from rfl]
 refine af (zm ho hd T hst hb λ Ce hb'=>?_)
 rw [hi]
 show wpAny _ _ (do setField (.ref it) 0 (rawInt Ce); setField (.ref it) 1 (rawInt ((i:Int) + 1)); ret e.2) _ _ s
 have g1:=c7 (Obj.mapFields (·.setIfInBounds 0 (rawInt Ce))) wD (iI (cW hf _))
 have d1:=cW hf (·.setIfInBounds 0 (rawInt Ce))
 refine af (wpAny_setField wD hf (by simp) (af (wpAny_setField g1 d1 (by simp) (aE ⟨_,rfl,aE (hQ _ ?_ λ b x hb e=>?_)⟩))))
 ·have hk:∀ (f g:Obj->Obj) (b:Addr) (x:Obj),b ≠ it->s.heap.get? b=some x->((s.heap.update it f).update it g).get? b=some x:=λ f g b x hb e=>by rw [dH _ _ _ _ hb,dH _ _ _ _ hb]; exact e
  refine ⟨hk _ _ _ _ hne ho,_,Ce,c7 _ g1 (iI (cW d1 _)),(jY ..).trans ((jY ..).trans hc),?_,λ hx=>hb' e hi hx⟩
  rw [cW d1]
  simp [rawInt]
 ·rw [dH _ _ _ _ hb,dH _ _ _ _ hb]; exact e
theorem LY{Q:Option Value->Shared->Prop}(hh:A.handled=none)(hne:a ≠ it)(hd:o.data=.set es ep t)(T:Tab (!bH w) es t)(hst:Still w es t)
  (I:AX w a o es ep t it i s.heap)(hi:(ord w a es ep)[i]? = none)(hQ:∀ h',(∀ b x,b ≠ it->s.heap.get? b=some x->h'.get? b=some x)->Q none { s with heap:=h' }):wpAny (model prog w) A (pyNext (.ref it)) Q E s:=by
 have ty:=I.ty
 obtain ⟨ho,oi,sl,wD,hc,hf,hb⟩:=I
 unfold pyNext
 refine af (wpAny_attempt (wpAny_callSpecial?_slot (name:=Str.ofString "__next__") ty dS (wpAny_call_entry dS ty nu ?_ (nv _))))
 unfold Builtin.«set_iterator.__next__»
 refine af (wpAny_of_eq (a:=(Value.ref it,[])) rfl ?_)
 refine af (wpAny_fieldsOf wD hf ?_)
 dsimp only
 refine af (wpAny_setEntries_of ho hd T.fits ?_)
 rw [if_neg (by simp)]
 rw [show ((sl:Nat):Int).toNat=sl from rfl,show ((i:Nat):Int).toNat=i from rfl,show ((ep:Nat):Int).toNat=ep from rfl]
 refine af (zm ho hd T hst hb λ Ce hb'=>?_)
 rw [hi]
 show wpAny _ _ (do setField (.ref it) 2 .none; raiseNew (<- newExc (.type "StopIteration") [])) _ _ s
 refine af (wpAny_setField wD hf (by simp) (af ?_))
 simp only [newExc,newTuple]
 refine af (wpAny_newObj_type (af (m:=firstArgMember _ _) (wpAny_of_eq (a:=Value.none) (by first | rfl | (simp only [firstArgMember]; rfl)) (wpAny_newObj_type ?_ (by size_fits)))) (by size_fits))
 simp only [raiseNew]
 refine af (wpAny_handled ?_)
 rw [show A.in1.handled=none from hh]
 refine af (aE (wpAny_throw ?go))
 refine af (wpAny_isInstance (T := "StopIteration") (b:=true) (⟨_,fJ _ rfl,rfl⟩) isSubtype_stop ?_)
 refine aE (hQ _ λ b x hb e=>?_)
 exact bS _ (bS _ (by rw [dH _ _ _ _ hb]; exact e))
theorem AY(hh:A.handled=none)(hne:a ≠ it)(hd:o.data=.set es ep t)(T:Tab (!bH w) es t)(hst:Still w es t):
  Walks prog w A it [it,a] [it] (ord w a es ep).size (λ i v=>∃ e,(ord w a es ep)[i]? = some e /\ v=e.2) (λ i h=>AX w a o es ep t it i h) where
 sub:=λ b hb=>by simp at hb; simp [hb]
 frame:=λ i h h' st hk=>by
  obtain ⟨h1,oi,sl,h2,r⟩:=st
  exact ⟨hk a (by simp) o h1,oi,sl,hk it (by simp) oi h2,r⟩
 item:=λ i s Q E hi st hQ=>GK hne hd T hst st (dD hi) λ h' st' hk=>hQ _ h' s.toks ⟨_,dD hi,rfl⟩ st' λ b x hb e=>hk b x (λ z=>hb (by simp [z])) e
 done:=λ s Q E st hQ=>LY hh hne hd T hst st (nR (ak _)) λ h' hk=>hQ h' s.toks λ b x hb e=>hk b x (λ z=>hb (by simp [z])) e
 self:=λ i s Q E st hQ=>by
  have ty:=st.ty
  refine wpAny_pyIter_slot ty ny (wpAny_call_entry ny ty zk ?_ (zl _))
  show wpAny _ _ (ret (.ref it)) _ _ s
  exact aE ⟨_,rfl, "set_iterator", _,ty,dS.lookup,hQ⟩
def AZ(a:Addr)(o:Obj)(es:Array (Int × Value))(ep:Nat)(tp:Addr)(ys:List Nat)(it:Addr)(i:Nat)(h:Heap):Prop :=
 h.get? a=some o /\ (∃ ot n,h.get? tp=some ot /\ ot.data=.seq (ys.map λ (j:Nat)=>rawInt j).toArray n) /\ ∃ oi,h.get? it=some oi /\ oi.cls=.type "set_iterator" /\ oi.data=.fields #[.ref tp,.int ((i:Nat):Int) 0,.ref a,.int ((es.size:Nat):Int) 0,.int ((ep:Nat):Int) 0]
theorem AZ.ty(h:AZ a o es ep tp ys it i s.heap):s.TypeIs (.ref it) "set_iterator" := by
 obtain ⟨_,_,oi,h1,h2,_⟩:=h
 exact ⟨oi,h1,h2⟩
theorem GL{t:SetTable}{e:Int × Value}{Q:Option Value->Shared->Prop}(hne:a ≠ it)(hnt:tp ≠ it)(hd:o.data=.set es ep t)(hfit:t.fits es.size=true)
  (I:AZ a o es ep tp ys it i s.heap)(hi:ys[i]? = some j)(he:es[j]? = some e)(hQ:∀ h',AZ a o es ep tp ys it (i + 1) h'->(∀ b x,b ≠ it->s.heap.get? b=some x->h'.get? b=some x)->Q (some e.2) { s with heap:=h' }):wpAny (model prog w) A (pyNext (.ref it)) Q E s:=by
 have ty:=I.ty
 obtain ⟨ho,⟨ot,nt,wF,hdt⟩,oi,wD,hc,hf⟩:=I
 unfold pyNext
 refine af (wpAny_attempt (wpAny_callSpecial?_slot (name:=Str.ofString "__next__") ty dS (wpAny_call_entry dS ty nu ?_ (nv _))))
 unfold Builtin.«set_iterator.__next__»
 refine af (wpAny_of_eq (a:=(Value.ref it,[])) rfl ?_)
 refine af (wpAny_fieldsOf wD hf ?_)
 dsimp only
 refine af (wpAny_setEntries_of ho hd hfit ?_)
 rw [if_neg (by simp)]
 refine af (wpAny_seqItems wF hdt ?_)
 dsimp only
 rw [show ((i:Nat):Int).toNat=i from rfl]
 have e1:((ys.map λ (j:Nat)=>rawInt j).toArray)[i]? = some (rawInt j):=by rw [i8,aS,hi]; rfl
 rw [e1]
 show wpAny _ _ (do let x <- setNextDrawn a ((j:Nat):Int).toNat ((ep:Nat):Int).toNat; setField (.ref it) 1 (rawInt ((i:Int) + 1)); ret x) _ _ s
 rw [show ((j:Nat):Int).toNat=j from rfl,show ((ep:Nat):Int).toNat=ep from rfl]
 refine af ?_
 unfold setNextDrawn
 refine af (wpAny_setState_of ho hd hfit ?_)
 dsimp only
 rw [if_neg (by simp),he]
 refine aE ?_
 refine af (wpAny_setField wD hf (by simp) (aE ⟨_,rfl,aE (hQ _ ?_ λ b x hb e=>?_)⟩))
 ·refine ⟨by rw [dH _ _ _ _ hne]; exact ho,⟨ot,nt,by rw [dH _ _ _ _ hnt]; exact wF,hdt⟩,_,c7 _ wD (iI (cW hf _)),(jY ..).trans hc,?_⟩
  rw [cW hf]
  simp [rawInt]
 ·rw [dH _ _ _ _ hb]; exact e
theorem LZ{t:SetTable}{Q:Option Value->Shared->Prop}(hh:A.handled=none)(hne:a ≠ it)(hd:o.data=.set es ep t)(hfit:t.fits es.size=true)
  (I:AZ a o es ep tp ys it i s.heap)(hi:ys[i]? = none)(hQ:∀ h',(∀ b x,b ≠ it->s.heap.get? b=some x->h'.get? b=some x)->Q none { s with heap:=h' }):wpAny (model prog w) A (pyNext (.ref it)) Q E s:=by
 have ty:=I.ty
 obtain ⟨ho,⟨ot,nt,wF,hdt⟩,oi,wD,hc,hf⟩:=I
 unfold pyNext
 refine af (wpAny_attempt (wpAny_callSpecial?_slot (name:=Str.ofString "__next__") ty dS (wpAny_call_entry dS ty nu ?_ (nv _))))
 unfold Builtin.«set_iterator.__next__»
 refine af (wpAny_of_eq (a:=(Value.ref it,[])) rfl ?_)
 refine af (wpAny_fieldsOf wD hf ?_)
 dsimp only
 refine af (wpAny_setEntries_of ho hd hfit ?_)
 rw [if_neg (by simp)]
 refine af (wpAny_seqItems wF hdt ?_)
 dsimp only
 rw [show ((i:Nat):Int).toNat=i from rfl]
 have e1:((ys.map λ (j:Nat)=>rawInt j).toArray)[i]? = none:=by rw [i8,aS,hi]; rfl
 rw [e1]
 show wpAny _ _ (do setField (.ref it) 0 (rawInt 0); setField (.ref it) 2 .none; raiseNew (<- newExc (.type "StopIteration") [])) _ _ s
 have g1:=c7 (Obj.mapFields (·.setIfInBounds 0 (rawInt 0))) wD (iI (cW hf _))
 have d1:=cW hf (·.setIfInBounds 0 (rawInt 0))
 refine af (wpAny_setField wD hf (by simp) (af (wpAny_setField g1 d1 (by simp) (af ?_))))
 simp only [newExc,newTuple]
 refine af (wpAny_newObj_type (af (m:=firstArgMember _ _) (wpAny_of_eq (a:=Value.none) (by first | rfl | (simp only [firstArgMember]; rfl)) (wpAny_newObj_type ?_ (by size_fits)))) (by size_fits))
 simp only [raiseNew]
 refine af (wpAny_handled ?_)
 rw [show A.in1.handled=none from hh]
 refine af (aE (wpAny_throw ?go))
 refine af (wpAny_isInstance (T := "StopIteration") (b:=true) (⟨_,fJ _ rfl,rfl⟩) isSubtype_stop ?_)
 refine aE (hQ _ λ b x hb e=>?_)
 exact bS _ (bS _ (by rw [dH _ _ _ _ hb,dH _ _ _ _ hb]; exact e))
def mQ(es:Array (Int × Value))(ys:List Nat):Array (Int × Value):=(ys.map λ j=>es.toList.getD j (0,.none)).toArray
theorem xB(h:ys.Perm (List.range es.size)):(mQ es ys).toList.Perm es.toList:=by
 unfold mQ
 rw [List.toList_toArray]
 refine (h.map _).trans ?_
 have:(List.range es.size).map (λ j=>es.toList.getD j (0,.none))=es.toList:=by
  refine List.ext_getElem (by simp) λ i h1 h2=>?_
  simp only [oh,List.getElem_range]
  rw [iR,dB h2]
  rfl
 rw [this]
theorem ud(hh:A.handled=none){t:SetTable}(hne:a ≠ it)(hnt:tp ≠ it)(hd:o.data=.set es ep t)(hfit:t.fits es.size=true)(hp:ys.Perm (List.range es.size)):
  Walks prog w A it [it,a,tp] [it] (mQ es ys).size (λ i v=>∃ e,(mQ es ys)[i]? = some e /\ v=e.2) (λ i h=>AZ a o es ep tp ys it i h) where
 sub:=λ b hb=>by simp at hb; simp [hb]
 frame:=λ i h h' st hk=>by
  obtain ⟨h1,⟨ot,nt,h2,h3⟩,oi,h4,r⟩:=st
  exact ⟨hk a (by simp) o h1,⟨ot,nt,hk tp (by simp) _ h2,h3⟩,oi,hk it (by simp) oi h4,r⟩
 item:=λ i s Q E hi st hQ=>by
  have hi':i < ys.length:=by simpa [mQ] using hi
  have e1:ys[i]? = some ys[i]:=dB hi'
  have hj:ys[i] < es.size:=fT.mp (hp.mem_iff.mp (fS hi'))
  have e2:es[ys[i]]? = some es[ys[i]]:=dD hj
  refine GL hne hnt hd hfit st e1 e2 λ h' st' hk=>hQ _ h' s.toks ⟨es[ys[i]],?_,rfl⟩ st' λ b x hb e=>hk b x (λ z=>hb (by simp [z])) e
  unfold mQ
  rw [i8,aS,e1]
  show some (es.toList.getD ys[i] (0,.none))=_
  rw [iR,c6,e2]
  rfl
 done:=λ s Q E st hQ=>LZ hh hne hd hfit st (by simp [mQ]) λ h' hk=>hQ h' s.toks λ b x hb e=>hk b x (λ z=>hb (by simp [z])) e
 self:=λ i s Q E st hQ=>by
  have ty:=st.ty
  refine wpAny_pyIter_slot ty ny (wpAny_call_entry ny ty zk ?_ (zl _))
  show wpAny _ _ (ret (.ref it)) _ _ s
  exact aE ⟨_,rfl, "set_iterator", _,ty,dS.lookup,hQ⟩
theorem DB{o:Obj}{t:SetTable}(ho:s.heap.get? a=some o)(hx:o.ExactSet)(hd:o.data=.set es ep t)(T:Tab (!bH w) es t)(hsz:es.size <= 100000)
  (h:∀ (it:Addr) (h':Heap) (d':Drawn) (fp:List Addr) (od:Array (Int × Value)) (St:Nat->Heap->Prop),(∀ b x,s.heap.get? b=some x->h'.get? b=some x)->s.heap.objs.size <= it->(∀ b∈fp,b=a \/ s.heap.objs.size <= b)->od.toList.Perm es.toList ->
   (∀ A':Around,A'.handled=none->Walks prog w A' it fp [it] od.size (λ i v=>∃ e,od[i]? = some e /\ v=e.2) St)->St 0 h'->Q (.ref it) { s with heap:=h',drawn:=d' }):wpAny (model prog w) A (pyIter (.ref a)) Q E s:=by
 have ty:s.TypeIs (.ref a) "set" := ⟨o,ho,hx.1⟩
 have hlt:=aD ho
 refine wpAny_pyIter_slot ty F.slot_set_iter (wpAny_call_entry F.slot_set_iter ty GJ ?_ (F.args_set_iter_1 _))
 unfold Builtin.«frozenset.__iter__»
 refine af (wpAny_of_eq (a:=a) rfl ?_)
 refine af (m:=Builtin.Frozenset.sizeOf a) (af (wpAny_setEntries_of ho hd T.fits (aE ?_)))
 unfold setDrawn
 refine af (af (wpAny_setState_of ho hd T.fits ?_))
 dsimp only
 unfold setsByText
 refine af (af (wpAny_askSetting (aE (aE ?_))))
 show wpAny _ _ (if (!bH w && (!t.plain && decide (es.size > 1)))=true then _ else _) _ _ _
 by_cases hdr:(!bH w && (!t.plain && decide (es.size > 1)))=true
 ·rw [if_pos hdr]
  refine af (oR es.size (List.range es.size) s _ (by simp) λ ys d' hp=>?_)
  have hyl:ys.length=es.size:=by rw [hp.length_eq,List.length_range]
  refine af (wpAny_newTuple ?_ (by rw [aq,hyl,sizeLine_eq]; omega))
  refine af (wpAny_setEpoch_of (bS _ ho) hd T.fits (af (wpAny_newObj_type (aE ⟨_,rfl, "set_iterator", _,⟨_,fJ _ rfl,rfl⟩,dS.lookup,?_⟩))))
  dsimp only
  have hz:(s.heap.push { cls:=.type "tuple", data:=.seq (ys.map λ (i:Nat)=>rawInt i).toArray }).objs.size=s.heap.objs.size + 1:=by rw [cU]
  refine h _ _ d' [_,a,s.heap.objs.size] (mQ es ys) _ (λ b x e=>bS _ (bS _ e)) (by rw [hz]; exact gT _) (λ b hb=>?_) (xB hp) (λ A' hA=>ud hA (tp:=s.heap.objs.size) (by rw [hz]; exact aO (ja hlt)) (by rw [hz]; exact aO (jX _)) hd T.fits hp) ?_
  ·simp only [aB,eK,or_false] at hb
   rcases hb with e | e | e
   ·rw [e,hz]; exact .inr (gT _)
   ·exact .inl e
   ·rw [e]; exact .inr (ak _)
  ·exact ⟨bS _ (bS _ ho),⟨_,_,bS _ (fJ _ rfl),rfl⟩,_,fJ _ rfl,rfl,rfl⟩
 ·rw [if_neg hdr]
  have hst:Still w es t:=by
   unfold Still
   cases hb:bH w
   ·cases hpl:t.plain
    ·rw [hb,hpl] at hdr
     simp at hdr
     exact .inr (.inr hdr)
    ·exact .inr (.inl rfl)
   ·exact .inl rfl
  refine af (aE (af (wpAny_setEpoch_of ho hd T.fits (af (wpAny_newObj_type (aE ⟨_,rfl, "set_iterator", _,⟨_,fJ _ rfl,rfl⟩,dS.lookup,?_⟩))))))
  refine h s.heap.objs.size _ s.drawn [s.heap.objs.size,a] (ord w a es ep) _ (λ b x e=>bS _ e) (ak _) (λ b hb=>?_) (DA w a es ep) (λ A' hA=>AY hA (aO hlt) hd T hst) ?_
  ·simp only [aB,eK,or_false] at hb
   rcases hb with e | e
   ·rw [e]; exact .inr (ak _)
   ·exact .inl e
  ·exact ⟨bS _ ho,_,0,fJ _ rfl,rfl,rfl,λ _=>SN.xy T.up⟩
def L1(es:List (Int × Value)):Prop:=∀ e∈es,∃ n k,e=(hashInt n,Value.int n k)
def Small(led:Bool)(h:Heap)(a:Addr)(ns:List Int):Prop :=
 ∃ o es ep t,h.get? a=some o /\ o.ExactSet /\ o.data=.set es ep t /\ Tab led es t /\ L1 es.toList /\ es.size=ns.length /\ ns.Nodup /\ ∀ n,n∈ns ↔ ∃ k,((hashInt n,Value.int n k):Int × Value)∈es.toList
theorem Small.at'{h h':Heap}(S:Small led h a ns)(e:∀ o,h.get? a=some o->h'.get? a=some o):Small led h' a ns:=by
 obtain ⟨o,es,ep,t,ho,r⟩:=S
 exact ⟨o,es,ep,t,e o ho,r⟩
theorem L1.elems{es:List (Int × Value)}(h:L1 es):ElemsOf (intKind prog w) es:=λ e he=>by
 obtain ⟨n,k,rfl⟩:=h e he
 exact ⟨⟨n,intKind_is _ _ _ _,rfl⟩,rfl⟩
theorem ue(b:Bool){s1:Shared}{R:Unit->Shared->Prop}(h:R () s1):wpAny (model prog w) A (match b with | true=>rule "set.scan.the-table-gave-way" | false=>pure ()) R E s1:=by
 cases b
 ·exact aE h
 ·exact wpAny_rule h
theorem uf{o:Obj}{t:SetTable}(ho:s.heap.get? a=some o)(hx:o.ExactSet)(hd:o.data=.set es ep t){es1:Array (Int × Value)}{t1:SetTable}(T1:Tab led es1 t1)(hz:es1.size <= 100000)
  {g:Bool->Sem Unit}(hg:∀ (b:Bool) (s₁:Shared) (Q':Unit->Shared->Prop),Q' () s₁->wpAny (model prog w) A (g b) Q' E s₁){R:Option Bool->Shared->Prop}
  (h:∀ h' o2 kI A0 t2,Heap.SameBut a s.heap h'->h'.get? a=some o2->o2.ExactSet->o2.data=.set kI A0 t2->Tab led kI t2->kI.toList.Perm es1.toList->R (some true) { s with heap:=h' }):
  wpAny (model prog w) A (do
    storeSet a es1 t1
    if (!false && t1.tooFull)=true then do
      g (relayAll t1 es1 (SetTable.grown es1.size)).2.2
      storeSet a (relayAll t1 es1 (SetTable.grown es1.size)).1 (relayAll t1 es1 (SetTable.grown es1.size)).2.1
      pure (some true)
     else pure (some true)) R E s:=by
 refine af (wpAny_storeSet_of ho hd ?_ (by rw [sizeLine_eq]; omega))
 have GN:=c7 (Obj.putSet es1 t1) ho (by rw [putSet_of es1 t1 hd]; rfl)
 rw [putSet_of es1 t1 hd] at GN
 have NC:=gO s.heap a (Obj.putSet es1 t1)
 split
 ·obtain ⟨kI,t2,gv,er,T2,perm⟩:=T1.PK (SetTable.grown es1.size)
  rw [er]
  dsimp only
  have hz2:kI.size=es1.size:=by rw [<- bT,perm.length_eq,bT]
  refine af (hg _ _ _ ?_)
  refine af (wpAny_storeSet_of GN rfl ?_ (by rw [sizeLine_eq]; omega))
  have Sf:=c7 (Obj.putSet kI t2) GN (by rw [putSet_of kI t2 rfl]; rfl)
  rw [putSet_of kI t2 rfl] at Sf
  exact aE (h _ _ kI _ t2 (NC.trans (gO _ a _)) Sf hx rfl T2 perm)
 ·exact aE (h _ _ es1 _ t1 NC GN hx rfl T1 (jS _))
theorem add_int{k:Int}{q:Tok}{Q:Bool->Shared->Prop}(hS:Small led s.heap a ns)(hl:ns.length <= 4000)
  (h:∀ b h',Heap.SameBut a s.heap h'->Small led h' a (if k∈ns then ns else ns++[k])->Q b { s with heap:=h' }):wpAny (model prog w) A (setAddHashed a (.int k q) (hashInt k)) Q E s:=by
 obtain ⟨o,es,ep,t,ho,hx,hd,T,hI,hz,nd,mem⟩:=hS
 have hel:=hI.elems (prog:=prog) (w:=w)
 have hb:es.size < scanBound:=by unfold scanBound; omega
 have Yu:(intKind prog w).is k (.int k q)=true:=intKind_is _ _ _ _
 unfold setAddHashed setAddHashedIn
 refine wpAny_holding (af (wpAny_setState_of ho hd T.fits ?_))
 dsimp only
 rw [byScan_of (knd:=intKind prog w) rfl hb hel,if_pos rfl]
 unfold setAddByScan
 refine af (af (wpAny_rule (af (wpAny_setScan_of (knd:=intKind prog w) Yu ho hd T.fits hel ?_))))
 cases hr:es.toList.findIdx? (λ e=>(intKind prog w).is k e.2) with
 | some j =>
  dsimp only
  obtain ⟨hj,Xc,_⟩:=List.findIdx?_eq_some_iff_getElem.mp hr
  have hin:k∈ns:=by
   rw [mem]
   have hm:=fS hj
   obtain ⟨n,c,e3⟩:=hI _ hm
   rw [e3] at Xc hm
   have:k=n:=(intKind prog w).inj _ _ _ Xc (intKind_is _ _ _ _)
   rw [this]
   exact ⟨c,hm⟩
  refine aE (aE ?_)
  exact h false s.heap (Heap.SameBut.refl a s.heap) (by rw [if_pos hin]; exact ⟨o,es,ep,t,ho,hx,hd,T,hI,hz,nd,mem⟩)
 | none =>
  dsimp only
  have hno:=List.findIdx?_eq_none_iff.mp hr
  have DC:k ∉ ns:=λ hin=>by
   obtain ⟨c,hc⟩:=(mem _).mp hin
   have:=hno _ hc
   rw [intKind_is] at this
   cases this
  obtain ⟨es1,t1,gv,hlay,T1,perm⟩:=T.lay (hashInt k) (.int k q)
  have hz1:es1.size=es.size + 1:=by rw [<- bT,perm.length_eq,aN,bT]; rfl
  rw [hlay]
  dsimp only
  refine af (ue gv ?_)
  have fin:∀ h' o2 kI A0 t2,Heap.SameBut a s.heap h'->h'.get? a=some o2->o2.ExactSet->o2.data=.set kI A0 t2->Tab led kI t2->kI.toList.Perm es1.toList->Q true { s with heap:=h' }:=λ h' o2 kI A0 t2 sb g2 x2 d2 T2 p2=>by
   have p3:=p2.trans perm
   refine h true h' sb ?_
   rw [if_neg DC]
   refine ⟨o2,kI,A0,t2,g2,x2,d2,T2,λ e he=>?_,by rw [aN,<- bT,p3.length_eq,aN,bT,hz]; rfl,?_,λ n=>?_⟩
   ·rcases aK.mp (p3.mem_iff.mp he) with he | he
    ·exact hI e he
    ·exact ⟨k,q,au.mp he⟩
   ·rw [dJ]
    exact ⟨nd,by simp,λ x hx' y hy e=>DC (by rw [<- au.mp hy,<- e]; exact hx')⟩
   ·rw [aK,au,mem n]
    constructor
    ·rintro (⟨c,hc⟩ | e)
     ·exact ⟨c,p3.mem_iff.mpr (gR _ hc)⟩
     ·rw [e]; exact ⟨q,p3.mem_iff.mpr (by simp)⟩
    ·rintro ⟨c,hc⟩
     rcases aK.mp (p3.mem_iff.mp hc) with hc | hc
     ·exact .inl ⟨c,hc⟩
     ·rw [au] at hc
      have:=congrArg Prod.snd hc
      injection this with e1 e2
      exact .inr e1
  split
  ·refine af ?_
   rw [hashByValue_scannable 8 (x:=.int k q) rfl]
   refine aE ?_
   simp only [plainKind,if_true]
   refine uf ho hx hd T1 (by omega) (λ b s₁ Q' hq=>?_) λ h' o2 kI A0 t2 sb g2 x2 d2 T2 p2=>?_
   ·cases b <;> first | exact aE hq | exact wpAny_rule hq
   ·exact aE (fin h' o2 kI A0 t2 sb g2 x2 d2 T2 p2)
  ·refine af (aE ?_)
   simp only [if_true]
   refine uf ho hx hd T1 (by omega) (λ b s₁ Q' hq=>?_) λ h' o2 kI A0 t2 sb g2 x2 d2 T2 p2=>?_
   ·cases b <;> first | exact aE hq | exact wpAny_rule hq
   ·exact aE (fin h' o2 kI A0 t2 sb g2 x2 d2 T2 p2)
def qu(val:Nat->Int):Nat->List Int
 | 0=>[]
 | i + 1=>if val i∈qu val i then qu val i else qu val i++[val i]
theorem ug(val:Nat->Int):∀ i,(qu val i).length <= i
 | 0=>ak _
 | i + 1=>by
  have:=ug val i
  unfold qu
  split
  ·omega
  ·rw [aN,dW]; omega
theorem um(val:Nat->Int):∀ (i:Nat) (n:Int),n∈qu val i ↔ ∃ j,j < i /\ n=val j
 | 0,n=>by simp [qu]
 | i + 1,n=>by
  have ih:=um val i
  unfold qu
  split
  ·rename_i hin
   rw [ih n]
   constructor
   ·rintro ⟨j,hj,e⟩; exact ⟨j,by omega,e⟩
   ·rintro ⟨j,hj,e⟩
    rcases bG j i with hlt | hge
    ·exact ⟨j,hlt,e⟩
    ·have:j=i:=by omega
     subst this
     rw [e]
     exact (ih _).mp hin
  ·rw [aK,au,ih n]
   constructor
   ·rintro (⟨j,hj,e⟩ | e)
    ·exact ⟨j,by omega,e⟩
    ·exact ⟨i,by omega,e⟩
   ·rintro ⟨j,hj,e⟩
    rcases bG j i with hlt | hge
    ·exact .inl ⟨j,hlt,e⟩
    ·have:j=i:=by omega
     subst this
     exact .inr e
theorem DE{R:Result->Shared->Prop}{I:Addr}{fp wr:List Addr}{G:Array GenState->Array GenState->Prop}{n:Nat}{P:Nat->Value->Prop}{St:Nat->Shared->Prop}(W:WalksS prog w A.in1 I fp wr G n P St)(d:Addr)(hd:d ∉ fp)(Sp:Nat->Heap->Prop)
  (at':∀ i h h',Sp i h->(∀ b o,b ∉ wr->h.get? b=some o->h'.get? b=some o)->Sp i h')
  (add:∀ (E':Value->Shared->Prop) i v (s':Shared) (Q:Bool->Shared->Prop),i < n->P i v->Sp i s'.heap->(∀ b h' tk,s'.toks <= tk->Heap.SameBut d s'.heap h'->Sp (i + 1) h'->Q b { s' with heap:=h',toks:=tk })->wpAny (model prog w) A.in1 (setAdd d v) Q E' s'):
  ∀ (m i:Nat) (s:Shared),n - i=m->i <= n->St i s->Sp i s.heap->(∀ s',Moved (d :: wr) G s s'->Sp n s'.heap->R (.ok (.ret .none)) s') ->
   codeAny (model prog w) A (.builtin "set.update.loop" ⟨[.ref d,.ref I],[]⟩) R s:=by
 have hdw:d ∉ wr:=λ h=>hd (W.sub _ h)
 have up:∀ b∈wr,b∈d :: wr:=λ b hb=>cu _ hb
 intro m
 induction m with
 | zero =>
  intro i s em hi st hS hR
  obtain rfl:i=n:=by omega
  refine codeAny_builtin PyProof.Rows.F.entry_set_update_loop ?_
  rw [fh PyProof.Rows.F.plain_set_update_loop]
  refine af (m:=pyNext (.ref I)) (W.done s _ _ st λ s' hm=>?_)
  exact aE (hR s' (hm.mono up) (at' _ _ _ hS λ b o hb e=>hm.heap b o hb e))
 | succ m ih =>
  intro i s em hi st hS hR
  have hlt:i < n:=by omega
  refine codeAny_builtin PyProof.Rows.F.entry_set_update_loop ?_
  rw [fh PyProof.Rows.F.plain_set_update_loop]
  refine af (m:=pyNext (.ref I)) (W.item i s _ _ hlt st λ v s' hP st' hm=>?_)
  have hS':=at' _ _ _ hS λ b o hb e=>hm.heap b o hb e
  refine af (m:=holding [v] (setAdd d v)) (wpAny_holding ?_)
  refine add _ i v s' _ hlt hP hS' λ b h' tk htk sb Yv=>?_
  refine aE ⟨plainId_quiet PyProof.Rows.F.plain_set_update_loop _,ih (i + 1) _ (by omega) hlt (W.frame _ s' _ _ st' htk λ b hb o e=>?_) Yv λ s2 hm2 PM=>?_⟩
  ·rw [sb.2 b (λ z:b=d=>hd (by rw [<- z]; exact hb))]; exact e
  ·refine hR s2 (Moved.trans W.gtrans ((hm.mono up).then_heap htk λ b o hb e=>?_) hm2) PM
   rw [sb.2 b (λ z:b=d=>hb (by rw [z]; exact gq))]; exact e
theorem GO(a:Value)
  (h:Q (.ref s.heap.objs.size) { s with heap:=s.heap.push { cls:=.type "set", dict:=none,data:=.set #[] 0 (.fresh 0 0 (!bH w)) } }):
  codeAny (model prog w) A (.call (.builtin "set.__new__") ⟨[.type "set", a],[]⟩) (wants Q E) s:=by
 refine codeAny_of_tree ?_
 refine af (m:=checkBuiltinCall "set.__new__" ⟨[.type "set", a],[]⟩) (wpAny_of_eq (PySem.F.newCall_set_1 a) (aE ⟨plainId_quiet F.plain_set_new _,codeAny_builtin F.entry_set_new ?_⟩))
 rw [fh F.plain_set_new]
 unfold Builtin.«set.__new__» Builtin.Frozenset.newClass
 have hsub:=sub_set_self
 obtain ⟨hp,g,d,tk,os⟩:=s
 dsimp only
 wp_walk
 refine wpAny_askSetting (aE ?_)
 dsimp only
 simp only [newObj]
 refine af (wpAny_alloc (aE (aE ?_)))
 exact h
theorem qN:Tab led #[] (.fresh 0 0 led):=⟨rfl,rfl,by show List.Pairwise _ []; exact List.Pairwise.nil,rfl⟩
theorem uo{h:Heap}(e:h.get? a=some { cls:=.type "set", dict:=none,data:=.set #[] 0 (.fresh 0 0 led) }):Small led h a [] :=
 ⟨_,#[],0,_,e,⟨rfl,rfl,rfl⟩,rfl,qN,(λ e he=>by simp at he),rfl,iH,λ n=>by simp⟩
set_option maxHeartbeats 3200000 in
theorem set_list{l:Addr}{items:Array Value}(hh:A.handled=none)(hl:s.heap.IsList l items)(Sp:Nat->Heap->Prop)
  (Yw:∀ h',(∀ b o,s.heap.get? b=some o->h'.get? b=some o)->h'.get? s.heap.objs.size=some { cls:=.type "set", dict:=none,data:=.set #[] 0 (.fresh 0 0 (!bH w)) } -> Sp 0 h')
  (at':∀ i h h',Sp i h->(∀ b o,b <= s.heap.objs.size->h.get? b=some o->h'.get? b=some o)->Sp i h')
  (add:∀ (A':Around) (E':Value->Shared->Prop) i v (s':Shared) (Q:Bool->Shared->Prop),A'.handled=none->A'.units <= A.units + 8->items[i]? = some v->Sp i s'.heap->(∀ b h' tk,s'.toks <= tk->Heap.SameBut s.heap.objs.size s'.heap h'->Sp (i + 1) h'->Q b { s' with heap:=h',toks:=tk })->wpAny (model prog w) A' (setAdd s.heap.objs.size v) Q E' s')
  (h:∀ (h':Heap) (tk:Nat),Sp items.size h'->(∀ b o,b < s.heap.objs.size->s.heap.get? b=some o->h'.get? b=some o)->Q (.ref s.heap.objs.size) { s with heap:=h',toks:=tk }):
  wpAny (model prog w) A (call (.type "set") [.ref l]) Q E s:=by
 obtain ⟨c0,t0,m0⟩:=F.called_set.mro
 have m1:=F.called_set.made
 have m2:=F.called_set.sub
 refine wpAny_call (codeAny_of_tree ?_)
 show wpAny _ _ (callAny (.type "set") ⟨[.ref l],[]⟩) _ _ _
 refine aE ⟨Code.quiet_builtin _ (by decide +kernel),(codeAny_builtin F.entry_type_call ?_)⟩
 rw [Around.under_plain (weight_type_call_type "set" [.ref l] []) rfl]
 have m3:=F.called_set.notType
 have m4:=F.called_set.canCreate
 have m5:=PySem.F.typeCall_set_1 (.ref l)
 repeat (any_goals (first | assumption | wp_step))
 refine codeAny_mono (GO (.ref l) (E:=E) (Q:=λ obj z=>obj=.ref s.heap.objs.size /\ z={ s with heap:=s.heap.push { cls:=.type "set", dict:=none,data:=.set #[] 0 (.fresh 0 0 (!bH w)) } }) ⟨rfl,rfl⟩) λ r z hr=>?_
 cases r with
 | error e=>exact hr
 | ok fl =>
  cases fl with
  | ret obj =>
   obtain ⟨rfl,rfl⟩:=hr
   generalize hH:s.heap.push { cls:=.type "set", dict:=none,data:=.set #[] 0 (.fresh 0 0 (!bH w)) }=H1
   have g1:H1.get? s.heap.objs.size=some { cls:=.type "set", dict:=none,data:=.set #[] 0 (.fresh 0 0 (!bH w)) }:=by rw [<- hH]; exact fJ _ rfl
   have k1:∀ b o,s.heap.get? b=some o->H1.get? b=some o:=λ b o e=>by rw [<- hH]; exact bS _ e
   have z1:H1.objs.size=s.heap.objs.size + 1:=by rw [<- hH,cU]
   have ty:Shared.TypeIs { s with heap:=H1 } (.ref s.heap.objs.size) "set" := ⟨_,g1,rfl⟩
   have m6:=F.called_set.init.lookup
   have m7:=F.called_set.init.bind (.ref s.heap.objs.size)
   repeat (any_goals (first | assumption | wp_step))
   refine codeAny_mono (codeAny_call_builtin (R:=wants (λ r z=>r=.none /\ ∃ h' tk,z={ s with heap:=h',toks:=tk } /\ Sp items.size h' /\ ∀ b o,b < s.heap.objs.size->s.heap.get? b=some o->h'.get? b=some o) E)
    F.called_set.init.plain F.entry_set_init (check_set_init_1 ty ?_)) λ r2 s2 hr2=>?_
   ·have hl1:H1.IsList l items:=by
     obtain ⟨ol,e1,e2,n1,e3⟩:=hl
     exact ⟨ol,k1 _ _ e1,e2,n1,e3⟩
    obtain ⟨ol,e1,e2,n1,e3⟩:=hl
    obtain ⟨cc,dd,xx,ss⟩:=ol
    simp only at e2 e3
    subst e2 e3
    have e4:=k1 _ _ e1
    have f1:=PySem.F.sub_list_set
    have f2:=PySem.F.sub_list_frozenset
    have f3:(Value.type "list" == Value.type "dict")=false:=by decide
    unfold Builtin.«set.__init__» noKeywords Builtin.Frozenset.updateFrom
    generalize hp:pyIter=PI
    wp_walk
    subst hp
    refine wpAny_pyIter_list hl1 (af (wpAny_runValue ?_))
    have hlS:l < s.heap.objs.size:=aD e1
    have n2:l ≠ H1.objs.size:=by rw [z1]; exact aO (ja hlS)
    have n3:s.heap.objs.size ∉ [H1.objs.size,l]:=by
     rw [z1]
     intro z
     rcases aB.mp z with z | z
     ·omega
     ·exact absurd (au.mp z) (jb hlS)
    refine DE ((Walks.list (by simp [hh]) _ l n2 items).toS) s.heap.objs.size n3 Sp (λ i h h' q hk=>at' i h h' q λ b o hb e=>hk b o (λ z=>?_) e) (λ E' i v s' Q hi hP Yx hQ=>add _ E' i v s' Q (by simp [hh]) (by simp only [Around.in1]; omega) hP Yx hQ) (items.size - 0) 0 _ (by omega) (aL _) ⟨⟨_,fJ _ rfl,rfl,rfl⟩,(hl1.push _)⟩ (Yw _ (λ b o e=>bS _ (k1 _ _ e)) (bS _ g1)) ?_
    ·rw [au.mp z,z1] at hb
     omega
    intro s3 hm PM
    obtain ⟨h3,g3,d3,t3,o3⟩:=s3
    obtain rfl:g3=s.gens:=hm.gens
    obtain rfl:d3=s.drawn:=hm.drawn
    obtain rfl:o3=s.os:=hm.os
    refine aE (aE ⟨rfl,h3,t3,rfl,PM,λ b o hb e=>?_⟩)
    refine hm.heap b o (λ z=>?_) (bS _ (k1 _ _ e))
    rcases aB.mp z with z | z
    ·exact absurd z (aO hb)
    ·rw [au.mp z,z1] at hb
     omega
   ·cases r2 with
    | error e=>exact hr2
    | ok f2 =>
     cases f2 with
     | ret r =>
      obtain ⟨rfl,h3,t3,rfl,PM,ND⟩:=hr2
      repeat (any_goals (first | assumption | wp_step))
      exact h _ _ PM ND
     | _=>exact hr2.elim
  | _=>exact hr.elim
end
theorem ints_of{l:List Value}(h:∀ v∈l,∃ n k,v=Value.int n k):∃ ns:List Int,IntsAre l ns:=by
 induction l with
 | nil=>exact ⟨[],.nil⟩
 | cons v l ih =>
  obtain ⟨n,k,rfl⟩:=h v (by simp)
  obtain ⟨ns,r⟩:=ih λ u hu=>h u (by simp [hu])
  exact ⟨n :: ns,.cons n k r⟩
theorem GP{l:List Value}(r:IntsAre l ns):∀ n,n∈ns ↔ ∃ k,Value.int n k∈l:=by
 induction r with
 | nil=>intro n; simp
 | @cons m k l ns _ ih =>
  intro n
  rw [aB,ih n]
  constructor
  ·rintro (e | ⟨c,hc⟩)
   ·rw [e]; exact ⟨k,by simp⟩
   ·exact ⟨c,by simp [hc]⟩
  ·rintro ⟨c,hc⟩
   rcases aB.mp hc with e | hc
   ·cases e; exact .inl rfl
   ·exact .inr ⟨c,hc⟩
theorem GQ:typeLookup (.type "set") "__len__" = pure (some (.builtin "set.__len__")):=by rw [typeLookup_type,builtinLookup_eq_fast]; kernel_rfl
section
variable {prog:Program}{w:World}{A:Around}{E:Value->Shared->Prop}{s:Shared}
theorem DF{l:Addr}{items:Array Value}{val:Nat->Int}(hh:A.handled=none)(hl:s.heap.IsList l items)(hv:∀ (i:Nat) (v:Value),items[i]? = some v->∃ t,v=Value.int (val i) t)(hn:items.size <= 4000)
  (h:∀ (h':Heap) (tk:Nat),Small (!bH w) h' s.heap.objs.size (qu val items.size)->(∀ b o,b < s.heap.objs.size->s.heap.get? b=some o->h'.get? b=some o)->Q (.ref s.heap.objs.size) { s with heap:=h',toks:=tk }):
  wpAny (model prog w) A (call (.type "set") [.ref l]) Q E s:=by
 refine set_list hh hl (λ i h=>Small (!bH w) h s.heap.objs.size (qu val i)) (λ h' _ e=>uo e) (λ i h h' q hk=>q.at' λ o e=>hk _ o (ak _) e) (λ A' E' i v s' Q Yy _ hi hS hQ=>?_) h
 obtain ⟨t,rfl⟩:=hv i v hi
 unfold setAdd
 refine wpAny_holding (af ((intKind prog w).pyHash (k:=val i) (intKind_is _ _ _ _) ?_))
 have hl:=ug val i
 have hlt:=(i0.mp hi).1
 refine add_int (s:={ s' with toks:=s'.toks + 1 }) hS (by omega) λ b h' sb FQ=>?_
 exact hQ b h' _ (gT _) sb FQ
set_option maxHeartbeats 2000000 in
theorem mR{o:Obj}{t:SetTable}{Q:List Value->Shared->Prop}(hh:A.handled=none)(ho:s.heap.get? a=some o)(hx:o.ExactSet)(hd:o.data=.set es ep t)(T:Tab (!bH w) es t)(hsz:es.size <= 100000)
  (hQ:∀ (s':Shared) (vs:List Value),(∀ b x,s.heap.get? b=some x->s'.heap.get? b=some x)->s'.gens=s.gens->s'.os=s.os->s.heap.objs.size < s'.heap.objs.size->vs.Perm (es.toList.map (·.2))->Q vs s'):
  wpAny (model prog w) A (collect (.ref a)) Q E s:=by
 unfold collect
 refine af (wpAny_runValue (codeAny_builtin F.entry_proto_collect ?_))
 rw [fh F.plain_proto_collect]
 refine af (m:=newList []) (wpAny_newObj_type (aE ⟨plainId_quiet F.plain_list_iadd _,codeAny_builtin F.entry_list_iadd ?_⟩))
 rw [fh F.plain_list_iadd]
 show wpAny _ A.in1 (Builtin.List.listExtendWith (.ref s.heap.objs.size) (.ref a) (.ref s.heap.objs.size)) _ _ _
 generalize hH:s.heap.push { cls:=.type "list", data:=.seq ([]:List Value).toArray }=H
 have hz:H.objs.size=s.heap.objs.size + 1:=by rw [<- hH,cU]
 have hk:∀ b x,s.heap.get? b=some x->H.get? b=some x:=λ b x e=>by rw [<- hH]; exact bS _ e
 have hN:H.get? s.heap.objs.size=some { cls:=.type "list", data:=.seq ([]:List Value).toArray }:=by rw [<- hH]; exact fJ _ rfl
 have hlt:=aD ho
 unfold Builtin.List.listExtendWith
 refine af (wpAny_typeOf (T := "set") ⟨o,hk _ _ ho,hx.1⟩ ?_)
 have h1:Builtin.List.listSameRef (.ref s.heap.objs.size) (.ref a)=false:=by
  show ((s.heap.objs.size == a):Bool)=false
  exact beq_eq_false_iff_ne.mpr (jb hlt)
 have h2:(Value.type "set" == Value.type "list")=false:=by decide
 have h3:(Value.type "set" == Value.type "tuple")=false:=by decide
 simp only [h1,h2,h3,Bool.or_false,bu,if_false]
 refine af (DB (s:={ s with heap:=H }) (hk _ _ ho) hx hd T hsz λ it H2 d2 fp od St hk2 hit hfp zo W0 st=>af (wpAny_holding ?_))
 have hao:H2.get? a=some o:=hk2 _ _ (hk _ _ ho)
 dsimp only at hk2 hit hfp
 unfold Builtin.List.listLengthHint
 refine af (wpAny_specialOf (T := "set") (v:=.ref a) ⟨o,hao,hx.1⟩ GQ ?_)
 wp_delta
 refine af (wpAny_isInstance (T := "set") (v:=.ref a) (b:=true) ⟨o,hao,hx.1⟩ (by rw [isSubtype_type]; kernel_rfl) ?_)
 refine af (m:=typeOf (.ref a)) (wpAny_typeOf (T := "set") ⟨o,hao,hx.1⟩ (aE ?_))
 rw [if_pos (by decide)]
 have hnf:s.heap.objs.size ∉ fp:=λ hm=>by
  rcases hfp _ hm with e | e
  ·exact absurd e (jb hlt)
  ·rw [hz] at e; exact absurd e (Nat.not_le.mpr (jX _))
 have Yz:od.size <= sizeLine:=by
  have:=zo.length_eq
  rw [bT,bT] at this
  rw [this,sizeLine_eq]
  omega
 have g1:H2.get? s.heap.objs.size=some { cls:=.type "list", data:=.seq ([]:List Value).toArray }:=hk2 _ _ hN
 have g2:=c7 (Obj.mapSeq (·.push Value.none)) g1 rfl
 have g3:=c7 (Obj.mapSeq (·.pop)) g2 rfl
 have W:=(W0 A.in1 (by simp [hh])).toS
 have st':St 0 ((H2.update s.heap.objs.size (Obj.mapSeq (·.push Value.none))).update s.heap.objs.size (Obj.mapSeq (·.pop))) :=
  (W0 A.in1 (by simp [hh])).frame 0 _ _ st λ b hb o e=>by
   have hne:b ≠ s.heap.objs.size:=λ z=>hnf (by rw [<- z]; exact hb)
   rw [dH _ _ _ _ hne,dH _ _ _ _ hne]
   exact e
 refine af (m:=rule "list.extend.makes-room") (wpAny_rule (af (m:=Builtin.List.listTouch (.ref s.heap.objs.size)) ?_))
 refine af (m:=updateSeq s.heap.objs.size (·.push .none)) (wpAny_updateSeq g1 rfl (wpAny_updateSeq g2 rfl ?_))
 refine aE ⟨plainId_quiet F.plain_extend_loop _,codeAny_extend_loopS W Yz _ hnf _ _ 0 _ _ _ rfl (aL _) st' g3 (ItemsOf.nil _) λ s' acc' c' hm hS' hacc=>?_⟩
 refine af (m:=load s.heap.objs.size) (wpAny_load hS' (aE (hQ s' acc'.toList (λ b x e=>hm.heap b x (λ hb=>?_) ?_) hm.gens hm.os (aD hS') ?_)))
 ·have hl:=aD e
  rcases aB.mp hb with z | z
  ·rw [z] at hl; exact absurd hl (cV _)
  ·rw [au.mp z] at hl
   rw [hz] at hit
   exact absurd (bN hl (Nat.le_of_succ_le hit)) (cV _)
 ·have hb:=aO (aD e)
  show ((H2.update s.heap.objs.size _).update s.heap.objs.size _).get? b=some x
  rw [dH _ _ _ _ hb,dH _ _ _ _ hb]
  exact hk2 _ _ (hk _ _ e)
 ·have e:acc'.toList=od.toList.map (·.2):=by
   refine List.ext_getElem? λ i=>?_
   rw [aS]
   simp only [c6]
   rcases bG i acc'.size with hi | hi
   ·obtain ⟨e,he,hv⟩:=hacc.2 i acc'[i] (dD hi)
    rw [dD hi,he,hv]
    rfl
   ·rw [nR hi,nR (by rw [<- hacc.1]; exact hi)]
    rfl
  rw [e]
  exact zo.map _
theorem sorted_ints(hh:A.handled=none)(S:Small (!bH w) s.heap a ns)(hns:ns.length < 64)
  (h:∀ (p:Addr) (h':Heap) (d':Drawn) (tk:Nat) (out:Array Value) (c:Nat) (ns':List Int),s.heap.objs.size <= p->(∀ b x,s.heap.get? b=some x->h'.get? b=some x)->h'.get? p=some { cls:=.type "list", data:=.seq out c } -> IntsAre out.toList ns'->(∀ n,n∈ns' ↔ n∈ns)->ns'.Pairwise (· <= ·)->ns'.length=ns.length->Q (.ref p) { s with heap:=h',drawn:=d',toks:=tk }):
  wpAny (model prog w) A (call (.builtin "sorted") [.ref a]) Q E s:=by
 obtain ⟨o,es,ep,t,ho,hx,hd,T,hI0,hz,nd,mem⟩:=S
 refine rJ kind_sorted plain_sorted entry_sorted (args_sorted1 _) ?_
 unfold Builtin.«sorted»
 refine af (m:=checkCount "sorted" 1 1 _) (aE (af (mR (by simp [hh]) ho hx hd T (by omega) ?_)))
 intro s1 acc k1 g1 o1 xC hp
 obtain ⟨h1,gg,dd,PN,oo⟩:=s1
 dsimp only at k1 g1 o1 xC
 subst g1 o1
 have hal:acc.length=ns.length:=by rw [hp.length_eq,aq,bT,hz]
 have shape:∀ v∈acc,∃ n k,v=Value.int n k:=λ v hv=>by
  obtain ⟨e,he,rfl⟩:=aA.mp (hp.mem_iff.mp hv)
  obtain ⟨n,k,rfl⟩:=hI0 e he
  exact ⟨n,k,rfl⟩
 obtain ⟨ms,hI⟩:=ints_of shape
 have US:∀ n,n∈ms ↔ n∈ns:=λ n=>by
  rw [GP hI n,mem n]
  constructor
  ·rintro ⟨k,hk⟩
   obtain ⟨e,he,ee⟩:=aA.mp (hp.mem_iff.mp hk)
   obtain ⟨n',k',rfl⟩:=hI0 e he
   cases ee
   exact ⟨_,he⟩
  ·rintro ⟨k,hk⟩
   exact ⟨k,hp.mem_iff.mpr (aA.mpr ⟨_,hk,rfl⟩)⟩
 refine af (wpAny_newList ?_ (by rw [hal,sizeLine_eq]; omega))
 have h64:acc.length < 64:=by omega
 have gN:(h1.push (seqObj "list" acc.toArray 0)).get? h1.objs.size=some (seqObj "list" acc.toArray 0):=fJ _ rfl
 refine af (wpAny_holding (wpAny_call_entry slot_list_sort ⟨_,gN,rfl⟩ entry_list_sort (list_sort_tree gN hI h64 λ out ns' a1 a2 a3=>⟨_,rfl,?_⟩) (args_list_sort _)))
 obtain ⟨c,hc⟩:=sortedHeap_at (h:=h1.push (seqObj "list" acc.toArray 0)) (a:=h1.objs.size) (vs:=acc) (n:=0) (out:=out) gN
 have hle:s.heap.objs.size <= h1.objs.size:=gS xC
 refine aE ⟨_,rfl,h h1.objs.size _ dd PN out c ns' hle (λ b x e=>?_) hc a1 (λ n=>(a2.mem_iff).trans (US n)) a3 ?_⟩
 ·have hb:=aD (k1 b x e)
  rw [sortedHeap_old (aO hb) (by rw [size_push']; exact ja hb)]
  exact bS _ (k1 b x e)
 ·rw [a2.length_eq,<- hal]
  exact (IntsAre.length hI).symm
end
end SG
namespace SN
open PySem
theorem sD:∀ {xs ys:List Int},xs.Nodup->(∀ x∈xs,x∈ys)->xs.length <= ys.length
 | [],_,_,_=>aL _
 | x :: xs,ys,h,q=>by
  rw [fz] at h
  have hx:=q x (by simp)
  have:=sD (ys:=ys.erase x) h.2 λ y hy=>(List.mem_erase_of_ne (λ (e:y=x)=>h.1 (by rw [<- e]; exact hy))).mpr (q y (by simp [hy]))
  rw [List.length_erase_of_mem hx] at this
  have hp:=List.length_pos_of_mem hx
  rw [dI]
  omega
theorem Jq:∀ {ms ns:List Int},ns.Nodup->(∀ n∈ns,n∈ms)->ms.length <= ns.length->ms.Nodup
 | [],_,_,_,_=>iH
 | x :: ms,ns,nd,sub,hl=>by
  rw [dI] at hl
  by_cases hx:x∈ns
  ·have ih:=Jq (ms:=ms) (ns:=ns.erase x) (nd.erase x) (λ n hn=>by
    obtain ⟨h1,h2⟩:=(List.Nodup.mem_erase_iff nd).mp hn
    rcases aB.mp (sub n h2) with e | h
    ·exact absurd e h1
    ·exact h) (by rw [List.length_erase_of_mem hx]; omega)
   refine fz.mpr ⟨λ hm=>?_,ih⟩
   have:=sD nd (ys:=ms) λ n hn=>by
    rcases aB.mp (sub n hn) with e | h
    ·rw [e]; exact hm
    ·exact h
   omega
  ·have:=sD nd (ys:=ms) λ n hn=>by
    rcases aB.mp (sub n hn) with e | h
    ·rw [e] at hn; exact absurd hn hx
    ·exact h
   omega
theorem lt_eq:∀ {xs ys:List Int},xs.Pairwise (· < ·)->ys.Pairwise (· < ·)->(∀ n,n∈xs ↔ n∈ys)->xs=ys
 | [],[],_,_,_=>rfl
 | [],y :: ys,_,_,h=>absurd ((h y).mpr (by simp)) (by simp)
 | x :: xs,[],_,_,h=>absurd ((h x).mp (by simp)) (by simp)
 | x :: xs,y :: ys,hx,hy,h=>by
  rw [lQ] at hx hy
  have e:x=y:=by
   rcases aB.mp ((h x).mp (by simp)) with e | h1
   ·exact e
   rcases aB.mp ((h y).mpr (by simp)) with e | h2
   ·exact e.symm
   have a1:=hy.1 x h1
   have a2:=hx.1 y h2
   omega
  subst e
  congr 1
  refine lt_eq hx.2 hy.2 λ n=>⟨λ hn=>?_,λ hn=>?_⟩
  ·rcases aB.mp ((h n).mp (by simp [hn])) with e | h1
   ·have:=hx.1 n hn
    omega
   ·exact h1
  ·rcases aB.mp ((h n).mpr (by simp [hn])) with e | h1
   ·have:=hy.1 n hn
    omega
   ·exact h1
def dF(ns:List Int):List Int:=((List.range 8).filter λ k:Nat=>decide ((k:Int)∈ns)).map λ k:Nat=>(k:Int)
theorem uq(ns:List Int):(dF ns).Pairwise (· < ·):=by
 unfold dF
 rw [jV]
 refine List.Pairwise.imp (λ h=>Int.ofNat_lt.mpr h) (List.Pairwise.sublist (List.filter_sublist) (List.pairwise_lt_range))
theorem jB{ns:List Int}(h:∀ n∈ns,0 <= n /\ n < 8)(n:Int):n∈dF ns ↔ n∈ns:=by
 unfold dF
 simp only [aA,eG,fT,decide_eq_true_eq]
 constructor
 ·rintro ⟨k,⟨_,h2⟩,rfl⟩
  exact h2
 ·intro hn
  obtain ⟨h0,h8⟩:=h n hn
  refine ⟨n.toNat,⟨by omega,?_⟩,by omega⟩
  rw [Int.toNat_of_nonneg h0]
  exact hn
end SN
namespace L2
open PySem PySem.Spec PyProof.Rows
def ur(w:World)(p:Addr)(ns:List Int):Heap->Prop:=λ h=>∃ ms:List Int,SG.Small (!SG.bH w) h p ms /\ ∀ n,n∈ms ↔ n∈ns
theorem oU:∀ {l:List Value} {ns:List Int},IntsAre l ns->Vals (ns.map V.int) l
 | _,_,.nil=>.nil
 | _,_,.cons n t r=>.cons ⟨t,rfl⟩ (oU r)
theorem BT.C0:PySem.bootBuiltins "set" = some (.type "set"):=by decide +kernel
theorem BT.oV:PySem.bootBuiltins "sorted" = some (.builtin "sorted"):=by decide +kernel
section
variable {X:Cx}{σ:St}{H:Hp}{Q:VK}
theorem Inv.Xd{pins:List (Addr × Obj)}{s:Shared}(I:Inv X pins σ H s)(d':Drawn):Inv X pins σ H { s with drawn:=d' } :=
 ⟨I.ok,I.os,I.bare,I.base,I.loc,I.cell,I.free,I.gr,I.pin,I.hok,I.len⟩
def Jr(K:ay)(w:World):List V->Hp->VK->Prop:=λ xs H Q=>∃ (l:Addr) (ns:List Int),xs=[.ref l] /\ bI K H l (ns.map V.int) /\ ns.length <= 4000 /\ ∀ p H',eT H p (.ext (ur w p ns)) H'->Q (.ref p) H'
theorem A1(hc:X.calm=true):cX X (.type "set") (Jr X.K X.w):=by
 intro pins s σ H xs us Q I r h
 obtain ⟨l,ns,rfl,hl,h4,q⟩:=h
 obtain ⟨u,rfl,ru⟩:=vals1 r
 cases ru
 obtain ⟨vs,rv,⟨ol,n0,e1,e2,e3,e4⟩,_⟩:=I.list hl
 have UT:s.heap.IsList l vs.toArray:=⟨ol,e1,e2,n0,e4⟩
 have hsz:vs.toArray.size=ns.length:=by have:=rv.length; rw [aq] at this; rw [aM]; exact this.symm
 have hat:∀ (i:Nat) (n:Int),ns[i]? = some n->ns.getD i 0=n:=λ i n e=>by rw [iR,e]; rfl
 refine SG.DF (val:=λ i=>ns.getD i 0) (I.ok.hd hc) UT (λ i v hv=>?_) (by omega) λ h' tk hS hk=>?_
 ·have hi:i < ns.length:=by have:=(i0.mp hv).1; omega
  have e5:ns[i]? = some ns[i]:=dB hi
  obtain ⟨u,hu,t,rfl⟩:=rv.get (i:=i) (x:=.int ns[i]) (by rw [aS,e5]; rfl)
  rw [i8,hu] at hv
  cases hv
  rw [hat i _ e5]
  exact ⟨t,rfl⟩
 ·refine ⟨.ref s.heap.objs.size,_,I.laid (t':=tk) (λ b o e=>hk b o (aD e) e) (ak _) (o:=.ext (ur X.w s.heap.objs.size ns)) ⟨⟨_,hS,λ n=>?_⟩,?_,λ h1 h2 hp he=>?_⟩,rfl,q _ _ ⟨I.hok.fresh (ak _),rfl⟩⟩
  ·rw [SG.um,hsz]
   constructor
   ·rintro ⟨j,hj,rfl⟩
    have e5:ns[j]? = some ns[j]:=dB hj
    rw [hat j _ e5]
    exact fS hj
   ·intro hn
    obtain ⟨j,hj,e5⟩:=lO.mp hn
    refine ⟨j,hj,?_⟩
    rw [hat j n (by rw [dB hj,e5])]
  ·obtain ⟨o,_,_,_,ho,_⟩:=hS
   exact ⟨o,ho⟩
  ·obtain ⟨ms,hS',hm⟩:=hp
   exact ⟨ms,hS'.at' he,hm⟩
def DG(w:World):List V->Hp->VK->Prop:=λ xs H Q=>∃ (p:Addr) (ns:List Int),xs=[.ref p] /\ H p=some (.ext (ur w p ns)) /\ (∀ ms:List Int,ms.Nodup->(∀ n,n∈ms ↔ n∈ns)->ms.length < 64) /\ ∀ (l:List Int) (q:Addr) (H':Hp),l.Pairwise (· < ·)->(∀ n:Int,n∈l ↔ n∈ns)->eT H q (.lst (l.map V.int)) H'->Q (.ref q) H'
theorem xD(hc:X.calm=true):cX X (.builtin "sorted") (DG X.w):=by
 intro pins s σ H xs us Q I r h
 obtain ⟨p,ns,rfl,hp,hb,q⟩:=h
 obtain ⟨u,rfl,ru⟩:=vals1 r
 cases ru
 obtain ⟨⟨ms,hS,hm⟩,_,_⟩:=I.hok p _ hp
 have nd:ms.Nodup:=by obtain ⟨_,_,_,_,_,_,_,_,_,_,nd,_⟩:=hS; exact nd
 have hml:=hb ms nd hm
 refine SG.sorted_ints (I.ok.hd hc) hS hml λ a h' d' tk out c ns' hle hk ho hI hmem DI hlen=>?_
 have YA:ns'.Nodup:=SN.Jq nd (λ n hn=>(hmem n).mpr hn) (by omega)
 have hlt:ns'.Pairwise (· < ·):=(DI.and YA).imp λ ⟨h1,h2⟩=>by omega
 refine ⟨.ref a,_,(I.Xd d').laid (t':=tk) hk hle (o:=.lst (ns'.map V.int)) ⟨?_,out.toList,c,oU hI,?_⟩,rfl,q ns' _ _ hlt (λ n=>(hmem n).trans (hm n)) ⟨I.hok.fresh hle,rfl⟩⟩
 ·rw [aq,sizeLine_eq]; omega
 ·rw [ho,Array.toArray_toList]
theorem L3{K:ay}{w:World}{l:Addr}{ns:List Int}(hl:bI K H l (ns.map V.int))(hb:∀ n∈ns,0 <= n /\ n < 8)(h4:ns.length <= 4)(h:∀ p H',eT H p (.ext (ur w p ns)) H'->Q (.ref p) H'):Jr K w [.ref l] H Q:=⟨l,ns,rfl,hl,by omega,h⟩
theorem GR{w:World}{p:Addr}{ns:List Int}(hp:H p=some (.ext (ur w p ns)))(hb:∀ n∈ns,0 <= n /\ n < 8)(h:∀ q H',eT H q (.lst ((SN.dF ns).map V.int)) H'->Q (.ref q) H'):DG w [.ref p] H Q:=by
 refine ⟨p,ns,rfl,hp,λ ms nd hm=>?_,λ l q H' hlt hmem n=>?_⟩
 ·have:=SN.sD nd (ys:=[0,1,2,3,4,5,6,7]) λ x hx=>by
   obtain ⟨h0,h8⟩:=hb x ((hm x).mp hx)
   have:x=0 \/ x=1 \/ x=2 \/ x=3 \/ x=4 \/ x=5 \/ x=6 \/ x=7:=by omega
   simpa using this
  simp at this
  omega
 ·have e:l=SN.dF ns:=SN.lt_eq hlt (SN.uq ns) λ n=>(hmem n).trans (SN.jB hb n).symm
  rw [e] at n
  exact h q H' n
end
end L2
namespace SN
open PySem PySem.W PyProof.Rows
variable {n i j ep:Nat}{p:Array Nat}{d:Addr}{es:Array DictEntry}{ps:List (Int × Int)}
structure Pl (n:Nat) (p:Array Nat):Prop where
 sz:p.size=n
 pm:p.toList.Perm (List.range n)
theorem Pl.get(P:Pl n p)(hi:i < n):p.toList[i]? = some (p.getD i 0):=by
 have h:i < p.size:=by rw [P.sz]; exact hi
 rw [c6,dD h]
 simp [Array.getD,h]
theorem Pl.lt{n:Nat}{p:Array Nat}(P:Pl n p){i:Nat}(hi:i < n):p.getD i 0 < n:=fT.mp (P.pm.mem_iff.mp (fm (P.get hi)))
theorem Pl.inj(P:Pl n p)(hi:i < n)(hj:j < n)(e:p.getD i 0=p.getD j 0):i=j:=by
 have nd:p.toList.Nodup:=P.pm.nodup_iff.mpr List.nodup_range
 have h1:=P.get hi
 have h2:=P.get hj
 rw [<- e] at h2
 exact (List.getElem?_inj (e9 h1).1 nd).mp (h1.trans h2.symm)
theorem Pl.of{q:Array Nat}(P:Pl n p)(h:q.Perm p):Pl n q:=⟨by rw [h.size_eq]; exact P.sz,(Array.perm_iff_toList_perm.mp h).trans P.pm⟩
theorem Pl.start(n:Nat):Pl n (List.toArray (List.range n)):=⟨by simp,jS _⟩
def kv(r:Nat->Int)(p:Array Nat)(i:Nat):Int:=r (p.getD i 0)
def Up(r:Nat->Int)(p:Array Nat)(k:Nat):Prop:=∀ i j,i < j->j < k->kv r p i < kv r p j
def Dn(r:Nat->Int)(p:Array Nat)(k:Nat):Prop:=∀ i j,i < j->j < k->kv r p j < kv r p i
theorem zq{r:Nat->Int}{q:Array Nat}(h:p[i]? = q[j]?):kv r p i=kv r q j:=by
 unfold kv
 rw [Array.getD_eq_getD_getElem?,Array.getD_eq_getD_getElem?,h]
section
variable {cmp:Nat->Nat->(Bool->Shared->Prop)->Shared->Prop}{n:Nat}{r:Nat->Int}{s:Shared}{p:Array Nat}
theorem Pl.ne(P:Pl n p)(inj:∀ i j,i < n->j < n->r i=r j->i=j)(hi:i < n)(hj:j < n)(h:i ≠ j):kv r p i ≠ kv r p j:=λ e=>h (P.inj hi hj (inj _ _ (P.lt hi) (P.lt hj) e))
theorem xE(hc:∀ i j,i < n->j < n->∀ C,C (decide (r i < r j)) s->cmp i j C s)(inj:∀ i j,i < n->j < n->r i=r j->i=j)(P:Pl n p){Q:Nat->Shared->Prop}:∀ f k,1 <= k->k + f <= n->Up r p k ->
  (∀ m,k <= m->m <= k + f->Up r p m->(m < k + f->kv r p m < kv r p (m - 1))->Q m s)->(kas_asc p f k).kasWp cmp Q s
 | 0,k,_,_,u,h=>h k (ak _) (ak _) u λ z=>absurd z (cV _)
 | f + 1,k,h1,hn,u,h=>by
  show cmp (p.getD k 0) (p.getD (k - 1) 0) _ s
  refine hc _ _ (P.lt (by omega)) (P.lt (by omega)) _ ?_
  by_cases hl:r (p.getD k 0) < r (p.getD (k - 1) 0)
  ·rw [decide_eq_true hl]
   exact h k (ak _) (by omega) u λ _=>hl
  ·rw [decide_eq_false hl]
   refine xE hc inj P f (k + 1) (by omega) (by omega) (λ i j hij hj=>?_) λ m a b c d=>h m (by omega) (by omega) c λ z=>d (by omega)
   by_cases hk:j < k
   ·exact u i j hij hk
   ·have e:j=k:=by omega
    subst e
    have ne:=P.ne inj (i:=j) (j:=j - 1) (by omega) (by omega) (by omega)
    have lt:kv r p (j - 1) < kv r p j:=by have:¬ kv r p j < kv r p (j - 1):=hl; omega
    by_cases hi:i=j - 1
    ·rw [hi]; exact lt
    ·exact Int.lt_trans (u i (j - 1) (by omega) (by omega)) lt
theorem zu(hc:∀ i j,i < n->j < n->∀ C,C (decide (r i < r j)) s->cmp i j C s)(inj:∀ i j,i < n->j < n->r i=r j->i=j)(P:Pl n p){Q:Array Nat × Nat × Nat->Shared->Prop}:∀ f k,2 <= k->k + f <= n->Dn r p k ->
  (∀ m,k <= m->m <= k + f->Dn r p m->Q (p,m,0) s)->(kas_desc f p k 0).kasWp cmp Q s
 | 0,k,_,_,u,h=>h k (ak _) (ak _) u
 | f + 1,k,h1,hn,u,h=>by
  show cmp (p.getD k 0) (p.getD (k - 1) 0) _ s
  refine hc _ _ (P.lt (by omega)) (P.lt (by omega)) _ ?_
  by_cases hl:r (p.getD k 0) < r (p.getD (k - 1) 0)
  ·rw [decide_eq_true hl]
   refine zu hc inj P f (k + 1) (by omega) (by omega) (λ i j hij hj=>?_) λ m a b c=>h m (by omega) (by omega) c
   by_cases hk:j < k
   ·exact u i j hij hk
   ·have e:j=k:=by omega
    subst e
    have lt:kv r p j < kv r p (j - 1):=hl
    by_cases hi:i=j - 1
    ·rw [hi]; exact lt
    ·exact Int.lt_trans lt (u i (j - 1) (by omega) (by omega))
  ·rw [decide_eq_false hl]
   show cmp (p.getD (k - 1) 0) (p.getD k 0) _ s
   refine hc _ _ (P.lt (by omega)) (P.lt (by omega)) _ ?_
   have ne:=P.ne inj (i:=k) (j:=k - 1) (by omega) (by omega) (by omega)
   have lt:r (p.getD (k - 1) 0) < r (p.getD k 0):=by have:¬ kv r p k < kv r p (k - 1):=hl; unfold kv at ne this; omega
   rw [decide_eq_true lt]
   exact h k (ak _) (by omega) u
theorem L4{m:Nat}(P:Pl n p)(hm:m <= n)(d:Dn r p m):Pl n (kas_rev p 0 m) /\ Up r (kas_rev p 0 m) m:=by
 refine ⟨P.of (mirror_perm _ _ _ _),λ i j hij hj=>?_⟩
 have at_:∀ i,i < m->kv r (kas_rev p 0 m) i=kv r p (m - 1 - i):=λ i hi=>zq (by
  unfold kas_rev
  rw [getElem?_mirror_all (by rw [P.sz]; exact hm),if_pos ⟨aL _,hi⟩]
  congr 1
  omega)
 rw [at_ i (by omega),at_ j hj]
 exact d _ _ (by omega) (by omega)
theorem DJ(hc:∀ i j,i < n->j < n->∀ C,C (decide (r i < r j)) s->cmp i j C s)(inj:∀ i j,i < n->j < n->r i=r j->i=j)(P:Pl n p){m:Nat}(h1:1 <= m)(hm:m <= n)(d:Dn r p m){Q:Nat × Array Nat->Shared->Prop}
  (h:∀ k q,Pl n q->1 <= k->k <= n->Up r q k->Q (k,q) s):(kas_tail3 m n p).kasWp cmp Q s:=by
 obtain ⟨P',u⟩:=L4 P hm d
 unfold kas_tail3
 rw [KasT.kasWp_bind]
 exact xE hc inj P' _ _ h1 (by omega) u λ k a b c _=>h k _ P' (by omega) (by omega) c
theorem DK(hc:∀ i j,i < n->j < n->∀ C,C (decide (r i < r j)) s->cmp i j C s)(inj:∀ i j,i < n->j < n->r i=r j->i=j)(P:Pl n p)(h2:2 <= n){Q:Nat × Array Nat->Shared->Prop}
  (h:∀ k q,Pl n q->1 <= k->k <= n->Up r q k->Q (k,q) s):(kas_count n p).kasWp cmp Q s:=by
 unfold kas_count
 rw [KasT.kasWp_bind]
 refine xE hc inj P _ _ (ak _) (by omega) (λ i j _ _=>by omega) λ m a b c d=>?_
 by_cases e:m=n
 ·rw [if_pos (by simp [e])]
  exact h m p P a (by omega) c
 rw [if_neg (by simp [e])]
 by_cases g:m > 1
 ·rw [if_pos g]
  show cmp (p.getD 0 0) (p.getD (m - 1) 0) _ s
  refine hc _ _ (P.lt (by omega)) (P.lt (by omega)) _ ?_
  rw [decide_eq_true (show r (p.getD 0 0) < r (p.getD (m - 1) 0) from c 0 (m - 1) (by omega) (by omega))]
  exact h m p P a (by omega) c
 ·rw [if_neg g]
  have e1:m=1:=by omega
  subst e1
  unfold kas_descPart
  rw [KasT.kasWp_bind]
  refine zu hc inj P _ _ (ak _) (by omega) (λ i j hij hj=>?_) λ k a' b' d'=>?_
  ·have e0:i=0:=by omega
   have e1:j=1:=by omega
   subst e0 e1
   exact d (by omega)
  ·exact DJ hc inj P (by omega) (by omega) d' h
theorem up_place(hc:∀ i j,i < n->j < n->∀ C,C (decide (r i < r j)) s->cmp i j C s)(inj:∀ i j,i < n->j < n->r i=r j->i=j)(P:Pl n p){k:Nat}(hk:k < n)(u:Up r p k){Q:Nat->Shared->Prop}:∀ f a b,b - a <= f->a <= b->b <= k->(∀ i,i < a->kv r p i < kv r p k)->(∀ i,b <= i->i < k->kv r p k < kv r p i) ->
  (∀ l,l <= k->(∀ i,i < l->kv r p i < kv r p k)->(∀ i,l <= i->i < k->kv r p k < kv r p i)->Q l s)->(kas_place p k f a b).kasWp cmp Q s
 | 0,a,b,hf,hab,hb,lo,hi,h=>by
  have e:a=b:=by omega
  subst e
  exact h a hb lo hi
 | f + 1,a,b,hf,hab,hb,lo,hi,h=>by
  unfold kas_place
  by_cases g:a >= b
  ·rw [if_pos g]
   have e:a=b:=by omega
   subst e
   exact h a hb lo hi
  ·rw [if_neg g]
   show cmp (p.getD k 0) (p.getD ((a + b) / 2) 0) _ s
   refine hc _ _ (P.lt hk) (P.lt (by omega)) _ ?_
   have ne:=P.ne inj (i:=k) (j:=(a + b) / 2) hk (by omega) (by omega)
   by_cases hl:r (p.getD k 0) < r (p.getD ((a + b) / 2) 0)
   ·rw [decide_eq_true hl]
    have hl':kv r p k < kv r p ((a + b) / 2):=hl
    refine up_place hc inj P hk u f a ((a + b) / 2) (by omega) (by omega) (by omega) lo (λ i h1 h2=>?_) h
    by_cases e:i=(a + b) / 2
    ·rw [e]; exact hl'
    ·exact Int.lt_trans hl' (u _ i (by omega) h2)
   ·rw [decide_eq_false hl]
    have hl':kv r p ((a + b) / 2) < kv r p k:=by have:¬ kv r p k < kv r p ((a + b) / 2):=hl; omega
    refine up_place hc inj P hk u f ((a + b) / 2 + 1) b (by omega) (by omega) hb (λ i h1=>?_) hi h
    by_cases e:i=(a + b) / 2
    ·rw [e]; exact hl'
    ·exact Int.lt_trans (u i _ (by omega) (by omega)) hl'
theorem DM(hc:∀ i j,i < n->j < n->∀ C,C (decide (r i < r j)) s->cmp i j C s)(inj:∀ i j,i < n->j < n->r i=r j->i=j){Q:Array Nat->Shared->Prop}(h:∀ q,Pl n q->Up r q n->Q q s):∀ f k (p:Array Nat),Pl n p->k + f=n->Up r p k->(kas_bin f p k).kasWp cmp Q s
 | 0,k,p,P,e,u=>h p P (by rw [<- e]; exact u)
 | f + 1,k,p,P,e,u=>by
  unfold kas_bin
  rw [KasT.kasWp_bind]
  refine up_place hc inj P (k:=k) (by omega) u k 0 k (by omega) (aL _) (ak _) (λ i hi=>absurd hi (Nat.not_lt_zero _)) (λ i h1 h2=>absurd h2 (by omega)) λ l hl lo hi=>?_
  refine DM hc inj h f (k + 1) _ (P.of (bubble_perm _ _ _)) (by omega) λ i j hij hj=>?_
  have at_:∀ i,kv r (bubble p k (k - l)) i=if i=l then kv r p k else if l < i /\ i <= k then kv r p (i - 1) else kv r p i:=λ i=>by
   have g:=getElem?_bubble (xs:=p) (src:=k) (by rw [P.sz]; omega) (k - l) (by omega) i
   rw [show k - (k - l)=l by omega] at g
   split at g
   ·rw [if_pos (by assumption)]; exact zq g
   ·rw [if_neg (by assumption)]
    split at g
    ·rw [if_pos (by assumption)]; exact zq g
    ·rw [if_neg (by assumption)]; exact zq g
  rw [at_ i,at_ j]
  repeat' split
  all_goals first
   | (exfalso; omega)
   | exact lo _ (by omega)
   | exact hi _ (by omega) (by omega)
   | exact u _ _ (by omega) (by omega)
theorem zv(hc:∀ i j,i < n->j < n->∀ C,C (decide (r i < r j)) s->cmp i j C s)(inj:∀ i j,i < n->j < n->r i=r j->i=j)(h2:2 <= n){Q:Array Nat->Shared->Prop}(h:∀ q,Pl n q->Up r q n->Q q s):(kas_sort n).kasWp cmp Q s:=by
 unfold kas_sort
 rw [KasT.kasWp_bind]
 refine DK hc inj (Pl.start n) h2 λ k q P h1 hk u=>?_
 by_cases g:k < n
 ·rw [if_pos g]
  exact DM hc inj h _ _ q P (by omega) (by rw [Nat.max_eq_left h1]; exact u)
 ·rw [if_neg g]
  have e:k=n:=by omega
  exact h q P (by rw [<- e]; exact u)
end
open PySem.Spec
section
variable {prog:Program}{w:World}{A:Around}{E:Value->Shared->Prop}{s:Shared}
def gG(h:Heap)(d:Addr)(es:Array DictEntry)(ep:Nat):Prop:=∃ o,h.get? d=some o /\ o.ExactDict /\ o.data=.dict es ep
theorem gG.at'{h h':Heap}(x:gG h d es ep)(e:∀ o,h.get? d=some o->h'.get? d=some o):gG h' d es ep:=let ⟨o,ho,r⟩:=x; ⟨o,e _ ho,r⟩
theorem gG.ty(x:gG s.heap d es ep):s.TypeIs (.ref d) "dict" := let ⟨o,ho,hx,_⟩:=x; ⟨o,ho,hx.1⟩
theorem uu{Q:Value->Shared->Prop}(hs:(d == sysModules)=false)(x:gG s.heap d es ep)
  (hQ:Q (.ref s.heap.objs.size) { s with heap:=s.heap.push { cls:=.type "dict_keyiterator", data:=.fields #[.ref d,.int 0 0,.int es.size 0,.int ep 0] } }):wpAny (model prog w) A (pyIter (.ref d)) Q E s:=by
 have ty:=x.ty
 obtain ⟨o,ho,_,hd⟩:=x
 refine wpAny_pyIter_slot ty F.slot_dict_iter (wpAny_call_entry F.slot_dict_iter ty F.entry_dict_iter ?_ (F.args_dict_iter_1 _))
 unfold Builtin.«dict.__iter__» Builtin.Dict.dictSlotNone
 refine af (af (wpAny_notOrdered_dict ty (show wpAny _ _ (pure (Value.ref d)) _ _ s from aE ?_)))
 show wpAny _ _ (Builtin.Dict.showsAll d >>= _) _ _ s
 unfold Builtin.Dict.showsAll
 rw [hs,if_neg iD]
 refine af (aE (af (wpAny_dictEntries ho hd (af (wpAny_dictEpoch ho hd (af (wpAny_newObj_type (aE ⟨_,rfl, "dict_keyiterator", _,⟨_,fJ _ rfl,rfl⟩,F.slot_dict_keyiterator_next.lookup,?_⟩))))))))
 simpa [rawInt] using hQ
theorem uv{it:Addr}{e:DictEntry}{Q:Option Value->Shared->Prop}(hit:s.heap.IsKeyIter it d i es.size ep)(x:gG s.heap d es ep)(he:es[i]? = some e)
  (hQ:∀ h',h'.IsKeyIter it d (i + 1) es.size ep->Heap.SameBut it s.heap h'->Q (some e.key) { s with heap:=h' }):wpAny (model prog w) A (pyNext (.ref it)) Q E s:=by
 have ty:=hit.typeIs
 obtain ⟨o,ho,hc,hf⟩:=hit
 obtain ⟨od,hod,_,qi⟩:=x
 unfold pyNext
 refine af (wpAny_attempt (wpAny_callSpecial?_slot (name:=Str.ofString "__next__") ty rK (wpAny_call_entry rK ty F.entry_dict_keyiterator_next ?_ (F.args_dict_keyiterator_next_1 _))))
 refine af (aE (af (af ?_)))
 first | refine af (wpAny_typeNameOfWhole_keyiter ty (aE (af (wpAny_fieldsOf ho hf ?_)))) | refine af (wpAny_typeNameOf_keyiter ty (aE (af (wpAny_fieldsOf ho hf ?_))))
 rw [show Builtin.Dict_items.ownsTuple "dict_keyiterator" = false by decide]
 simp only [bu,if_false]
 show wpAny _ _ (if (Value.ref d == Value.none)=true then _ else _) _ _ s
 rw [if_neg (show ¬ (Value.ref d == Value.none)=true from iD)]
 refine af (aE (af (wpAny_dictEntries hod qi ?_)))
 rw [if_neg (by simp)]
 refine af (aE (af (wpAny_dictEpoch hod qi ?_)))
 rw [if_neg (by simp)]
 refine aE ?_
 simp only [show ¬ ((i:Int) < 0) by omega,if_false,eB,he]
 refine af ?_
 first | refine af (wpAny_typeNameOfWhole_keyiter ty (aE (af (wpAny_isOneOf_keyiter ty ?_)))) | refine af (wpAny_typeNameOf_keyiter ty (aE (af (wpAny_isOneOf_keyiter ty ?_))))
 show wpAny _ _ (setField (.ref it) 1 (rawInt ((i:Int) + 1)) >>= _) _ _ s
 have tX:(s.heap.update it (Obj.mapFields (·.setIfInBounds 1 (rawInt ((i:Int) + 1))))).IsKeyIter it d (i + 1) es.size ep :=
  ⟨_,c7 _ ho (iI (cW hf _)),(jY ..).trans hc,by rw [cW hf]; simp [rawInt]⟩
 refine af (wpAny_setField ho hf (by simp) (af (wpAny_holding ?_)))
 refine af (wpAny_isOneOf_keyiter (s:={ s with heap:=s.heap.update it (Obj.mapFields (·.setIfInBounds 1 (rawInt ((i:Int) + 1)))) }) tX.typeIs (show wpAny _ _ (pure e.key) _ _ _ from ?_))
 exact aE (aE ⟨_,rfl,aE (hQ _ tX (gO ..))⟩)
theorem zw{it:Addr}{Q:Option Value->Shared->Prop}(hh:A.handled=none)(hit:s.heap.IsKeyIter it d es.size es.size ep)(x:gG s.heap d es ep)
  (hQ:∀ h',Heap.ExtBut it s.heap h'->Q none { s with heap:=h' }):wpAny (model prog w) A (pyNext (.ref it)) Q E s:=by
 have ty:=hit.typeIs
 obtain ⟨o,ho,hc,hf⟩:=hit
 obtain ⟨od,hod,_,qi⟩:=x
 unfold pyNext
 refine af (wpAny_attempt (wpAny_callSpecial?_slot (name:=Str.ofString "__next__") ty rK (wpAny_call_entry rK ty F.entry_dict_keyiterator_next ?_ (F.args_dict_keyiterator_next_1 _))))
 refine af (aE (af (af ?_)))
 first | refine af (wpAny_typeNameOfWhole_keyiter ty (aE (af (wpAny_fieldsOf ho hf ?_)))) | refine af (wpAny_typeNameOf_keyiter ty (aE (af (wpAny_fieldsOf ho hf ?_))))
 rw [show Builtin.Dict_items.ownsTuple "dict_keyiterator" = false by decide]
 simp only [bu,if_false]
 show wpAny _ _ (if (Value.ref d == Value.none)=true then _ else _) _ _ s
 rw [if_neg (show ¬ (Value.ref d == Value.none)=true from iD)]
 refine af (aE (af (wpAny_dictEntries hod qi ?_)))
 rw [if_neg (by simp)]
 refine af (aE (af (wpAny_dictEpoch hod qi ?_)))
 rw [if_neg (by simp)]
 refine aE ?_
 simp only [show ¬ ((es.size:Int) < 0) by omega,if_false,eB,nR (ak es.size)]
 refine af ?_
 first | refine af (wpAny_typeNameOfWhole_keyiter ty (aE ?_)) | refine af (wpAny_typeNameOf_keyiter ty (aE ?_))
 show wpAny _ _ (setField (.ref it) 0 .none >>= _) _ _ s
 refine af (wpAny_setField ho hf (by simp) (show wpAny _ _ (newExc (.type "StopIteration") [] >>= _) _ _ _ from af ?_))
 simp only [newExc,newTuple]
 refine af (wpAny_newObj_type ?_ (by size_fits))
 refine af (m:=firstArgMember _ _) (wpAny_of_eq (a:=Value.none) (by first | rfl | (simp only [firstArgMember]; rfl)) (wpAny_newObj_type ?_ (by size_fits)))
 simp only [raiseNew]
 refine af (wpAny_handled ?_)
 rw [show A.in1.handled=none from hh]
 refine af (aE (wpAny_throw (af ?_)))
 refine wpAny_isInstance (T := "StopIteration") (b:=true) ⟨_,fJ _ rfl,rfl⟩ isSubtype_stop ?_
 exact aE (hQ _ (((gO ..).extBut.push _).push _))
theorem A2(hh:A.handled=none)(I d:Addr)(hne:d ≠ I)(es:Array DictEntry)(ep:Nat):Walks prog w A I [I,d] [I] es.size (λ i v=>∃ e,es[i]? = some e /\ v=e.key) (λ i h=>h.IsKeyIter I d i es.size ep /\ gG h d es ep) where
 sub:=λ b hb=>by simp at hb; simp [hb]
 frame:=λ _ _ _ st hk=>⟨st.1.at λ o e=>hk I (by simp) o e,st.2.at' λ o e=>hk d (by simp) o e⟩
 item:=λ i s Q E hi st hQ=>by
  have e1:es[i]? = some es[i]:=dD hi
  refine uv st.1 st.2 e1 λ h' h1 h2=>hQ _ h' s.toks ⟨_,e1,rfl⟩ ⟨h1,st.2.at' λ o e=>h2.extBut d o hne e⟩ λ b o hb e=>h2.extBut b o (λ h=>hb (by simp [h])) e
 done:=λ s Q E st hQ=>zw hh st.1 st.2 λ h' h1=>hQ h' s.toks λ b o hb e=>h1 b o (λ h=>hb (by simp [h])) e
 self:=λ _ _ _ _ st hQ=>wpAny_pyIter_keyiter st.1 hQ
theorem zx(lo:(d == sysModules)=false):KdlSrc prog w "dict" d d es.size (λ i v=>∃ e,es[i]? = some e /\ v=e.key) (λ h=>gG h d es ep) where
 type:=λ _ x=>x.ty
 there:=λ _ x=>⟨let ⟨_,ho,_⟩:=x; aD ho,let ⟨_,ho,_⟩:=x; aD ho⟩
 keep:=λ _ _ x hk=>x.at' λ o e=>hk d (.inl rfl) o e
 notList:=by decide
 notTuple:=by decide
 hint:=λ _ _ _ _ x hq=>kdl_hint_dict x.ty hq
 iter:=λ _ s hh x=>⟨_,_,(λ _ _ hq=>uu lo x hq),A2 hh _ d (let ⟨_,ho,_⟩:=x; aO (aD ho)) es ep,⟨⟨_,fJ _ rfl,rfl,rfl⟩,x.at' λ o e=>bS _ e⟩⟩
theorem DN{ep:Nat}{R:Result->Shared->Prop}(hh:A.handled=none)(lo:(d == sysModules)=false)(x:gG s.heap d es ep)(hz:es.size <= sizeLine)
  (hR:∀ h' tk acc c,(∀ b o,s.heap.get? b=some o->h'.get? b=some o)->h'.get? s.heap.objs.size=some { cls:=.type "list", dict:=none,data:=.seq acc c,slots:=#[] } -> ItemsOf (λ i v=>∃ e,es[i]? = some e /\ v=e.key) acc es.size->R (.ok (.ret (.ref s.heap.objs.size))) { s with heap:=h',toks:=tk }):
  codeAny (model prog w) A (.builtin "proto.collect" ⟨[.ref d],[]⟩) R s:=by
 refine codeAny_builtin F.entry_proto_collect ?_
 rw [fh F.plain_proto_collect]
 have hlt:d < s.heap.objs.size:=let ⟨_,ho,_⟩:=x; aD ho
 refine af (m:=newList []) (wpAny_newObj_type (aE ⟨plainId_quiet F.plain_list_iadd _,codeAny_builtin F.entry_list_iadd ?_⟩))
 rw [fh F.plain_list_iadd]
 show wpAny _ A.in1 (Builtin.List.listExtendWith (.ref s.heap.objs.size) (.ref d) (.ref s.heap.objs.size)) _ _ _
 exact kdl_extend (s:={ s with heap:=s.heap.push { cls:=.type "list", data:=.seq ([]:List Value).toArray } }) (R:=R) (zx lo) hh (x.at' λ o e=>bS _ e) s.heap.objs.size (jb hlt) (jb hlt) _ 0 (fJ _ rfl) (λ h' tk acc c hk hS hacc=>hR h' tk acc c (λ b o e=>hk b o (aO (aD e)) (bS _ e)) hS hacc) hz
theorem uw{ep:Nat}{Q:List Value->Shared->Prop}(hh:A.handled=none)(lo:(d == sysModules)=false)(x:gG s.heap d es ep)(hz:es.size <= sizeLine)
  (hQ:∀ h' tk acc,(∀ b o,s.heap.get? b=some o->h'.get? b=some o)->s.heap.objs.size < h'.objs.size->ItemsOf (λ i v=>∃ e,es[i]? = some e /\ v=e.key) acc es.size->Q acc.toList { s with heap:=h',toks:=tk }):wpAny (model prog w) A (collect (.ref d)) Q E s:=by
 unfold collect
 refine af (wpAny_runValue (DN hh lo x hz λ h' tk acc c hk hS hacc=>?_))
 refine af (m:=load s.heap.objs.size) (wpAny_load hS (aE (hQ h' tk acc hk (aD hS) hacc)))
end
abbrev gz(h:Heap):List Value->List (Int × Int)->Prop:=Paired λ v p=>∃ x o n t u,v=.ref x /\ h.get? x=some o /\ o.cls=.type "tuple" /\ o.data=.seq #[.int p.1 t,.int p.2 u] n
def rk(p:Int × Int):Int:=p.1 * 1000 + p.2
theorem PR{a b c d:Int}(h1:0 <= b /\ b < 1000)(h2:0 <= d /\ d < 1000):decide (rk (a,b) < rk (c,d))=if a=c then decide (b < d) else decide (a < c):=by
 unfold rk
 dsimp only
 split
 ·rw [decide_eq_decide]; omega
 ·rw [decide_eq_decide]; omega
theorem L5{p q:Int × Int}(h1:0 <= p.2 /\ p.2 < 1000)(h2:0 <= q.2 /\ q.2 < 1000)(e:rk p=rk q):p=q:=by
 obtain ⟨a,b⟩:=p
 obtain ⟨c,d⟩:=q
 unfold rk at e
 dsimp only at *
 have e1:a=c:=by omega
 have e2:b=d:=by omega
 rw [e1,e2]
section
variable {prog:Program}{w:World}{A:Around}{E:Value->Shared->Prop}{s:Shared}
theorem GS{x y:Addr}{ox oy:Obj}{n k:Nat}{a b c d:Int}{t1 t2 t3 t4:Tok}{Q:Bool->Shared->Prop}(hx:s.heap.get? x=some ox)(dx:ox.data=.seq #[.int a t1,.int b t2] n)(hy:s.heap.get? y=some oy)(dy:oy.data=.seq #[.int c t3,.int d t4] k)
  (h:Q (if a=c then decide (b < d) else decide (a < c)) s):wpAny (model prog w) A (keyLt' (tuples' true) (.ref x) (.ref y)) Q E s:=by
 refine kat_lt hx dx hy dy (kat_cons (wpAny_eqBool_int ?_))
 by_cases e:a=c
 ·rw [if_pos e] at h
  rw [show (a == c)=true by simpa using e]
  refine kat_yes (kat_cons (wpAny_eqBool_int ?_))
  by_cases e2:b=d
  ·rw [show (b == d)=true by simpa using e2]
   rw [decide_eq_false (by omega)] at h
   exact kat_yes (kat_nil h)
  ·rw [show (b == d)=false by simpa using e2]
   exact kat_no (kat_one _ _ (PyProof.Rows.lt_int h))
 ·rw [if_neg e] at h
  rw [show (a == c)=false by simpa using e]
  exact kat_no (oneLt_int h)
theorem zy{h:Heap}:∀ {vs:List Value} {ps:List (Int × Int)},gz h vs ps->∃ fs:List Value,KatTups h vs fs /\ fs.length=ps.length /\ ∀ v∈fs,∃ i t,v=Value.int i t
 | _,_,.nil=>⟨[],.nil,rfl,λ v hv=>nomatch hv⟩
 | _,_,.cons ⟨x,o,n,t,u,e,h1,h2,h3⟩ r=>by
  obtain ⟨fs,a1,a2,a3⟩:=zy r
  subst e
  refine ⟨_ :: fs,KatTups.cons h1 h2 h3 rfl a1,by simp [a2],λ v hv=>?_⟩
  rcases aB.mp hv with e | hv
  ·exact ⟨_,_,e⟩
  ·exact a3 v hv
theorem xF{h:Heap}:∀ {vs:List Value} {ps:List (Int × Int)} (_:gz h vs ps) {i:Nat} (_:i < ps.length),∃ x o n t u,vs.getD i Value.none=.ref x /\ h.get? x=some o /\ o.data=.seq #[.int (ps.getD i (0,0)).1 t,.int (ps.getD i (0,0)).2 u] n
 | _,_,.cons ⟨x,o,n,t,u,e,h1,h2,h3⟩ r,0,_=>⟨x,o,n,t,u,e,h1,h3⟩
 | _,_,.cons _ r,i + 1,hi=>by
  obtain ⟨x,o,n,t,u,h⟩:=xF r (i:=i) (by simpa using hi)
  exact ⟨x,o,n,t,u,by simpa using h⟩
theorem gz.keep{h h':Heap}{vs:List Value}(x:gz h vs ps)(k:∀ b o,o.cls=.type "tuple" -> h.get? b=some o->h'.get? b=some o):gz h' vs ps:=L2.Paired.Av x λ v p ⟨x,o,n,t,u,e,h1,h2,h3⟩=>⟨x,o,n,t,u,e,k _ _ h2 h1,h2,h3⟩
theorem zA:∀ {vs:List Value},vs.length < 2->(vs.toArray.zip vs.toArray).map (·.2)=List.toArray ((List.toArray (List.range vs.length)).toList.map λ i=>vs.getD i Value.none)
 | [],_=>by simp
 | [v],_=>by simp [List.range_succ]
 | _ :: _ :: _,h=>by simp only [dI] at h; omega
set_option maxHeartbeats 1000000 in
theorem ux{a:Addr}{vs:List Value}{P:PySem.Fin->Shared->Prop}(ho:s.heap.get? a=some (seqObj "list" vs.toArray n))(hP:gz s.heap vs ps)(hb:∀ p∈ps,0 <= p.2 /\ p.2 < 1000)(nd:ps.Nodup)(h64:ps.length < 64)
  (h:∀ q:Array Nat,Pl ps.length q->(∀ i j,i < j->j < ps.length->rk (ps.getD (q.getD i 0) (0,0)) < rk (ps.getD (q.getD j 0) (0,0)))->P (.done (.ret .none)) { s with heap:=sortedHeap s.heap a vs (List.toArray (q.toList.map λ i=>vs.getD i Value.none)) }):
  wpAny (model prog w) A (Builtin.«list.sort» ⟨[.ref a],[]⟩) P E s:=by
 have hlen:vs.length=ps.length:=hP.length
 have ha:a < s.heap.objs.size:=aD ho
 obtain ⟨e1,L6⟩:∃ e1,(s.heap.update a (Obj.mapSeq λ _=>#[])).get? a=some (seqObj "list" #[] e1):=⟨_,get?_update_seq ho (λ _=>#[])⟩
 have kp:∀ b o,b ≠ a->s.heap.get? b=some o->(((s.heap.update a (Obj.mapSeq λ _=>#[])).push (seqObj "tuple" vs.toArray 0)).push (seqObj "list" #[] 0)).get? b=some o:=λ b o hba e=>bS _ (bS _ ((dH _ _ _ _ hba).trans e))
 have ho6:(((s.heap.update a (Obj.mapSeq λ _=>#[])).push (seqObj "tuple" vs.toArray 0)).push (seqObj "list" #[] 0)).get? a=some (seqObj "list" #[] e1):=bS _ (bS _ L6)
 rw [list_sort_plain]
 refine af (listItems_at ho rfl (af (listUpdate_at ho rfl ?_ (by rw [aM,sizeLine_eq]; omega) (aL _))))
 refine af (seqEpoch_at L6 rfl (af (wpAny_newTuple ?_ (by show vs.length <= _; rw [sizeLine_eq]; omega))))
 refine af (wpAny_newList (wpAny_holding ?_) (aL _))
 show wpAny (model prog w) A _ P E { s with heap:=((s.heap.update a (Obj.mapSeq λ _=>#[])).push (seqObj "tuple" vs.toArray 0)).push (seqObj "list" #[] 0) }
 have PG:gz (((s.heap.update a (Obj.mapSeq λ _=>#[])).push (seqObj "tuple" vs.toArray 0)).push (seqObj "list" #[] 0)) vs ps:=hP.keep λ b o hc e=>kp b o (λ z=>by subst z; rw [ho] at e; cases e; exact absurd (show Value.type "list" = .type "tuple" from hc) (by decide)) e
 have uh:∀ out,((((s.heap.update a (Obj.mapSeq λ _=>#[])).push (seqObj "tuple" vs.toArray 0)).push (seqObj "list" #[] 0))).update a (Obj.mapSeq λ _=>out)=sortedHeap s.heap a vs out:=λ _=>rfl
 generalize (((s.heap.update a (Obj.mapSeq λ _=>#[])).push (seqObj "tuple" vs.toArray 0)).push (seqObj "list" #[] 0))=G at *
 dsimp only
 have fin:∀ q:Array Nat,Pl ps.length q->Up (λ i=>rk (ps.getD i (0,0))) q ps.length->P (.done (.ret .none)) { s with heap:=G.update a (Obj.mapSeq λ _=>List.toArray (q.toList.map λ i=>vs.getD i Value.none)) }:=λ q hq u=>by
  rw [uh]
  exact h q hq u
 by_cases h2:vs.toArray.size < 2
 ·rw [if_pos h2,if_pos h2]
  refine af (aE ?_)
  rw [StateT.run_pure]
  refine af (aE (af (seqEpoch_at ho6 rfl (af (listUpdate_at ho6 rfl ?_ (aL _) ?_)))))
  ·simp only [bne_self_eq_false,bu,if_false]
   have:=fin (List.toArray (List.range ps.length)) (Pl.start _) (λ i j hij hj=>by rw [aM] at h2; omega)
   have e:(arrOf (SortSt.mk' general' (vs.toArray.zip vs.toArray) #[] 7 none)).map (·.2)=List.toArray ((List.toArray (List.range ps.length)).toList.map λ i=>vs.getD i Value.none):=by
    rw [<- hlen]
    exact zA (by rw [aM] at h2; exact h2)
   rw [e]
   exact aE this
  ·show ((vs.toArray.zip vs.toArray).map _).size <= _
   rw [Array.size_map,Array.size_zip,aM,sizeLine_eq]
   omega
 ·have h2':2 <= vs.length:=by rw [aM] at h2; omega
  rw [if_neg h2,if_neg h2]
  obtain ⟨fs,k1,k2,k3⟩:=zy PG
  refine af (kat_kind (T:=.type "int") k1 (by omega) (λ v hv=>by obtain ⟨i,t,rfl⟩:=k3 v hv; exact Looks.of_pure rfl) rfl ?_)
  have kd:((Value.type "int") != (Value.type "tuple"))=true:=by decide
  rw [kd]
  refine af (wpAny_mono (kat_run (prog:=prog) (w:=w) (A:=A) (κ:=tuples' true) (vs:=vs) (ks:=vs) (Q:=λ st' s'=>s'={ s with heap:=G } /\ failedOf st'=none /\ ∃ q,Pl ps.length q /\ Up (λ i=>rk (ps.getD i (0,0))) q ps.length /\ (arrOf st').map (·.2)=List.toArray (q.toList.map λ i=>vs.getD i Value.none))
   (G:=λ q s'=>s'={ s with heap:=G } /\ Pl ps.length q /\ Up (λ i=>rk (ps.getD i (0,0))) q ps.length) rfl h2' (by omega) (λ q st' s' _ har hf hg=>⟨hg.1,hf,q,hg.2.1,hg.2.2,kat_snds rfl har⟩) ?_) ?_ λ _ _ e=>e)
  ·rw [hlen]
   refine zv (r:=λ i=>rk (ps.getD i (0,0))) (λ i j hi hj C hC=>?_) (λ i j hi hj e=>?_) (by omega) λ q hq u=>⟨rfl,hq,u⟩
   ·obtain ⟨x,ox,n1,t1,u1,ex,gx,dx⟩:=xF PG hi
    obtain ⟨y,oy,n2,t2,u2,ey,gy,dy⟩:=xF PG hj
    show wpAny (model prog w) A (keyLt' (tuples' true) (vs.getD i Value.none) (vs.getD j Value.none)) C _ _
    rw [ex,ey]
    refine GS (s:={ s with heap:=G }) gx dx gy dy ?_
    have mi:ps.getD i (0,0)∈ps:=by rw [iR,dB hi]; exact fS hi
    have mj:ps.getD j (0,0)∈ps:=by rw [iR,dB hj]; exact fS hj
    rw [<- PR (hb _ mi) (hb _ mj)]
    exact hC
   ·have mi:ps.getD i (0,0)∈ps:=by rw [iR,dB hi]; exact fS hi
    have mj:ps.getD j (0,0)∈ps:=by rw [iR,dB hj]; exact fS hj
    have e2:=L5 (hb _ mi) (hb _ mj) e
    rw [iR,dB hi,iR,dB hj] at e2
    exact (lN nd).mp e2
  ·rintro ⟨⟨⟩,st'⟩ s' ⟨rfl,hf,q,hq,u,eo⟩
   dsimp only
   refine af (seqEpoch_at ho6 rfl (af (listUpdate_at ho6 rfl ?_ (aL _) ?_)))
   ·rw [hf]
    simp only [bne_self_eq_false,bu,if_false]
    rw [eo]
    exact aE (fin q hq u)
   ·rw [eo,aM,aq,bT,hq.sz,sizeLine_eq]
    omega
theorem xH{ep:Nat}{Q:Value->Shared->Prop}(hh:A.handled=none)(lo:(d == sysModules)=false)(x:gG s.heap d es ep)(hP:gz s.heap (es.toList.map (·.key)) ps)(hb:∀ p∈ps,0 <= p.2 /\ p.2 < 1000)(nd:ps.Nodup)(h64:ps.length < 64)
  (h:∀ (p:Addr) (h':Heap) (tk c:Nat) (q:Array Nat),s.heap.objs.size <= p->(∀ b x,s.heap.get? b=some x->h'.get? b=some x)->h'.get? p=some { cls:=.type "list", data:=.seq (List.toArray (q.toList.map λ i=>(es.toList.map (·.key)).getD i Value.none)) c } -> Pl ps.length q->(∀ i j,i < j->j < ps.length->rk (ps.getD (q.getD i 0) (0,0)) < rk (ps.getD (q.getD j 0) (0,0)))->Q (.ref p) { s with heap:=h',toks:=tk }):
  wpAny (model prog w) A (call (.builtin "sorted") [.ref d]) Q E s:=by
 have hes:es.size=ps.length:=by have:=hP.length; rw [aq,bT] at this; exact this
 refine rJ kind_sorted plain_sorted entry_sorted (args_sorted1 _) ?_
 unfold Builtin.«sorted»
 refine af (m:=checkCount "sorted" 1 1 _) (aE (af (uw (by simp [hh]) lo x (by rw [hes,sizeLine_eq]; omega) ?_)))
 intro h1 PN acc k1 xC items
 have L7:acc.toList=es.toList.map (·.key):=by
  apply List.ext_getElem?
  intro i
  rcases bG i es.size with hi | hi
  ·have hi':i < acc.size:=by rw [items.1]; exact hi
   obtain ⟨e,he,ee⟩:=items.2 i acc[i] (dD hi')
   rw [c6,dD hi',aS,c6,he,ee]
   rfl
  ·rw [iF (by rw [bT,items.1]; exact hi),iF (by rw [aq,bT]; exact hi)]
 rw [L7]
 have hvl:(es.toList.map (·.key)).length=ps.length:=hP.length
 have YB:gz h1 (es.toList.map (·.key)) ps:=hP.keep λ b o _ e=>k1 b o e
 generalize es.toList.map (·.key)=vs at *
 refine af (wpAny_newList ?_ (by rw [hvl,sizeLine_eq]; omega))
 have gN:(h1.push (seqObj "list" vs.toArray 0)).get? h1.objs.size=some (seqObj "list" vs.toArray 0):=fJ _ rfl
 refine af (wpAny_holding (wpAny_call_entry slot_list_sort ⟨_,gN,rfl⟩ entry_list_sort (ux gN (YB.keep λ b o _ e=>bS _ e) hb nd h64 λ q hq u=>⟨_,rfl,?_⟩) (args_list_sort _)))
 obtain ⟨c,hc⟩:=sortedHeap_at (h:=h1.push (seqObj "list" vs.toArray 0)) (a:=h1.objs.size) (vs:=vs) (n:=0) (out:=List.toArray (q.toList.map λ i=>vs.getD i Value.none)) gN
 refine aE ⟨_,rfl,h h1.objs.size _ PN c q (gS xC) (λ b x e=>?_) hc hq u⟩
 have hb:=aD (k1 b x e)
 rw [sortedHeap_old (aO hb) (by rw [size_push']; exact ja hb)]
 exact bS _ (k1 b x e)
end
end SN
namespace L2
open PySem PySem.Spec PyProof.Rows
variable {p q:Int × Int}{a b:Addr}{ps:List (Int × Int)}
abbrev jk(H:Hp):List V->List (Int × Int)->Prop:=Paired λ v p=>∃ a,v=.ref a /\ H a=some (.tup [.int p.1,.int p.2])
theorem jl{α β:Type}{F:α->β->Prop}:∀ {l₁:List α} {l₂:List β},Paired F l₁ l₂->∀ {i:Nat} {x:α},l₁[i]? = some x->∃ y,l₂[i]? = some y /\ F x y
 | _,_,.cons (b:=b) h _,0,x,e=>⟨b,rfl,by simp only [List.getElem?_cons_zero,Option.some.injEq] at e; rw [<- e]; exact h⟩
 | _,_,.cons _ t,i + 1,x,e=>by simpa using jl t (i:=i) (x:=x) (by simpa using e)
def qj(p:Int × Int):List Key:=[.inl p.1,.inl p.2]
theorem GU(e:qj p=qj q):p=q:=by
 obtain ⟨a,b⟩:=p
 obtain ⟨c,d⟩:=q
 unfold qj at e
 dsimp only at e
 injection e with e1 e2
 injection e1 with e1
 injection e2 with e2 _
 injection e2 with e2
 rw [e1,e2]
section
variable {X:Cx}{pins:List (Addr × Obj)}{σ:St}{H:Hp}{s:Shared}{Q:VK}
theorem Inv.pair(I:Inv X pins σ H s)(h:H a=some (.tup [.int p.1,.int p.2])):∃ o n t u,s.heap.get? a=some o /\ o.cls=.type "tuple" /\ o.data=.seq #[.int p.1 t,.int p.2 u] n:=by
 obtain ⟨_,its,r,o,h1,h2,n,h3⟩:=(show bU X.prog X.w H s.heap a (.tup [.int p.1,.int p.2]) from I.hok a _ h)
 cases r with
 | cons r1 r =>
  cases r with
  | cons r2 r =>
   cases r
   obtain ⟨t,rfl⟩:=r1
   obtain ⟨u,rfl⟩:=r2
   exact ⟨o,n,t,u,h1,h2,h3⟩
def FT(h:Heap)(p:Int × Int):Value->Bool
 | .ref a=>match h.get? a with
  | some o=>match o.data with
   | .seq its _=>match its.toList with
    | [.int i _,.int j _]=>decide ((i,j)=p)
    | _=>false
   | _=>false
  | none=>false
 | _=>false
theorem DO{h:Heap}{o:Obj}{n:Nat}{t u:Tok}(e:h.get? a=some o)(d:o.data=.seq #[.int p.1 t,.int p.2 u] n):FT h q (.ref a)=decide (p=q):=by
 unfold FT
 dsimp only
 rw [e]
 dsimp only
 rw [d]
theorem A3{A:Around}{oa ob:Obj}{n m:Nat}{t1 t2 u1 u2:Tok}(ea:s.heap.get? a=some oa)(ca:oa.cls=.type "tuple")(da:oa.data=.seq #[.int p.1 t1,.int p.2 t2] n)(eb:s.heap.get? b=some ob)(cb:ob.cls=.type "tuple")(db:ob.data=.seq #[.int q.1 u1,.int q.2 u2] m)(hu:A.units + 1 < cLine):
  SeqAt.EqAt A s (.ref a) (.ref b) (decide (p=q)):=by
 have ra:Reads s.heap (.ref a) (.tuple [.int p.1,.int p.2]) _:=.tuple ea ca da (by simpa using ReadsAll.cons (.int p.1 t1) (.cons (.int p.2 t2) .nil))
 have rb:Reads s.heap (.ref b) (.tuple [.int q.1,.int q.2]) _:=.tuple eb cb db (by simpa using ReadsAll.cons (.int q.1 u1) (.cons (.int q.2 u2) .nil))
 have e:PyData.eqv (.tuple [.int p.1,.int p.2]) (.tuple [.int q.1,.int q.2])=decide (p=q):=by
  obtain ⟨a,b⟩:=p
  obtain ⟨c,d⟩:=q
  show ((a == c) && ((b == d) && true))=_
  by_cases h1:a=c
  ·by_cases h2:b=d
   ·subst h1 h2; simp
   ·simp [h2]
  ·simp [h1]
 rw [<- e]
 exact SeqAt.eqAt_reads _ _ A s _ _ _ _ ra rb rfl rfl hu
theorem sE(I:Inv X pins σ H s)(q:Int × Int):∀ {xs:List V} {ps:List (Int × Int)} {us:List Value},jk H xs ps->Vals xs us->us.any (FT s.heap q)=decide (q∈ps)
 | _,_,_,.nil,.nil=>by simp
 | _,_,_,.cons (b:=p) (l₂:=ps) ⟨a,e,h⟩ r,.cons rv rs=>by
  subst e
  cases rv
  obtain ⟨o,n,t,u,h1,h2,h3⟩:=I.pair h
  rw [gP,DO h1 h3,sE I q r rs]
  by_cases e:p=q
  ·simp [e]
  ·have e':¬ q=p:=λ z=>e z.symm
   simp [e,e']
theorem xJ(I:Inv X pins σ H s){A:Around}(hu:A.units + 1 < cLine){b:Addr}{q:Int × Int}(hb:H b=some (.tup [.int q.1,.int q.2])):∀ {xs:List V} {ps:List (Int × Int)} {us:List Value},jk H xs ps->Vals xs us->∀ u∈us,SeqAt.EqAt A s u (.ref b) (FT s.heap q u)
 | _,_,_,.nil,.nil=>λ u hu=>nomatch hu
 | _,_,_,.cons ⟨a,e,h⟩ r,.cons rv rs=>λ u hm=>by
  rcases aB.mp hm with z | z
  ·subst z e
   cases rv
   obtain ⟨o,n,t,u,h1,h2,h3⟩:=I.pair h
   obtain ⟨o',n',t',u',YC,h2',h3'⟩:=I.pair hb
   rw [DO h1 h3]
   exact A3 h1 h2 h3 YC h2' h3' hu
  ·exact xJ I hu hb r rs u z
def A4(K:ay)(neg:Bool):R2:=λ x y H Q=>∃ (b l:Addr) (q:Int × Int) (xs:List V) (ps:List (Int × Int)),x=.ref b /\ y=.ref l /\ H b=some (.tup [.int q.1,.int q.2]) /\ bI K H l xs /\ jk H xs ps /\ Q (.bl (if neg then !decide (q∈ps) else decide (q∈ps))) H
theorem xK(hu:X.A.units + 64 < cLine):kg X (compareOp .In) (A4 X.K false):=by
 intro pins s σ H x y v u Q I rx ry h
 obtain ⟨b,l,q,xs,ps,rfl,rfl,hb,hl,hp,k⟩:=h
 cases rx
 cases ry
 obtain ⟨its,r,pl,hz⟩:=I.list hl
 refine SeqAt.in_listAt (FT s.heap q) pl.isList (λ w hw=>xJ I (by show X.A.units + 1 + 1 < cLine; omega) hb hp r w (by simpa using hw)) ⟨.bl _,H,I,rfl,?_⟩
 rw [show its.toArray.any (FT s.heap q)=its.any (FT s.heap q) by simp,sE I q hp r]
 exact k
theorem A5(hu:X.A.units + 64 < cLine):kg X (compareOp .NotIn) (A4 X.K true):=by
 intro pins s σ H x y v u Q I rx ry h
 obtain ⟨b,l,q,xs,ps,rfl,rfl,hb,hl,hp,k⟩:=h
 cases rx
 cases ry
 obtain ⟨its,r,pl,hz⟩:=I.list hl
 refine SeqAt.notIn_listAt (FT s.heap q) pl.isList (λ w hw=>xJ I (by show X.A.units + 1 + 1 < cLine; omega) hb hp r w (by simpa using hw)) ⟨.bl _,H,I,rfl,?_⟩
 rw [show its.toArray.any (FT s.heap q)=its.any (FT s.heap q) by simp,sE I q hp r]
 exact k
theorem zB{K:ay}(e:X.K=K)(hu:X.A.units + 64 < cLine):kg X (compareOp .In) (A4 K false):=e ▸ xK hu
theorem xM{K:ay}(e:X.K=K)(hu:X.A.units + 64 < cLine):kg X (compareOp .NotIn) (A4 K true):=e ▸ A5 hu
def DP:List V->Hp->VK->Prop:=λ xs H Q=>∃ (d:Addr) (ps:List (Int × Int)) (f:Int × Int->V),xs=[.ref d] /\ H d=some (.dT (ps.map λ p=>(qj p,f p))) /\ (∀ p∈ps,0 <= p.2 /\ p.2 < 1000) /\ ps.length < 64 /\
 ∀ l us qs H',eT H l (.lst us) H'->jk H us qs->qs.Perm ps->qs.Pairwise (λ p q=>SN.rk p < SN.rk q)->Q (.ref l) H'
theorem range_getD{α:Type}(d:α):∀ xs:List α,(List.range xs.length).map (λ i=>xs.getD i d)=xs:=λ xs=>by
 apply List.ext_getElem?
 intro i
 rw [aS]
 rcases bG i xs.length with h | h
 ·rw [List.getElem?_range h]; simp [h]
 ·rw [iF (by simpa using h),iF h]; rfl
theorem xN(hc:X.calm=true):cX X (.builtin "sorted") DP:=by
 intro pins s σ H xs us Q I r h
 obtain ⟨d,ps,f,rfl,hd,hb,h64,k⟩:=h
 obtain ⟨u,rfl,ru⟩:=vals1 r
 cases ru
 obtain ⟨z,lo,ys,rel,o,es,ep,h1,h2,h3,h4,h5⟩:=(show bU X.prog X.w H s.heap d (.dT (ps.map λ p=>(qj p,f p))) from I.hok d _ hd)
 have hkeys:es.toList.map (·.key)=(ys.map (·.2.1)).map Value.ref:=by
  rw [h4,eF,eF]
  rfl
 have hat:∀ {ps:List (Int × Int)} {ys:List (List Key × Addr × Value)},Paired (λ (p:List Key × V) (q:List Key × Addr × Value)=>p.1=q.1 /\ H q.2.1=some (.tup (p.1.map kV)) /\ RelV p.2 q.2.2) (ps.map λ p=>(qj p,f p)) ys->Paired (λ (a:Addr) (p:Int × Int)=>H a=some (.tup [.int p.1,.int p.2])) (ys.map (·.2.1)) ps /\ ys.map (·.1)=ps.map qj:=by
  intro ps
  induction ps with
  | nil=>intro ys r; cases r; exact ⟨.nil,rfl⟩
  | cons p ps ih =>
   intro ys r
   cases r with
   | cons hq t =>
    obtain ⟨a1,a2⟩:=ih t
    exact ⟨.cons hq.2.1 a1,by rw [bq,bq,a2,<- hq.1]⟩
 obtain ⟨L8,UU⟩:=hat rel
 have nd:ps.Nodup:=by
  rw [UU] at h5
  exact (jV.mp h5).imp λ h e=>h (by rw [e])
 have hP:SN.gz s.heap (es.toList.map (·.key)) ps:=by
  rw [hkeys]
  have go:∀ {as:List Addr} {ps:List (Int × Int)},Paired (λ (a:Addr) (p:Int × Int)=>H a=some (.tup [.int p.1,.int p.2])) as ps->SN.gz s.heap (as.map Value.ref) ps:=by
   intro as ps r
   induction r with
   | nil=>exact .nil
   | cons h _ ih =>
    obtain ⟨o,n,t,u,a1,a2,a3⟩:=I.pair h
    exact .cons ⟨_,o,n,t,u,rfl,a1,a2,a3⟩ ih
  exact go L8
 have uz:=L8.length
 refine SN.xH (I.ok.hd hc) lo ⟨o,h1,h2,h3⟩ hP hb nd h64 λ p h' tk c q hle hk ho hq hup=>?_
 rw [hkeys] at ho
 generalize hA:ys.map (·.2.1)=as at *
 have hget:∀ i,i < ps.length->(as.map Value.ref).getD i Value.none=Value.ref (as.getD i 0) /\ H (as.getD i 0)=some (.tup [.int (ps.getD i (0,0)).1,.int (ps.getD i (0,0)).2]):=λ i hi=>by
  have hi':i < as.length:=by omega
  obtain ⟨b,hb1,hb2⟩:=jl L8 (i:=i) (x:=as[i]) (dB hi')
  simp only [iR,aS,dB hi',hb1,Option.map_some,Option.getD_some]
  exact ⟨trivial,hb2⟩
 have hmem:∀ i∈q.toList,i < ps.length:=λ i hi=>fT.mp (hq.pm.mem_iff.mp hi)
 have PU:∀ {l:List Nat},(∀ i∈l,i < ps.length)->Vals (l.map λ i=>V.ref (as.getD i 0)) (l.map λ i=>(as.map Value.ref).getD i Value.none) /\ jk H (l.map λ i=>V.ref (as.getD i 0)) (l.map λ i=>ps.getD i (0,0)):=by
  intro l
  induction l with
  | nil=>intro _; exact ⟨.nil,.nil⟩
  | cons i l ih =>
   intro hl
   obtain ⟨a1,a2⟩:=ih λ j hj=>hl j (cu _ hj)
   obtain ⟨b1,b2⟩:=hget i (hl i (by simp))
   rw [bq,bq,bq]
   refine ⟨.cons ?_ a1,.cons ⟨_,rfl,b2⟩ a2⟩
   rw [b1]
   rfl
 obtain ⟨v1,v2⟩:=PU hmem
 refine ⟨.ref p,_,I.laid (t':=tk) hk hle (o:=.lst (q.toList.map λ i=>V.ref (as.getD i 0))) ⟨?_,_,c,v1,ho⟩,rfl,k p _ (q.toList.map λ i=>ps.getD i (0,0)) _ ⟨I.hok.fresh hle,rfl⟩ v2 ?_ ?_⟩
 ·rw [aq,bT,hq.sz,sizeLine_eq]; omega
 ·have:=hq.pm.map λ i=>ps.getD i (0,0)
  rw [range_getD] at this
  exact this
 ·rw [jV,i9]
  intro i j hi hj hij
  have YD:q.toList.length=ps.length:=by rw [bT,hq.sz]
  have g1:=hq.get (i:=i) (by omega)
  have g2:=hq.get (i:=j) (by omega)
  rw [dB hi] at g1
  rw [dB hj] at g2
  rw [Option.some.inj g1,Option.some.inj g2]
  exact hup i j hij (by omega)
end
section
variable {K:ay}{nx bk ct:St->Hp->Prop}{rt:VK}{σ:St}{H:Hp}{Q:VK}
theorem zC{l:Addr}{xs:List V}(hb:H b=some (.tup [.int q.1,.int q.2]))(hl:bI K H l xs)(hp:jk H xs ps)(h:Q (.bl (decide (q∈ps))) H):A4 K false (.ref b) (.ref l) H Q:=⟨b,l,q,xs,ps,rfl,rfl,hb,hl,hp,h⟩
theorem DQ{l:Addr}{xs:List V}(hb:H b=some (.tup [.int q.1,.int q.2]))(hl:bI K H l xs)(hp:jk H xs ps)(h:Q (.bl (!decide (q∈ps))) H):A4 K true (.ref b) (.ref l) H Q:=⟨b,l,q,xs,ps,rfl,rfl,hb,hl,hp,h⟩
theorem GV{d:Addr}{f:Int × Int->V}(hd:H d=some (.dT (ps.map λ p=>(qj p,f p))))(hb:∀ p∈ps,0 <= p.2 /\ p.2 < 1000)(h64:ps.length < 64)
  (h:∀ l us qs H',eT H l (.lst us) H'->jk H us qs->qs.Perm ps->qs.Pairwise (λ p q=>SN.rk p < SN.rk q)->Q (.ref l) H'):DP [.ref d] H Q:=⟨d,ps,f,rfl,hd,hb,h64,h⟩
theorem GW(h:∀ p H',eT H p (.dT []) H'->Q (.ref p) H'):CS σ H Q:=λ p hp=>h p _ ⟨hp,rfl⟩
theorem PV{kvs:List (List Key × V)}{k:List Key}{v:V}{R:Hp->Prop}(hd:H a=some (.dT kvs))(hb:H b=some (.tup (k.map kV)))(hz:kvs.length <= 1000000)(h:∀ H',kh H a (.dT (putK kvs k v)) H'->R H'):UO v (.ref a) (.ref b) H R :=
 ⟨a,_,rfl,tQ.t hd hb (by rw [sizeLine_eq]; omega),h _ rfl⟩
theorem Ma{kvs:List (Key × V)}{i:Int}(hd:H a=some (.dK kvs))(h:Q (.bl (!(ie kvs (.inl i)).isSome)) H):Pz (.int i) (.ref a) H Q:=⟨a,_,rfl,.inl ⟨kvs,.inl i,.inl hd,rfl,rfl⟩,h⟩
end
section
variable {X:Cx}{K:ay}{w:World}
end
section
variable {prog:Program}{w:World}{A:Around}{E:Value->Shared->Prop}{s:Shared}
end
section
variable {X:Cx}{tg:Expr}
end
section
variable {K:ay}{nx bk ct:St->Hp->Prop}{rt:VK}{σ:St}{H:Hp}{Q:VK}{te:TE}
end
end L2
namespace HM
open PySem PySem.Spec PyProof.Rows
variable {h h':Heap}{k y:aR}{v:Value}{a x d:Addr}{Q:Bool->Shared->Prop}{n:Nat}{t:SetTable}{led:Bool}
abbrev dw:=Option (Int × Int)
abbrev aR:=Int × Option (Int × Int)
def d8(h:Heap):dw->Value->Prop
 | none,v=>∃ t,v=.str "mark" t
 | some p,v=>∃ a o n t u,v=.ref a /\ h.get? a=some o /\ o.cls=.type "tuple" /\ o.data=.seq #[.int p.1 t,.int p.2 u] n
def bh(h:Heap)(k:aR)(a:Addr):Prop:=∃ o n t v,h.get? a=some o /\ o.cls=.type "tuple" /\ o.data=.seq #[.int k.1 t,v] n /\ d8 h k.2 v
def iW:dw->PyData
 | none=>.str "mark"
 | some p=>.tuple [.int p.1,.int p.2]
def qv(k:aR):PyData:=.tuple [.int k.1,iW k.2]
theorem GX:PyData.strOk "mark" = true:=by decide +kernel
theorem nA(k:dw):(iW k).canLay0=true:=by cases k <;> simp [iW,PyData.canLay0,PyData.canLayAll0,GX]
theorem zD(k:aR):(qv k).canLay0=true:=by simp [qv,PyData.canLay0,PyData.canLayAll0,nA]
theorem l7(k:dw):(iW k).depth <= 1:=by cases k <;> simp [iW,PyData.depth,PyData.depthAll]
theorem A6(k:aR):(qv k).depth <= 2:=by
 have:=l7 k.2
 simp only [qv,PyData.depth,PyData.depthAll]
 omega
theorem DR(p q:Int × Int):PyData.eqv (.tuple [.int p.1,.int p.2]) (.tuple [.int q.1,.int q.2])=decide (p=q):=by
 obtain ⟨a,b⟩:=p
 obtain ⟨c,d⟩:=q
 show ((a == c) && ((b == d) && true))=_
 by_cases h1:a=c
 ·by_cases h2:b=d
  ·subst h1 h2; simp
  ·simp [h2]
 ·simp [h1]
theorem sF(x y:dw):PyData.eqv (iW x) (iW y)=decide (x=y):=by
 cases x with
 | none =>
  cases y with
  | none=>show (("mark" : Str) == "mark")=_; simp
  | some q=>simp [iW,PyData.eqv]
 | some p =>
  cases y with
  | none=>simp [iW,PyData.eqv]
  | some q =>
   show PyData.eqv (.tuple [.int p.1,.int p.2]) (.tuple [.int q.1,.int q.2])=_
   rw [DR]
   by_cases e:p=q
   ·simp [e]
   ·simp [e]
theorem GY(x y:aR):PyData.eqv (qv x) (qv y)=decide (x=y):=by
 obtain ⟨p,a⟩:=x
 obtain ⟨q,b⟩:=y
 show ((p == q) && (PyData.eqv (iW a) (iW b) && true))=_
 rw [sF]
 by_cases h1:p=q
 ·by_cases h2:a=b
  ·subst h1 h2; simp
  ·simp [h2]
 ·simp [h1]
theorem d8.reads{k:dw}(x:d8 h k v):Reads h v (iW k) []:=by
 cases k with
 | none=>obtain ⟨t,rfl⟩:=x; exact .str _ _
 | some p =>
  obtain ⟨a,o,n,t,u,rfl,h1,h2,h3⟩:=x
  exact .tuple h1 h2 h3 (by simpa using ReadsAll.cons (.int p.1 t) (.cons (.int p.2 u) .nil))
theorem bh.reads(x:bh h k a):Reads h (.ref a) (qv k) []:=by
 obtain ⟨o,n,t,v,h1,h2,h3,h4⟩:=x
 exact .tuple h1 h2 h3 (by simpa using ReadsAll.cons (.int k.1 t) (.cons h4.reads .nil))
theorem d8.stay{k:dw}(x:d8 h k v)(e:∀ b o vs n,o.cls=.type "tuple" -> o.data=.seq vs n->h.get? b=some o->h'.get? b=some o):d8 h' k v:=by
 cases k with
 | none=>exact x
 | some p =>
  obtain ⟨a,o,n,t,u,e1,h1,h2,h3⟩:=x
  exact ⟨a,o,n,t,u,e1,e _ _ _ _ h2 h3 h1,h2,h3⟩
theorem bh.stay(x:bh h k a)(e:∀ b o vs n,o.cls=.type "tuple" -> o.data=.seq vs n->h.get? b=some o->h'.get? b=some o):bh h' k a:=by
 obtain ⟨o,n,t,v,h1,h2,h3,h4⟩:=x
 exact ⟨o,n,t,v,e _ _ _ _ h2 h3 h1,h2,h3,h4.stay e⟩
theorem d8.inj{x y:dw}(a:d8 h x v)(b:d8 h y v):x=y:=by
 cases x with
 | none =>
  obtain ⟨t,rfl⟩:=a
  cases y with
  | none=>rfl
  | some q=>obtain ⟨_,_,_,_,_,e,_⟩:=b; cases e
 | some p =>
  obtain ⟨a1,o,n,t,u,rfl,h1,h2,h3⟩:=a
  cases y with
  | none=>obtain ⟨_,e⟩:=b; cases e
  | some q =>
   obtain ⟨a2,o2,n2,t2,u2,e,g1,g2,g3⟩:=b
   cases e
   rw [h1] at g1
   cases g1
   rw [h3] at g3
   have e1:=congrArg Array.toList (Data.seq.inj g3).1
   simp only [List.cons.injEq,Value.int.injEq] at e1
   obtain ⟨⟨e1,_⟩,⟨e2,_⟩,_⟩:=e1
   exact congrArg some (Prod.ext e1 e2)
theorem bh.inj{x:aR}(hx:bh h x a)(hy:bh h y a):x=y:=by
 obtain ⟨o,n,t,v,h1,h2,h3,h4⟩:=hx
 obtain ⟨o2,n2,t2,v2,g1,g2,g3,g4⟩:=hy
 rw [h1] at g1
 cases g1
 rw [h3] at g3
 have e:=Data.seq.inj g3
 have e1:=congrArg Array.toList e.1
 simp only [List.cons.injEq,Value.int.injEq] at e1
 obtain ⟨⟨e1,_⟩,e2,_⟩:=e1
 subst e2
 have:=h4.inj g4
 obtain ⟨p,a⟩:=x
 obtain ⟨q,b⟩:=y
 exact Prod.ext e1 this
section
variable {prog:Program}{w:World}{A:Around}{E:Value->Shared->Prop}{s:Shared}
theorem Mb{x y:dw}{u:Value}(hu:A.units + 1 < cLine)(hx:d8 s.heap x u)(hy:d8 s.heap y v)(h:Q (decide (x=y)) s):wpAny (model prog w) A (eqBool u v) Q E s:=by
 refine SeqAt.eqBoolOverData prog w A E s u v (iW x) (iW y) [] [] Q hx.reads hy.reads (nA x) (nA y) ?_ (by rw [sF]; exact h)
 have:=l7 x
 omega
theorem xO{x:aR}{b:Addr}(hu:A.units + 2 < cLine)(hx:bh s.heap x a)(hy:bh s.heap y b)(h:Q (decide (x=y)) s):wpAny (model prog w) A (eqBool (.ref a) (.ref b)) Q E s:=by
 refine SeqAt.eqBoolOverData prog w A E s _ _ (qv x) (qv y) [] [] Q hx.reads hy.reads (zD x) (zD y) ?_ (by rw [GY]; exact h)
 have:=A6 x
 omega
def kJ(prog:Program)(w:World):dw->Int
 | none=>(strKind prog w).hash "mark"
 | some p=>tupleKeyHash (intKind prog w) [p.1,p.2]
def kK:dw->Nat
 | none=>1
 | some _=>3
def aI(prog:Program)(w:World)(k:aR):Int:=reduceHash (Builtin.Tuple.tupleHashOf [(intKind prog w).hash k.1,kJ prog w k.2])
theorem DS{o:Obj}{p:Int × Int}{t u:Tok}(h1:h.get? a=some o)(h2:o.cls=.type "tuple")(h3:o.data=.seq #[.int p.1 t,.int p.2 u] n):IsTupleKey (intKind prog w) h [p.1,p.2] a :=
 ⟨o,_,n,h1,h2,h3,.cons (intKind_is _ _ _ _) (.cons (intKind_is _ _ _ _) .nil)⟩
theorem DT{k:dw}{Q:Int->Shared->Prop}(hu:A.units < cLine)(hk:d8 s.heap k v)(h:Q (kJ prog w k) { s with toks:=s.toks + kK k }):wpAny (model prog w) A (pyHash v) Q E s:=by
 cases k with
 | none =>
  obtain ⟨t,rfl⟩:=hk
  exact (strKind prog w).pyHash (k := "mark") (strKind_is _ _ _ _) h
 | some p =>
  obtain ⟨a,o,n,t,u,rfl,h1,h2,h3⟩:=hk
  exact wpAny_pyHash_tuple hu (DS h1 h2 h3) h
theorem uA{Q:Int->Shared->Prop}(hu:A.units + 1 < cLine)(hk:bh s.heap k a)(h:Q (aI prog w k) { s with toks:=s.toks + (1 + kK k.2 + 1) }):wpAny (model prog w) A (pyHash (.ref a)) Q E s:=by
 obtain ⟨o,n,t,v,ho,hc,hd,hv⟩:=hk
 have hT:s.TypeIs (.ref a) "tuple" := ⟨o,ho,hc⟩
 unfold pyHash
 first | unfold pyHashByItsType | skip
 first | refine af (wpAny_cRoomFor_or (.inr (by omega)) ?_) | skip
 refine af (wpAny_specialOf hT F.slot_tuple_hash.lookup ?_)
 show wpAny _ _ (if (some (Value.builtin "tuple.__hash__") == some Value.none)=true then _ else _) Q E s
 rw [if_neg (by rw [beq_builtin_none]; exact iD)]
 refine af (wpAny_specialOf hT F.slot_tuple_hash.lookup ?_)
 show wpAny _ _ (callSpecialIfBoundUnlessNone? (.ref a) "__hash__" _ >>= _) Q E s
 refine af (wpAny_callSpecialIfBoundUnlessNone?_slot hT F.slot_tuple_hash (wpAny_call_entry F.slot_tuple_hash hT F.entry_tuple_hash ?_ (F.args_tuple_hash_1 _)))
 show wpAny _ _ (Builtin.Tuple.tupleItemsOf (.ref a) >>= _) _ _ s
 refine af (wpAny_tupleItemsOf ho hd ?_)
 refine af ?_
 rw [<- iZ]
 show wpAny _ _ (forIn [Value.int k.1 t,v] _ _) _ _ _
 rw [gQ]
 refine af (af ((intKind prog w).pyHash (k:=k.1) (intKind_is _ _ _ _) ?_))
 refine af (aE (aE ?_))
 dsimp only
 rw [gQ]
 refine af (af (DT (k:=k.2) (by simp only [Around.in1]; omega) hv ?_))
 refine af (aE (aE ?_))
 dsimp only
 rw [i6]
 refine aE ?_
 show wpAny _ _ (retInt (Builtin.Tuple.tupleHashOf [(intKind prog w).hash k.1,kJ prog w k.2])) _ _ _
 refine wpAny_ret_mkInt ?_
 show wpAny _ _ (if (decide (-(2:Int) ^ 63 <= Builtin.Tuple.tupleHashOf [(intKind prog w).hash k.1,kJ prog w k.2]) && decide (Builtin.Tuple.tupleHashOf [(intKind prog w).hash k.1,kJ prog w k.2] < 2 ^ 63))=true then _ else _) Q E _
 unfold aI reduceHash at h
 split
 ·rename_i hr
  rw [if_pos hr] at h
  exact aE (by simpa [Nat.add_assoc] using h)
 ·rename_i hr
  rw [if_neg hr] at h
  exact af (wpAny_rule (aE (by simpa [Nat.add_assoc] using h)))
theorem A7{k:dw}(hk:d8 s.heap k v)(h:Q true s):wpAny (model prog w) A (eqIsQuiet (n + 1) v) Q E s:=by
 cases k with
 | none =>
  obtain ⟨t,rfl⟩:=hk
  rw [eqIsQuiet_byValue _ rfl]
  exact aE h
 | some p =>
  obtain ⟨a,o,m,t,u,rfl,h1,h2,h3⟩:=hk
  have hT:s.TypeIs (.ref a) "tuple" := ⟨o,h1,h2⟩
  unfold eqIsQuiet
  refine af (wpAny_specialOf hT F.slot_tuple_eq.lookup ?_)
  show wpAny _ _ (isInstance (.ref a) (.type "tuple") >>= _) _ _ s
  refine af (wpAny_isInstance hT isSubtype_tuple_tuple ?_)
  simp only [dU,bu,if_false]
  refine af (wpAny_seqItems h1 h3 ?_)
  refine af ?_
  show wpAny _ _ (forIn #[Value.int p.1 t,Value.int p.2 u] _ _) _ _ s
  rw [<- iZ]
  refine wpAny_forIn_list _ (λ rest r s'=>r.1=none /\ s'=s /\ ∀ v∈rest,carriedByValue v=true) _ ?_ ?_ _ _ ⟨rfl,rfl,λ v hv=>by simp at hv; rcases hv with e | e <;> rw [e] <;> rfl⟩
  ·rintro v rest r s' ⟨hr,rfl,hall⟩
   rw [eqIsQuiet_byValue _ (hall v gq)]
   refine af (aE ?_)
   simp only [dU,bu,if_false]
   exact aE ⟨rfl,rfl,λ u zE=>hall u (cu _ zE)⟩
  ·rintro ⟨r1,r2⟩ s' ⟨hr,rfl,_⟩
   simp only at hr
   subst hr
   exact aE h
theorem l8(hk:bh s.heap k a)(h:Q true s):wpAny (model prog w) A (eqIsQuiet 8 (.ref a)) Q E s:=by
 obtain ⟨o,n,t,v,ho,hc,hd,hv⟩:=hk
 have hT:s.TypeIs (.ref a) "tuple" := ⟨o,ho,hc⟩
 unfold eqIsQuiet
 refine af (wpAny_specialOf hT F.slot_tuple_eq.lookup ?_)
 show wpAny _ _ (isInstance (.ref a) (.type "tuple") >>= _) _ _ s
 refine af (wpAny_isInstance hT isSubtype_tuple_tuple ?_)
 simp only [dU,bu,if_false]
 refine af (wpAny_seqItems ho hd ?_)
 refine af ?_
 show wpAny _ _ (forIn #[Value.int k.1 t,v] _ _) _ _ s
 rw [<- iZ]
 refine wpAny_forIn_list _ (λ rest r s'=>r.1=none /\ s'=s /\ ∀ u∈rest,(∃ i t,u=Value.int i t) \/ d8 s.heap k.2 u) _ ?_ ?_ _ _ ⟨rfl,rfl,λ u hu=>by simp at hu; rcases hu with e | e; exact .inl ⟨_,_,e⟩; exact .inr (e ▸ hv)⟩
 ·rintro u rest r s' ⟨hr,rfl,hall⟩
  refine af ?_
  have go:wpAny (model prog w) A (eqIsQuiet 7 u) (λ b s2=>b=true /\ s2=s') E s':=by
   rcases hall u gq with ⟨i,t,rfl⟩ | hu
   ·rw [eqIsQuiet_byValue _ rfl]
    exact aE ⟨rfl,rfl⟩
   ·exact A7 (n:=6) hu ⟨rfl,rfl⟩
  refine wpAny_mono go (λ b s2=>?_) λ _ _ x=>x
  rintro ⟨rfl,rfl⟩
  simp only [dU,bu,if_false]
  exact aE ⟨rfl,rfl,λ u zE=>hall u (cu _ zE)⟩
 ·rintro ⟨r1,r2⟩ s' ⟨hr,rfl,_⟩
  simp only at hr
  subst hr
  exact aE h
end
def cF(prog:Program)(w:World):HeapKind prog w aR where
 is:=bh
 hash:=aI prog w
 draws:=λ k=>1 + kK k.2 + 1
 room:=λ A=>A.units + 2 < cLine
 inj:=λ hx hy=>hx.inj hy
 keeps:=λ x ho hd hs=>x.stay λ b u vs n hc hs2 e=>by
  rw [hs.2 b (λ z=>by subst z; rw [ho] at e; cases e; rw [hd] at hs2; cases hs2)]
  exact e
 pyHash:=λ hu hk h=>uA (by omega) hk h
 eqBool:=λ hu hx hy h=>xO hu hx hy h
 quiet:=λ hk h=>l8 hk h
def sq(x:Int):Nat->Nat × Nat
 | 0=>(SetTable.bits x % 8,SetTable.bits x)
 | n + 1=>(((sq x n).1 * 5 + 1 + (sq x n).2 / 32) % 8,(sq x n).2 / 32)
theorem Js(x:Int):∀ n,(sq x n).1 < 8
 | 0=>Nat.mod_lt _ (by decide)
 | n + 1=>Nat.mod_lt _ (by decide)
theorem uB(x:Int):∀ n,(sq x n).2 * 32 ^ n < 2 ^ 64
 | 0=>by
  show SetTable.bits x * 1 < _
  unfold SetTable.bits
  omega
 | n + 1=>by
  have ih:=uB x n
  show (sq x n).2 / 32 * 32 ^ (n + 1) < _
  have h:(sq x n).2 / 32 * 32 <= (sq x n).2:=Nat.div_mul_le_self _ _
  have h2:(sq x n).2 / 32 * 32 ^ (n + 1)=((sq x n).2 / 32 * 32) * 32 ^ n:=by rw [Nat.pow_succ,Nat.mul_assoc,Nat.mul_comm (32 ^ n) 32]
  rw [h2]
  exact Nat.lt_of_le_of_lt (Nat.mul_le_mul_right _ h) ih
theorem GZ(x:Int)(n:Nat)(h:13 <= n):(sq x n).2=0:=by
 have h1:=uB x n
 rcases Nat.eq_zero_or_pos (sq x n).2 with e | hp
 ·exact e
 ·have h2:32 ^ 13 <= 32 ^ n:=Nat.pow_le_pow_right (by decide) h
  have h3:1 * 32 ^ n <= (sq x n).2 * 32 ^ n:=Nat.mul_le_mul_right _ hp
  have h4:(32:Nat) ^ 13=2 ^ 65:=by decide
  omega
theorem iN(x:Int)(n:Nat)(h:13 <= n):(sq x (n + 1)).1=((sq x n).1 * 5 + 1) % 8:=by
 show ((sq x n).1 * 5 + 1 + (sq x n).2 / 32) % 8=_
 rw [GZ x n h]
theorem Mc(x:Int)(j:Nat)(hj:j < 8):∃ n,n <= 20 /\ (sq x n).1=j:=by
 have h0:=Js x 13
 have e1:=iN x 13 (by decide)
 have e2:=iN x 14 (by decide)
 have e3:=iN x 15 (by decide)
 have e4:=iN x 16 (by decide)
 have e5:=iN x 17 (by decide)
 have e6:=iN x 18 (by decide)
 have e7:=iN x 19 (by decide)
 have YE:∀ (a j:Fin 8),j.val=a.val \/ j.val=(a.val * 5 + 1) % 8 \/ j.val=((a.val * 5 + 1) % 8 * 5 + 1) % 8 \/ j.val=(((a.val * 5 + 1) % 8 * 5 + 1) % 8 * 5 + 1) % 8 \/ j.val=((((a.val * 5 + 1) % 8 * 5 + 1) % 8 * 5 + 1) % 8 * 5 + 1) % 8 \/
   j.val=(((((a.val * 5 + 1) % 8 * 5 + 1) % 8 * 5 + 1) % 8 * 5 + 1) % 8 * 5 + 1) % 8 \/ j.val=((((((a.val * 5 + 1) % 8 * 5 + 1) % 8 * 5 + 1) % 8 * 5 + 1) % 8 * 5 + 1) % 8 * 5 + 1) % 8 \/ j.val=(((((((a.val * 5 + 1) % 8 * 5 + 1) % 8 * 5 + 1) % 8 * 5 + 1) % 8 * 5 + 1) % 8 * 5 + 1) % 8 * 5 + 1) % 8:=by decide
 have:=YE ⟨(sq x 13).1,h0⟩ ⟨j,hj⟩
 dsimp only at this
 rw [<- e1,<- e2,<- e3,<- e4,<- e5,<- e6,<- e7] at this
 rcases this with e | e | e | e | e | e | e | e
 ·exact ⟨13,by decide,e.symm⟩
 ·exact ⟨14,by decide,e.symm⟩
 ·exact ⟨15,by decide,e.symm⟩
 ·exact ⟨16,by decide,e.symm⟩
 ·exact ⟨17,by decide,e.symm⟩
 ·exact ⟨18,by decide,e.symm⟩
 ·exact ⟨19,by decide,e.symm⟩
 ·exact ⟨20,by decide,e.symm⟩
def A8(x:Int)(n:Nat):SetTable.Probe:={ j:=(sq x n).1,more:=0,i:=(sq x n).1,perturb:=(sq x n).2,dummy:=none }
theorem A9(h:t.mask=7)(x:Int):t.probeStart x=A8 x 0:=by
 unfold SetTable.probeStart A8 sq
 rw [h]
 have hl:SetTable.bits x % 8 < 8:=Nat.mod_lt _ (by decide)
 have e:SetTable.runEnd 7 (SetTable.bits x % 8) - SetTable.bits x % 8=0:=by
  unfold SetTable.runEnd
  rw [if_neg (by omega)]
  omega
 show SetTable.Probe.mk _ _ _ _ _=_
 rw [show (7:Nat) + 1=8 from rfl,e]
theorem uC(h:t.mask=7)(x:Int)(n:Nat):t.advance (A8 x n)=A8 x (n + 1):=by
 unfold SetTable.advance
 rw [if_neg (by show ¬ 0 > 0; omega)]
 unfold SetTable.leap
 rw [h]
 dsimp only
 have hl:=Js x (n + 1)
 have e1:((A8 x n).i * 5 + 1 + (A8 x n).perturb / 32) % (7 + 1)=(sq x (n + 1)).1:=rfl
 have e2:(A8 x n).perturb / 32=(sq x (n + 1)).2:=rfl
 rw [e1,e2]
 have e:SetTable.runEnd 7 (sq x (n + 1)).1 - (sq x (n + 1)).1=0:=by
  unfold SetTable.runEnd
  rw [if_neg (by omega)]
  omega
 rw [e]
 rfl
theorem kL(hs:t.place.toList.Pairwise (· < ·))(hd:t.dummies=#[])(j:Nat):(t.slot j=.empty /\ ∀ i:Nat,t.place[i]? ≠ some j) \/ ∃ i,t.slot j=.live i /\ t.place[i]? = some j:=by
 cases e:t.slot j with
 | empty=>exact .inl ⟨rfl,λ i hi=>SG.j4 hs e i j hi rfl⟩
 | dummy =>
  exfalso
  unfold SetTable.slot at e
  dsimp only at e
  rw [SG.kG hd] at e
  split at e <;> cases e
 | live i =>
  refine .inr ⟨i,rfl,?_⟩
  unfold SetTable.slot at e
  dsimp only at e
  split at e
  ·rename_i h
   cases e
   simpa using h
  ·split at e <;> cases e
theorem qO(hs:t.place.toList.Pairwise (· < ·))(hd:t.dummies=#[]){i j:Nat}(h:t.place[i]? = some j):t.slot j=.live i:=by
 rcases kL hs hd j with ⟨_,e⟩ | ⟨k,e1,e2⟩
 ·exact absurd h (e i)
 ·have:k=i:=by
   rw [<- c6] at h e2
   obtain ⟨a1,b1⟩:=e9 h
   obtain ⟨a2,b2⟩:=e9 e2
   rcases Nat.lt_trichotomy k i with hl | he | hg
   ·have:=i9.mp hs k i a2 a1 hl
    omega
   ·exact he
   ·have:=i9.mp hs i k a1 a2 hg
    omega
  rw [e1,this]
theorem DU(hm:t.mask=7)(hd:t.dummies=#[])(hs:t.place.toList.Pairwise (· < ·))(f:Nat->Int)(x:Int):∀ (fuel n m:Nat),n <= m->m < n + fuel->t.slot (sq x m).1=.empty->(∀ k,n <= k->k < m->t.slot (sq x k).1 ≠ .empty) ->
  (∃ k i,n <= k /\ k < m /\ t.slot (sq x k).1=.live i /\ f i=x /\ (∀ k' i',n <= k'->k' < k->t.slot (sq x k').1=.live i'->f i' ≠ x) /\ SetTable.probe.go t f x fuel (A8 x n)=some (.candidate (sq x k).1 i (A8 x (k + 1)))) \/
  ((∀ k i,n <= k->k < m->t.slot (sq x k).1=.live i->f i ≠ x) /\ SetTable.probe.go t f x fuel (A8 x n)=some (.empty (sq x m).1 none)):=by
 intro fuel
 induction fuel with
 | zero=>intro n m h1 h2; omega
 | succ fuel ih =>
  intro n m h1 h2 he hne
  unfold SetTable.probe.go
  rcases kL hs hd (sq x n).1 with ⟨e,_⟩ | ⟨i,e,_⟩
  ·have:n=m:=by
    rcases bG n m with hl | hg
    ·exact absurd e (hne n (ak _) hl)
    ·omega
   subst this
   rw [show t.slot (A8 x n).j=.empty from e]
   exact .inr ⟨λ k i a b=>by omega,rfl⟩
  ·have hnm:n < m:=by
    rcases bG n m with hl | hg
    ·exact hl
    ·have:n=m:=by omega
     subst this
     rw [e] at he
     cases he
   rw [show t.slot (A8 x n).j=.live i from e]
   dsimp only
   by_cases hx:f i=x
   ·rw [if_pos (by simpa using hx),uC hm]
    exact .inl ⟨n,i,ak _,hnm,e,hx,(λ k' i' a b=>by omega),rfl⟩
   ·rw [if_neg (by simpa using hx),uC hm]
    rcases ih (n + 1) m (by omega) (by omega) he (λ k a b=>hne k (by omega) b) with ⟨k,i',a,b,c,d,d2,g⟩ | ⟨a,g⟩
    ·refine .inl ⟨k,i',by omega,b,c,d,λ k' i2 h3 h4 h5=>?_,g⟩
     rcases Nat.eq_or_lt_of_le h3 with e2 | h3
     ·subst e2
      rw [e] at h5
      cases h5
      exact hx
     ·exact d2 k' i2 h3 h4 h5
    ·refine .inr ⟨λ k i' h3 h4 h5=>?_,g⟩
     rcases Nat.eq_or_lt_of_le h3 with e2 | h3
     ·subst e2
      rw [e] at h5
      cases h5
      exact hx
     ·exact a k i' h3 h4 h5
theorem uD(hd:t.dummies=#[])(hs:t.place.toList.Pairwise (· < ·))(hf:t.place.size < 8)(x:Int):∃ m,m <= 20 /\ t.slot (sq x m).1=.empty /\ ∀ k,k < m->t.slot (sq x k).1 ≠ .empty:=by
 have hex:∃ m,m <= 20 /\ t.slot (sq x m).1=.empty:=by
  obtain ⟨j,hj,hfree⟩:∃ j,j < 8 /\ ∀ i:Nat,t.place[i]? ≠ some j:=by
   by_cases h:∃ j,j < 8 /\ j ∉ t.place.toList
   ·obtain ⟨j,hj,hn⟩:=h
    exact ⟨j,hj,λ i hi=>hn (by rw [<- c6] at hi; exact fm hi)⟩
   ·exfalso
    have sub:∀ j∈List.range 8,j∈t.place.toList:=λ j hj=>nV λ hn=>h ⟨j,fT.mp hj,hn⟩
    have:=List.Nodup.length_le_of_subset List.nodup_range sub
    rw [List.length_range,bT] at this
    omega
  obtain ⟨n,hn,e⟩:=Mc x j hj
  refine ⟨n,hn,?_⟩
  rcases kL hs hd (sq x n).1 with ⟨h,_⟩ | ⟨i,_,h⟩
  ·exact h
  ·rw [e] at h
   exact absurd h (hfree i)
 obtain ⟨m,hm⟩:=hex
 have:∀ n,n <= 20->t.slot (sq x n).1=.empty->∃ m,m <= 20 /\ t.slot (sq x m).1=.empty /\ ∀ k,k < m->t.slot (sq x k).1 ≠ .empty:=by
  intro n
  induction n using Nat.strongRecOn with
  | ind n ih =>
   intro h1 h2
   by_cases h:∃ k,k < n /\ t.slot (sq x k).1=.empty
   ·obtain ⟨k,hk,e⟩:=h
    exact ih k hk (by omega) e
   ·exact ⟨n,h1,h2,λ k hk e=>h ⟨k,hk,e⟩⟩
 exact this m hm.1 hm.2
section
variable {prog:Program}{w:World}{A:Around}{E:Value->Shared->Prop}{s:Shared}
theorem xP{k:dw}(hk:d8 s.heap k v)(h:Q false s):wpAny (model prog w) A (ofAClassStatement (n + 1) v) Q E s:=by
 cases k with
 | none =>
  obtain ⟨t,rfl⟩:=hk
  exact wpAny_of_eq (a:=false) rfl h
 | some p =>
  obtain ⟨a,o,m,t,u,rfl,h1,h2,h3⟩:=hk
  have hT:s.TypeIs (.ref a) "tuple" := ⟨o,h1,h2⟩
  unfold ofAClassStatement
  refine af (wpAny_typeOf hT ?_)
  dsimp only
  refine af (wpAny_of_eq (a:=true) rfl ?_)
  simp only [dU,bu,if_false]
  refine af (wpAny_seqItems h1 h3 ?_)
  dsimp only
  refine af ?_
  rw [<- iZ]
  refine wpAny_forIn_list _ (λ rest r s'=>r.1=none /\ s'=s /\ ∀ v∈rest,∃ i t,v=Value.int i t) _ ?_ ?_ _ _ ⟨rfl,rfl,λ v hv=>by simp at hv; rcases hv with e | e <;> exact ⟨_,_,e⟩⟩
  ·rintro v rest r s' ⟨hr,rfl,hall⟩
   obtain ⟨i,t,rfl⟩:=hall v gq
   refine af (wpAny_of_eq (a:=false) (by first | rfl | (unfold ofAClassStatement; rfl)) ?_)
   simp only [bu,if_false]
   exact aE ⟨rfl,rfl,λ u zE=>hall u (cu _ zE)⟩
  ·rintro ⟨r1,r2⟩ s' ⟨hr,rfl,_⟩
   simp only at hr
   subst hr
   exact aE h
theorem oW(hk:bh s.heap k a)(h:Q false s):wpAny (model prog w) A (ofAClassStatement 8 (.ref a)) Q E s:=by
 obtain ⟨o,n,t,v,ho,hc,hd,hv⟩:=hk
 have hT:s.TypeIs (.ref a) "tuple" := ⟨o,ho,hc⟩
 unfold ofAClassStatement
 refine af (wpAny_typeOf hT ?_)
 dsimp only
 refine af (wpAny_of_eq (a:=true) rfl ?_)
 simp only [dU,bu,if_false]
 refine af (wpAny_seqItems ho hd ?_)
 dsimp only
 refine af ?_
 rw [<- iZ]
 refine wpAny_forIn_list _ (λ rest r s'=>r.1=none /\ s'=s /\ ∀ u∈rest,(∃ i t,u=Value.int i t) \/ d8 s.heap k.2 u) _ ?_ ?_ _ _ ⟨rfl,rfl,λ u hu=>by simp at hu; rcases hu with e | e; exact .inl ⟨_,_,e⟩; exact .inr (e ▸ hv)⟩
 ·rintro u rest r s' ⟨hr,rfl,hall⟩
  refine af ?_
  have go:wpAny (model prog w) A (ofAClassStatement 7 u) (λ b s2=>b=false /\ s2=s') E s':=by
   rcases hall u gq with ⟨i,t,rfl⟩ | hu
   ·exact wpAny_of_eq (a:=false) (by first | rfl | (unfold ofAClassStatement; rfl)) ⟨rfl,rfl⟩
   ·exact xP (n:=6) hu ⟨rfl,rfl⟩
  refine wpAny_mono go (λ b s2=>?_) λ _ _ x=>x
  rintro ⟨rfl,rfl⟩
  simp only [bu,if_false]
  exact aE ⟨rfl,rfl,λ u zE=>hall u (cu _ zE)⟩
 ·rintro ⟨r1,r2⟩ s' ⟨hr,rfl,_⟩
  simp only at hr
  subst hr
  exact aE h
theorem Me{ys:List Value}(hk:bh s.heap k x)(hy:∀ y∈ys,∃ k' a,y=.ref a /\ bh s.heap k' a)(h:Q false s):wpAny (model prog w) A (searchCouldBeSeen (.ref x) ys) Q E s:=by
 unfold searchCouldBeSeen
 refine af ?_
 refine wpAny_forIn_list _ (λ rest r s'=>r.1=none /\ s'=s /\ ∀ y∈rest,∃ k' a,y=Value.ref a /\ bh s.heap k' a) _ ?_ ?_ _ _ ⟨rfl,rfl,hy⟩
 ·rintro y rest r s' ⟨hr,rfl,hall⟩
  obtain ⟨k',a,rfl,ha⟩:=hall y gq
  have rest':∀ y∈rest,∃ k' a,y=Value.ref a /\ bh s'.heap k' a:=λ u zE=>hall u (cu _ zE)
  dsimp only
  split
  ·exact aE ⟨rfl,rfl,rest'⟩
  ·refine af (l8 hk ?_)
   simp only [dU,bu,if_false]
   refine af (l8 ha ?_)
   simp only [dU,bu,if_false]
   refine af (oW hk ?_)
   simp only [bu,if_false]
   refine af (oW ha ?_)
   simp only [bu,if_false]
   exact aE ⟨rfl,rfl,rest'⟩
 ·rintro ⟨r1,r2⟩ s' ⟨hr,rfl,_⟩
  simp only at hr
  subst hr
  exact aE h
def Mf(prog:Program)(w:World)(h:Heap)(es:Array (Int × Value)):Prop:=∀ (i:Nat) e,es[i]? = some e->∃ k a,e=(aI prog w k,.ref a) /\ bh h k a
theorem l9{es:Array (Int × Value)}(hE:Mf prog w s.heap es){i a:Nat}{z:Int}(h:es[i]? = some (z,.ref a))(hk:bh s.heap k a):(es[i]?.map (·.1)).getD 0=aI prog w k:=by
 obtain ⟨k2,a2,e2,h2⟩:=hE i _ h
 have e3:z=aI prog w k2:=congrArg Prod.fst e2
 have e4:a=a2:=Value.ref.inj (congrArg Prod.snd e2)
 subst e4
 have e5:k2=k:=h2.inj hk
 rw [h,<- e5,<- e3]
 rfl
theorem search{o:Obj}{es:Array (Int × Value)}{ep:Nat}{m:Nat}(hu:A.units + 2 < cLine)(ho:s.heap.get? d=some o)(hd:o.data=.set es ep t)(T:SG.Tab led es t)(hm:t.mask=7)(hE:Mf prog w s.heap es)(hk:bh s.heap k x)
  (Xe:m <= 20)(he:t.slot (sq (aI prog w k) m).1=.empty)(hne:∀ j,j < m->t.slot (sq (aI prog w k) j).1 ≠ .empty):∀ (fuel n:Nat) (zF:Option SetTable.Probe) (Q:SetFound->Shared->Prop),n <= m->m < n + fuel->zF.getD (t.probeStart (aI prog w k))=A8 (aI prog w k) n ->
  (∀ (j i a:Nat) (z:Int),n <= j->j < m->t.slot (sq (aI prog w k) j).1=.live i->es[i]? = some (z,.ref a)->bh s.heap k a->Q (.there none) s) ->
  ((∀ (j i a:Nat) (z:Int),n <= j->j < m->t.slot (sq (aI prog w k) j).1=.live i->es[i]? = some (z,.ref a)->¬ bh s.heap k a)->Q (.free (sq (aI prog w k) m).1 false) s) ->
  wpAny (model prog w) A (setSearchFrom d (.ref x) (aI prog w k) true fuel zF) Q E s:=by
 intro fuel
 induction fuel with
 | zero=>intro n zF Q h1 h2; omega
 | succ fuel ih =>
  intro n zF Q h1 h2 hst hit free
  unfold setSearchFrom
  refine af (wpAny_setState_of ho hd T.fits ?_)
  dsimp only
  have YF:t.gaveWay=false:=by unfold SetTable.gaveWay; rw [hm]; rfl
  rw [YF,hst]
  simp only [bu,if_false]
  have UW:10 * SetTable.turns t.mask=220:=by rw [hm]; rfl
  unfold SetTable.probe
  rw [UW]
  rcases DU hm T.AV T.up _ (aI prog w k) 220 n m h1 (by omega) he (λ j _ hj=>hne j hj) with ⟨j,i,a1,a2,a3,a4,Xf,a5⟩ | ⟨a1,a5⟩
  ·rw [a5]
   dsimp only
   have hi:∃ e,es[i]? = some e:=by
    rcases kL T.up T.AV (sq (aI prog w k) j).1 with ⟨e,_⟩ | ⟨i',e,hp⟩
    ·rw [a3] at e; cases e
    ·rw [a3] at e
     cases e
     have:=(i0.mp hp).1
     rw [T.sz] at this
     exact ⟨_,dD this⟩
   obtain ⟨e,hei⟩:=hi
   obtain ⟨k',a',rfl,ha'⟩:=hE i e hei
   have YG:∀ y∈(es.filter (·.1 == aI prog w k)).toList.map (·.2),∃ k' a,y=Value.ref a /\ bh s.heap k' a:=λ y hy=>by
    obtain ⟨e,he',rfl⟩:=aA.mp hy
    rw [Array.mem_toList_iff,Array.mem_filter] at he'
    obtain ⟨i2,hi2⟩:=Array.mem_iff_getElem?.mp he'.1
    obtain ⟨k2,a2,rfl,h2⟩:=hE i2 e hi2
    exact ⟨k2,a2,rfl,h2⟩
   cases hl:t.led
   ·simp only [Bool.not_false,if_true]
    refine af (Me hk YG ?_)
    simp only [bu,if_false]
    rw [hei]
    dsimp only
    refine af (wpAny_holding (xO hu ha' hk ?_))
    refine af (wpAny_setState_of ho hd T.fits ?_)
    dsimp only
    by_cases e:k'=k
    ·subst e
     rw [decide_eq_true rfl]
     simp only [Bool.and_true,if_true]
     exact aE (hit j i a' _ a1 a2 a3 hei ha')
    ·rw [decide_eq_false e]
     simp only [Bool.and_false,bu,if_false]
     have hsm:t.sameMemory t.moves t.mask=some true:=by unfold SetTable.sameMemory; rw [if_pos (by simp)]
     rw [hsm]
     dsimp only
     simp only [if_true]
     rw [a3]
     dsimp only
     rw [hei]
     dsimp only
     refine af (wpAny_isSame_ref_self (af (aE ?_)))
     simp only [if_true]
     refine ih (j + 1) _ Q (by omega) (by omega) rfl (λ j' i' a z h3 h4=>hit j' i' a z (by omega) h4) λ hn=>free λ j' i' a z h3 h4 h5 h6 h7=>?_
     by_cases hj:j'=j
     ·subst hj
      rw [a3] at h5
      cases h5
      rw [hei] at h6
      cases h6
      exact e (ha'.inj h7)
     ·rcases bG j' j with hl | hg
      ·refine Xf j' i' (by omega) hl h5 ?_
       exact l9 hE h6 h7
      ·exact hn j' i' a z (by omega) h4 h5 h6 h7
   ·simp only [dU,bu,if_false]
    rw [hei]
    dsimp only
    refine af (wpAny_holding (xO hu ha' hk ?_))
    refine af (wpAny_setState_of ho hd T.fits ?_)
    dsimp only
    by_cases e:k'=k
    ·subst e
     rw [decide_eq_true rfl]
     simp only [Bool.and_true,if_true]
     exact aE (hit j i a' _ a1 a2 a3 hei ha')
    ·rw [decide_eq_false e]
     simp only [Bool.and_false,bu,if_false]
     have hsm:t.sameMemory t.moves t.mask=some true:=by unfold SetTable.sameMemory; rw [if_pos (by simp)]
     rw [hsm]
     dsimp only
     simp only [if_true]
     rw [a3]
     dsimp only
     rw [hei]
     dsimp only
     refine af (wpAny_isSame_ref_self (af (aE ?_)))
     simp only [if_true]
     refine ih (j + 1) _ Q (by omega) (by omega) rfl (λ j' i' a z h3 h4=>hit j' i' a z (by omega) h4) λ hn=>free λ j' i' a z h3 h4 h5 h6 h7=>?_
     by_cases hj:j'=j
     ·subst hj
      rw [a3] at h5
      cases h5
      rw [hei] at h6
      cases h6
      exact e (ha'.inj h7)
     ·rcases bG j' j with hl | hg
      ·refine Xf j' i' (by omega) hl h5 ?_
       exact l9 hE h6 h7
      ·exact hn j' i' a z (by omega) h4 h5 h6 h7
  ·rw [a5]
   dsimp only
   refine aE (free λ j i a z h3 h4 h5 h6 h7=>a1 j i h3 h4 h5 ?_)
   exact l9 hE h6 h7
end
def Reach(pl:List Nat)(x:Int)(j:Nat):Prop:=∃ m,(sq x m).1=j /\ ∀ m',m' < m->(sq x m').1∈pl
def sG(prog:Program)(w:World)(led:Bool)(h:Heap)(d:Addr)(ks:List (aR × Addr)):Prop :=
 ∃ o es ep t,h.get? d=some o /\ o.ExactSet /\ o.data=.set es ep t /\ SG.Tab led es t /\ t.mask=7 /\ es.toList.Perm (ks.map λ z=>(aI prog w z.1,Value.ref z.2)) /\ (ks.map (·.1)).Nodup /\ ks.length <= 4 /\
  ∀ z∈es.toList.zip t.place.toList,Reach t.place.toList z.1.1 z.2
section
variable {prog:Program}{w:World}{A:Around}{E:Value->Shared->Prop}{s:Shared}
theorem sG.at'{ks:List (aR × Addr)}(S:sG prog w led h d ks)(e:∀ o,h.get? d=some o->h'.get? d=some o):sG prog w led h' d ks:=by
 obtain ⟨o,es,ep,t,ho,r⟩:=S
 exact ⟨o,es,ep,t,e o ho,r⟩
theorem Ba{k:dw}(hk:d8 s.heap k v)(h:∀ b,Q b s):wpAny (model prog w) A (hashByValue (n + 1) v) Q E s:=by
 cases k with
 | none =>
  obtain ⟨t,rfl⟩:=hk
  exact wpAny_of_eq (a:=false) (by first | rfl | (unfold hashByValue; rfl)) (h false)
 | some p =>
  obtain ⟨a,o,m,t,u,rfl,h1,h2,h3⟩:=hk
  have hT:s.TypeIs (.ref a) "tuple" := ⟨o,h1,h2⟩
  unfold hashByValue
  refine af (wpAny_specialOf hT F.slot_tuple_hash.lookup ?_)
  dsimp only
  refine af (wpAny_seqItems h1 h3 ?_)
  refine af ?_
  show wpAny _ _ (forIn #[Value.int p.1 t,Value.int p.2 u] _ _) _ _ s
  rw [<- iZ]
  refine wpAny_forIn_list _ (λ rest r s'=>r.1=none /\ s'=s /\ ∀ v∈rest,∃ i t,v=Value.int i t) _ ?_ ?_ _ _ ⟨rfl,rfl,λ v hv=>by simp at hv; rcases hv with e | e <;> exact ⟨_,_,e⟩⟩
  ·rintro v rest r s' ⟨hr,rfl,hall⟩
   obtain ⟨i,t,rfl⟩:=hall v gq
   refine af (wpAny_of_eq (a:=true) (by first | rfl | (unfold hashByValue; rfl)) ?_)
   simp only [dU,bu,if_false]
   exact aE ⟨rfl,rfl,λ u zE=>hall u (cu _ zE)⟩
  ·rintro ⟨r1,r2⟩ s' ⟨hr,rfl,_⟩
   simp only at hr
   subst hr
   exact aE (h true)
theorem Bb(hk:bh s.heap k a)(h:∀ b,Q b s):wpAny (model prog w) A (hashByValue 8 (.ref a)) Q E s:=by
 obtain ⟨o,n,t,v,ho,hc,hd,hv⟩:=hk
 have hT:s.TypeIs (.ref a) "tuple" := ⟨o,ho,hc⟩
 unfold hashByValue
 refine af (wpAny_specialOf hT F.slot_tuple_hash.lookup ?_)
 dsimp only
 refine af (wpAny_seqItems ho hd ?_)
 refine af ?_
 show wpAny _ _ (forIn #[Value.int k.1 t,v] _ _) _ _ s
 rw [<- iZ]
 refine wpAny_forIn_list _ (λ rest r s'=>s'=s /\ r.1=none /\ ∀ u∈rest,(∃ i t,u=Value.int i t) \/ d8 s.heap k.2 u) _ ?_ ?_ _ _ ⟨rfl,rfl,λ u hu=>by simp at hu; rcases hu with e | e; exact .inl ⟨_,_,e⟩; exact .inr (e ▸ hv)⟩
 ·rintro u rest r s' ⟨rfl,hr,hall⟩
  refine af ?_
  have rest':∀ y∈rest,(∃ i t,y=Value.int i t) \/ d8 s'.heap k.2 y:=λ u zE=>hall u (cu _ zE)
  have go:wpAny (model prog w) A (hashByValue 7 u) (λ _ s2=>s2=s') E s':=by
   rcases hall u gq with ⟨i,t,rfl⟩ | hu
   ·exact wpAny_of_eq (a:=true) (by first | rfl | (unfold hashByValue; rfl)) rfl
   ·exact Ba (n:=6) hu λ _=>rfl
  refine wpAny_mono go (λ b s2=>?_) λ _ _ x=>x
  rintro rfl
  cases b
  ·simp only [Bool.not_false,if_true]
   exact aE (aE (h false))
  ·simp only [dU,bu,if_false]
   exact aE ⟨rfl,rfl,rest'⟩
 ·rintro ⟨r1,r2⟩ s' ⟨rfl,hr,_⟩
  simp only at hr
  subst hr
  exact aE (h true)
theorem xQ{α β:Type}(xs:Array α)(ys:Array β)(hl:xs.size=ys.size)(p:Nat)(x:α)(y:β):(SetTable.insertAt xs p x).toList.zip (SetTable.insertAt ys p y).toList=(xs.toList.take p).zip (ys.toList.take p)++(x,y) :: (xs.toList.drop p).zip (ys.toList.drop p):=by
 rw [SetTable.toList_insertAt,SetTable.toList_insertAt,List.zip_append (by rw [bV,bV,bT,bT,hl])]
 rfl
theorem xS{pl Xg:List Nat}(h:∀ j∈pl,j∈Xg){x:Int}{j:Nat}(r:Reach pl x j):Reach Xg x j:=let ⟨m,e,q⟩:=r; ⟨m,e,λ m' hm=>h _ (q m' hm)⟩
theorem G0{ks:List (aR × Addr)}(hu:A.units + 2 < cLine)(S:sG prog w led s.heap d ks)(hks:∀ z∈ks,bh s.heap z.1 z.2)(hk:bh s.heap k x)(hl:ks.length <= 3)
  (h:∀ b h' tk,s.toks <= tk->Heap.SameBut d s.heap h'->sG prog w led h' d (if k∈ks.map (·.1) then ks else ks++[(k,x)])->Q b { s with heap:=h',toks:=tk }):wpAny (model prog w) A (setAdd d (.ref x)) Q E s:=by
 obtain ⟨o,es,ep,t,ho,hx,hd,T,hm,perm,nd,h4,hch⟩:=S
 have hsz:es.size=ks.length:=by rw [<- bT,perm.length_eq,aq]
 have hE:Mf prog w s.heap es:=λ i e he=>by
  have me:e∈es.toList:=by rw [<- c6] at he; exact fm he
  obtain ⟨z,hz,rfl⟩:=aA.mp (perm.mem_iff.mp me)
  exact ⟨z.1,z.2,rfl,hks z hz⟩
 unfold setAdd
 refine wpAny_holding (af (uA (by omega) hk ?_))
 generalize hs1:({ s with toks:=s.toks + (1 + kK k.2 + 1) }:Shared)=s1
 have eh:s1.heap=s.heap:=by rw [<- hs1]
 have et:s.toks <= s1.toks:=by rw [<- hs1]; exact jW _ _
 have es1:∀ h' , ({ s1 with heap:=h' }:Shared)={ s with heap:=h',toks:=s1.toks }:=λ h'=>by rw [<- hs1]
 rw [<- eh] at ho hE hk
 unfold setAddHashed setAddHashedIn
 refine wpAny_holding (af (wpAny_setState_of ho hd T.fits ?_))
 dsimp only
 have hns:byScan (.ref x) es=false:=rfl
 rw [hns]
 simp only [bu,if_false]
 unfold setSearch
 obtain ⟨m,Xe,he,hne⟩:=uD T.AV T.up (by rw [T.sz]; omega) (aI prog w k)
 have YH:∀ j,t.slot j ≠ .empty->j∈t.place.toList:=λ j hj=>by
  rcases kL T.up T.AV j with ⟨e,_⟩ | ⟨i,_,e⟩
  ·exact absurd e hj
  ·rw [<- c6] at e
   exact fm e
 refine af (search hu ho hd T hm hE hk Xe he hne 100000 0 none _ (aL _) (by omega) (A9 hm _) (λ j i a z _ hj hsl hei ha=>?_) (λ hn=>?_))
 ·dsimp only
  have hin:k∈ks.map (·.1):=by
   obtain ⟨k2,a2,e2,h2⟩:=hE i _ hei
   have e4:a=a2:=Value.ref.inj (congrArg Prod.snd e2)
   have me:((z,.ref a):Int × Value)∈es.toList:=by rw [<- c6] at hei; exact fm hei
   obtain ⟨y,hy,ey⟩:=aA.mp (perm.mem_iff.mp me)
   have e5:y.2=a:=Value.ref.inj (congrArg Prod.snd ey)
   have Xh:=hks y hy
   rw [e5,<- eh] at Xh
   rw [<- Xh.inj ha]
   exact aA.mpr ⟨y,hy,rfl⟩
  refine aE ?_
  have:=h false s.heap s1.toks et (Heap.SameBut.refl d s.heap) (by rw [if_pos hin]; exact ⟨o,es,ep,t,by rw [<- eh]; exact ho,hx,hd,T,hm,perm,nd,h4,hch⟩)
  rw [<- es1,<- eh] at this
  exact this
 ·dsimp only
  have DC:k ∉ ks.map (·.1):=λ hin=>by
   obtain ⟨y,hy,rfl⟩:=aA.mp hin
   have me:((aI prog w y.1,.ref y.2):Int × Value)∈es.toList:=perm.mem_iff.mpr (aA.mpr ⟨y,hy,rfl⟩)
   obtain ⟨i,hi⟩:=dX.mp me
   have hil:i < t.place.size:=by rw [T.sz,<- bT]; exact (e9 hi).1
   have hp:t.place.toList[i]? = some t.place[i]:=by rw [c6]; exact dD hil
   have hz:(((aI prog w y.1,.ref y.2):Int × Value),t.place[i])∈es.toList.zip t.place.toList:=by
    refine dX.mpr ⟨i,?_⟩
    rw [jT]
    exact ⟨hi,hp⟩
   obtain ⟨m',e1,e2⟩:=hch _ hz
   dsimp only at e1 e2
   have mS:t.slot t.place[i]=.live i:=qO T.up T.AV (by rw [dD hil])
   have US:m' < m:=by
    rcases bG m' m with hl | hg
    ·exact hl
    ·exfalso
     rcases Nat.eq_or_lt_of_le hg with e | hlt
     ·rw [e,e1,mS] at he
      cases he
     ·have:=e2 m hlt
      obtain ⟨i2,hi2⟩:=dX.mp this
      rw [c6] at hi2
      rw [qO T.up T.AV hi2] at he
      cases he
   rw [c6] at hi
   exact hn m' i y.2 _ (aL _) US (by rw [e1]; exact mS) hi (by rw [eh]; exact hks y hy)
  refine af (wpAny_setState_of ho hd T.fits ?_)
  dsimp only
  have LX:t.put (sq (aI prog w k) m).1=({ t with place:=SetTable.insertAt t.place (SetTable.below t.place (sq (aI prog w k) m).1) (sq (aI prog w k) m).1 },SetTable.below t.place (sq (aI prog w k) m).1):=by
   unfold SetTable.put
   rw [SG.kG T.AV]
   rfl
  rw [LX]
  dsimp only
  have Jt:=SN.jM T.up (SG.j4 T.up he)
  have DV:(SetTable.insertAt es (SetTable.below t.place (sq (aI prog w k) m).1) (aI prog w k,.ref x)).toList.Perm (es.toList++[(aI prog w k,.ref x)]):=by
   have:=SetTable.insertAt_perm es (SetTable.below t.place (sq (aI prog w k) m).1) (aI prog w k,Value.ref x)
   rwa [Array.toList_push] at this
  have xT:(SetTable.insertAt t.place (SetTable.below t.place (sq (aI prog w k) m).1) (sq (aI prog w k) m).1).toList.Perm (t.place.toList++[(sq (aI prog w k) m).1]):=by
   have:=SetTable.insertAt_perm t.place (SetTable.below t.place (sq (aI prog w k) m).1) (sq (aI prog w k) m).1
   rwa [Array.toList_push] at this
  have hz:=xQ es t.place T.sz.symm (SetTable.below t.place (sq (aI prog w k) m).1) (aI prog w k,Value.ref x) (sq (aI prog w k) m).1
  generalize SetTable.insertAt es (SetTable.below t.place (sq (aI prog w k) m).1) (aI prog w k,Value.ref x)=kI at DV hz ⊢
  generalize SetTable.insertAt t.place (SetTable.below t.place (sq (aI prog w k) m).1) (sq (aI prog w k) m).1=DW at xT hz Jt ⊢
  have hsz2:kI.size=es.size + 1:=by rw [<- bT,DV.length_eq,aN,bT]; rfl
  have PX:DW.size=es.size + 1:=by rw [<- bT,xT.length_eq,aN,bT,T.sz]; rfl
  have T2:∀ b:Bool,SG.Tab led kI { t with place:=DW,plain:=b }:=λ b=>by
   refine ⟨T.led,T.AV,Jt,?_⟩
   unfold SetTable.fits SetTable.fill
   rw [PX,hsz2,T.AV,hm]
   simp
   omega
  have fin:∀ b:Bool,wpAny (model prog w) A (do storeSet d kI { t with place:=DW,plain:=b }; if (!false && ({ t with place:=DW,plain:=b }:SetTable).tooFull)=true then do setRelay d (SetTable.grown (es.size + 1)); pure true else pure true) Q E s1:=λ b=>by
   refine af (wpAny_storeSet_of ho hd ?_ (by rw [hsz2,sizeLine_eq]; omega))
   have GN:=c7 (Obj.putSet kI { t with place:=DW,plain:=b }) ho (by rw [putSet_of kI _ hd]; rfl)
   rw [putSet_of kI _ hd] at GN
   have NC:=gO s1.heap d (Obj.putSet kI { t with place:=DW,plain:=b })
   have full:({ t with place:=DW,plain:=b }:SetTable).tooFull=false:=by
    unfold SetTable.tooFull SetTable.fill
    dsimp only
    rw [T.AV,hm,PX]
    simp
    omega
   rw [full]
   simp only [Bool.and_false,bu,if_false]
   refine aE ?_
   rw [es1]
   refine h true _ s1.toks et (by rw [<- eh]; exact NC) ?_
   rw [if_neg DC]
   refine ⟨_,kI,_,_,GN,hx,rfl,T2 b,hm,?_,?_,by rw [aN]; simp; omega,?_⟩
   ·rw [bM]
    exact DV.trans (perm.append_right _)
   ·rw [bM,dJ]
    refine ⟨nd,by simp,λ a ha c hc e=>DC ?_⟩
    have hc':c=k:=by simpa using hc
    rw [<- hc',<- e]
    exact ha
   ·intro y hy
    show Reach DW.toList y.1.1 y.2
    have up:∀ j∈t.place.toList,j∈DW.toList:=λ j hj=>xT.mem_iff.mpr (gR _ hj)
    replace hy:y∈kI.toList.zip DW.toList:=hy
    rw [hz] at hy
    have old:∀ y,y∈es.toList.zip t.place.toList->Reach DW.toList y.1.1 y.2:=λ y hy=>xS up (hch y hy)
    rcases aK.mp hy with hy | hy
    ·refine old y ?_
     obtain ⟨i,hi⟩:=dX.mp hy
     rw [jT,List.getElem?_take,List.getElem?_take] at hi
     refine dX.mpr ⟨i,jT.mpr ?_⟩
     split at hi
     ·exact hi
     ·exact nomatch hi.1
    ·rcases aB.mp hy with rfl | hy
     ·exact ⟨m,rfl,λ m' hm'=>up _ (YH _ (hne m' hm'))⟩
     ·refine old y ?_
      obtain ⟨i,hi⟩:=dX.mp hy
      rw [jT,List.getElem?_drop,List.getElem?_drop] at hi
      exact dX.mpr ⟨_,jT.mpr hi⟩
  split
  ·refine af (Bb hk λ b=>?_)
   cases b
   ·exact fin false
   ·exact fin t.plain
  ·refine af (aE ?_)
   exact fin t.plain
def mh(val:Nat->aR × Addr):Nat->List (aR × Addr)
 | 0=>[]
 | i + 1=>if (val i).1∈(mh val i).map (·.1) then mh val i else mh val i++[val i]
theorem uE(val:Nat->aR × Addr):∀ i,(mh val i).length <= i
 | 0=>ak _
 | i + 1=>by
  have:=uE val i
  unfold mh
  split
  ·omega
  ·rw [aN,dW]; omega
theorem kM(val:Nat->aR × Addr):∀ (i:Nat) (z:aR × Addr),z∈mh val i->∃ j,j < i /\ z=val j
 | 0,z,h=>by simp [mh] at h
 | i + 1,z,h=>by
  unfold mh at h
  split at h
  ·obtain ⟨j,hj,e⟩:=kM val i z h
   exact ⟨j,by omega,e⟩
  ·rcases aK.mp h with h | h
   ·obtain ⟨j,hj,e⟩:=kM val i z h
    exact ⟨j,by omega,e⟩
   ·exact ⟨i,by omega,au.mp h⟩
theorem uF(val:Nat->aR × Addr):∀ (i:Nat) (k:aR),k∈(mh val i).map (·.1) ↔ ∃ j,j < i /\ k=(val j).1
 | 0,k=>by simp [mh]
 | i + 1,k=>by
  have ih:=uF val i
  unfold mh
  split
  ·rename_i hin
   rw [ih k]
   constructor
   ·rintro ⟨j,hj,e⟩; exact ⟨j,by omega,e⟩
   ·rintro ⟨j,hj,e⟩
    rcases bG j i with hlt | hge
    ·exact ⟨j,hlt,e⟩
    ·have:j=i:=by omega
     subst this
     rw [e]
     exact (ih _).mp hin
  ·rw [bM,aK,ih k]
   constructor
   ·rintro (⟨j,hj,e⟩ | e)
    ·exact ⟨j,by omega,e⟩
    ·exact ⟨i,by omega,by simpa using e⟩
   ·rintro ⟨j,hj,e⟩
    rcases bG j i with hlt | hge
    ·exact .inl ⟨j,hlt,e⟩
    ·have:j=i:=by omega
     subst this
     exact .inr (by simp [e])
theorem DX{l:Addr}{items:Array Value}{val:Nat->aR × Addr}{Q:Value->Shared->Prop}(hu:A.units + 10 < cLine)(hh:A.handled=none)(hl:s.heap.IsList l items)(hv:∀ (i:Nat) (v:Value),items[i]? = some v->v=.ref (val i).2 /\ bh s.heap (val i).1 (val i).2)(hn:items.size <= 4)
  (h:∀ (h':Heap) (tk:Nat),sG prog w (!SG.bH w) h' s.heap.objs.size (mh val items.size)->(∀ b o,b < s.heap.objs.size->s.heap.get? b=some o->h'.get? b=some o)->Q (.ref s.heap.objs.size) { s with heap:=h',toks:=tk }):
  wpAny (model prog w) A (call (.type "set") [.ref l]) Q E s:=by
 refine SG.set_list hh hl (λ i h=>sG prog w (!SG.bH w) h s.heap.objs.size (mh val i) /\ ∀ b o,b < s.heap.objs.size->s.heap.get? b=some o->h.get? b=some o) (λ h' k e=>⟨⟨_,#[],0,_,e,⟨rfl,rfl,rfl⟩,rfl,SG.qN,rfl,jS _,iH,aL _,λ z hz=>nomatch hz⟩,λ b o _ e=>k b o e⟩)
  (λ i h h' ⟨q,k⟩ hk=>⟨q.at' λ o e=>hk _ o (ak _) e,λ b o hb e=>hk b o (gS hb) (k b o hb e)⟩) (λ A' E' i v s' Q Yy zE hi ⟨hS,hkp⟩ hQ=>?_) λ h' tk ⟨q,k⟩ kk=>h h' tk q kk
 obtain ⟨rfl,hhi⟩:=hv i v hi
 have hlt:=(i0.mp hi).1
 have stay:∀ j v,items[j]? = some v->bh s'.heap (val j).1 (val j).2:=λ j v hj=>(hv j v hj).2.stay λ b o _ _ _ _ e=>hkp b o (aD e) e
 have hle:=uE val i
 refine G0 (by omega) hS (λ z hz=>?_) (stay i _ hi) (by omega) λ b h' tk htk sb FQ=>hQ b h' tk htk sb ⟨FQ,λ b' o hb e=>?_⟩
 ·obtain ⟨j,hj,rfl⟩:=kM val i z hz
  exact stay j _ (dD (by omega))
 ·rw [sb.2 b' (aO hb)]
  exact hkp b' o hb e
end
open PySem.W
section
variable {prog:Program}{w:World}{A:Around}{E:Value->Shared->Prop}{s:Shared}
set_option maxHeartbeats 1000000 in
theorem DY{vs:List Value}{r:Nat->Int}{P:PySem.Fin->Shared->Prop}(ho:s.heap.get? a=some (seqObj "list" vs.toArray n))(h64:vs.length < 64)
  (hT:∀ G:Heap,(∀ b o vs' n',o.cls=.type "tuple" -> o.data=.seq vs' n'->s.heap.get? b=some o->G.get? b=some o)->∃ fs:List Value,KatTups G vs fs /\ fs.length=vs.length /\ ∀ v∈fs,∃ i t,v=Value.int i t)
  (hc:∀ G:Heap,(∀ b o vs' n',o.cls=.type "tuple" -> o.data=.seq vs' n'->s.heap.get? b=some o->G.get? b=some o)->∀ i j,i < vs.length->j < vs.length->∀ (E':Value->Shared->Prop) (C:Bool->Shared->Prop),C (decide (r i < r j)) { s with heap:=G } -> wpAny (model prog w) A (keyLt' (tuples' true) (vs.getD i Value.none) (vs.getD j Value.none)) C E' { s with heap:=G })
  (inj:∀ i j,i < vs.length->j < vs.length->r i=r j->i=j)
  (h:∀ q:Array Nat,SN.Pl vs.length q->SN.Up r q vs.length->P (.done (.ret .none)) { s with heap:=sortedHeap s.heap a vs (List.toArray (q.toList.map λ i=>vs.getD i Value.none)) }):
  wpAny (model prog w) A (Builtin.«list.sort» ⟨[.ref a],[]⟩) P E s:=by
 have ha:a < s.heap.objs.size:=aD ho
 obtain ⟨e1,L6⟩:∃ e1,(s.heap.update a (Obj.mapSeq λ _=>#[])).get? a=some (seqObj "list" #[] e1):=⟨_,get?_update_seq ho (λ _=>#[])⟩
 have kp:∀ b o,b ≠ a->s.heap.get? b=some o->(((s.heap.update a (Obj.mapSeq λ _=>#[])).push (seqObj "tuple" vs.toArray 0)).push (seqObj "list" #[] 0)).get? b=some o:=λ b o hba e=>bS _ (bS _ ((dH _ _ _ _ hba).trans e))
 have ho6:(((s.heap.update a (Obj.mapSeq λ _=>#[])).push (seqObj "tuple" vs.toArray 0)).push (seqObj "list" #[] 0)).get? a=some (seqObj "list" #[] e1):=bS _ (bS _ L6)
 rw [list_sort_plain]
 refine af (listItems_at ho rfl (af (listUpdate_at ho rfl ?_ (by rw [aM,sizeLine_eq]; omega) (aL _))))
 refine af (seqEpoch_at L6 rfl (af (wpAny_newTuple ?_ (by show vs.length <= _; rw [sizeLine_eq]; omega))))
 refine af (wpAny_newList (wpAny_holding ?_) (aL _))
 show wpAny (model prog w) A _ P E { s with heap:=((s.heap.update a (Obj.mapSeq λ _=>#[])).push (seqObj "tuple" vs.toArray 0)).push (seqObj "list" #[] 0) }
 have KG:∀ b o vs' n',o.cls=.type "tuple" -> o.data=.seq vs' n'->s.heap.get? b=some o->(((s.heap.update a (Obj.mapSeq λ _=>#[])).push (seqObj "tuple" vs.toArray 0)).push (seqObj "list" #[] 0)).get? b=some o:=λ b o _ _ hc _ e=>kp b o (λ z=>by subst z; rw [ho] at e; cases e; exact absurd (show Value.type "list" = .type "tuple" from hc) (by decide)) e
 have uh:∀ out,((((s.heap.update a (Obj.mapSeq λ _=>#[])).push (seqObj "tuple" vs.toArray 0)).push (seqObj "list" #[] 0))).update a (Obj.mapSeq λ _=>out)=sortedHeap s.heap a vs out:=λ _=>rfl
 generalize (((s.heap.update a (Obj.mapSeq λ _=>#[])).push (seqObj "tuple" vs.toArray 0)).push (seqObj "list" #[] 0))=G at *
 dsimp only
 have fin:∀ q:Array Nat,SN.Pl vs.length q->SN.Up r q vs.length->P (.done (.ret .none)) { s with heap:=G.update a (Obj.mapSeq λ _=>List.toArray (q.toList.map λ i=>vs.getD i Value.none)) }:=λ q hq u=>by
  rw [uh]
  exact h q hq u
 by_cases h2:vs.toArray.size < 2
 ·rw [if_pos h2,if_pos h2]
  refine af (aE ?_)
  rw [StateT.run_pure]
  refine af (aE (af (seqEpoch_at ho6 rfl (af (listUpdate_at ho6 rfl ?_ (aL _) ?_)))))
  ·simp only [bne_self_eq_false,bu,if_false]
   have:=fin (List.toArray (List.range vs.length)) (SN.Pl.start _) (λ i j hij hj=>by rw [aM] at h2; omega)
   have e:(arrOf (SortSt.mk' general' (vs.toArray.zip vs.toArray) #[] 7 none)).map (·.2)=List.toArray ((List.toArray (List.range vs.length)).toList.map λ i=>vs.getD i Value.none):=by
    exact SN.zA (by rw [aM] at h2; exact h2)
   rw [e]
   exact aE this
  ·show ((vs.toArray.zip vs.toArray).map _).size <= _
   rw [Array.size_map,Array.size_zip,aM,sizeLine_eq]
   omega
 ·have h2':2 <= vs.length:=by rw [aM] at h2; omega
  rw [if_neg h2,if_neg h2]
  obtain ⟨fs,k1,k2,k3⟩:=hT G KG
  refine af (kat_kind (T:=.type "int") k1 (by omega) (λ v hv=>by obtain ⟨i,t,rfl⟩:=k3 v hv; exact Looks.of_pure rfl) rfl ?_)
  have kd:((Value.type "int") != (Value.type "tuple"))=true:=by decide
  rw [kd]
  refine af (wpAny_mono (kat_run (prog:=prog) (w:=w) (A:=A) (κ:=tuples' true) (vs:=vs) (ks:=vs) (Q:=λ st' s'=>s'={ s with heap:=G } /\ failedOf st'=none /\ ∃ q,SN.Pl vs.length q /\ SN.Up r q vs.length /\ (arrOf st').map (·.2)=List.toArray (q.toList.map λ i=>vs.getD i Value.none))
   (G:=λ q s'=>s'={ s with heap:=G } /\ SN.Pl vs.length q /\ SN.Up r q vs.length) rfl h2' (by omega) (λ q st' s' _ har hf hg=>⟨hg.1,hf,q,hg.2.1,hg.2.2,kat_snds rfl har⟩) ?_) ?_ λ _ _ e=>e)
  ·refine SN.zv (r:=r) (λ i j hi hj C hC=>?_) inj (by omega) λ q hq u=>⟨rfl,hq,u⟩
   exact hc G KG i j hi hj _ C hC
  ·rintro ⟨⟨⟩,st'⟩ s' ⟨rfl,hf,q,hq,u,eo⟩
   dsimp only
   refine af (seqEpoch_at ho6 rfl (af (listUpdate_at ho6 rfl ?_ (aL _) ?_)))
   ·rw [hf]
    simp only [bne_self_eq_false,bu,if_false]
    rw [eo]
    exact aE (fin q hq u)
   ·rw [eo,aM,aq,bT,hq.sz,sizeLine_eq]
    omega
end
def mq(k:aR):Int:=k.1 * 10000 + match k.2 with | none=>0 | some p=>SN.rk p
def Mg(k:aR):Prop:=∀ p,k.2=some p->0 <= p.1 /\ p.1 < 2 /\ 0 <= p.2 /\ p.2 < 1000
def Alike(x y:aR):Prop:=x.2.isSome=y.2.isSome
theorem G1{x:aR}(hx:Mg x)(hy:Mg y)(ha:Alike x y)(e:mq x=mq y):x=y:=by
 obtain ⟨p,a⟩:=x
 obtain ⟨q,b⟩:=y
 unfold mq at e
 cases a with
 | none =>
  cases b with
  | none =>
   dsimp only at e
   have:p=q:=by omega
   rw [this]
  | some y=>cases ha
 | some x =>
  cases b with
  | none=>cases ha
  | some y =>
   have h1:=hx x rfl
   have h2:=hy y rfl
   obtain ⟨x1,x2⟩:=x
   obtain ⟨y1,y2⟩:=y
   change p * 10000 + (x1 * 1000 + x2)=q * 10000 + (y1 * 1000 + y2) at e
   dsimp only at h1 h2
   have e1:p=q:=by omega
   have e2:x1=y1:=by omega
   have e3:x2=y2:=by omega
   rw [e1,e2,e3]
theorem DZ{α β:Type}{f:α->β}{l m:List β}(h:l.Perm m):∀ {zs:List α},m=zs.map f->∃ ys:List α,ys.Perm zs /\ l=ys.map f:=by
 induction h with
 | nil=>intro zs e; exact ⟨[],by rw [List.map_eq_nil_iff.mp e.symm],rfl⟩
 | cons x h ih =>
  intro zs e
  cases zs with
  | nil=>cases e
  | cons z zs =>
   have e1:=List.cons.inj e
   obtain ⟨ys,h1,h2⟩:=ih e1.2
   exact ⟨z :: ys,h1.cons z,by rw [bq,<- h2,<- e1.1]⟩
 | swap x y l =>
  intro zs e
  cases zs with
  | nil=>cases e
  | cons z zs =>
   cases zs with
   | nil=>cases (List.cons.inj e).2
   | cons z2 zs =>
    have e1:=List.cons.inj e
    have e2:=List.cons.inj e1.2
    exact ⟨z2 :: z :: zs,.swap _ _ _,by rw [bq,bq,<- e1.1,<- e2.1,<- e2.2]⟩
 | trans _ _ i1 i2 =>
  intro zs e
  obtain ⟨ys,h1,h2⟩:=i2 e
  obtain ⟨xs,h3,h4⟩:=i1 h2
  exact ⟨xs,h3.trans h1,h4⟩
theorem range_getD{α:Type}(l:List α)(d:α):(List.range l.length).map (λ i=>l.getD i d)=l:=by
 apply List.ext_getElem?
 intro i
 rw [aS]
 rcases bG i l.length with h | h
 ·rw [List.getElem?_range h,dB h]
  show some (l.getD i d)=_
  rw [iR,dB h]
  rfl
 ·rw [iF (by rw [List.length_range]; exact h),iF h]
  rfl
section
variable {prog:Program}{w:World}{A:Around}{E:Value->Shared->Prop}{s:Shared}
theorem D3{y:Addr}{ox oy:Obj}{n k:Nat}{a b c d:Int}{t1 t2 t3 t4:Tok}{Q:Value->Shared->Prop}(hu:A.units < cLine)(hx:s.heap.get? x=some ox)(cx:ox.cls=.type "tuple")(dx:ox.data=.seq #[.int a t1,.int b t2] n)(hy:s.heap.get? y=some oy)(cy:oy.cls=.type "tuple")(dy:oy.data=.seq #[.int c t3,.int d t4] k)
  (h:Q (.bool (if a=c then decide (b < d) else decide (a < c))) s):wpAny (model prog w) A (compareOp .Lt (.ref x) (.ref y)) Q E s:=by
 have tx:s.TypeIs (.ref x) "tuple" := ⟨ox,hx,cx⟩
 have ty:s.TypeIs (.ref y) "tuple" := ⟨oy,hy,cy⟩
 refine (show wpAny _ _ (richCompare .Lt (.ref x) (.ref y)) _ _ _ from wpAny_richCompare_same_room tx ty F.slot_tuple_lt (wpAny_call_entry F.slot_tuple_lt tx F.entry_tuple_lt ?_ (F.args_tuple_lt_2 _ _)) hu)
 show wpAny _ _ (isInstance (.ref y) (.type "tuple") >>= _) _ _ s
 refine af (wpAny_isInstance ty isSubtype_tuple_tuple ?_)
 simp only [dU,bu,if_false]
 refine af (wpAny_tupleItemsOf hx dx ?_)
 refine af (wpAny_tupleItemsOf hy dy ?_)
 refine af ?_
 show wpAny _ _ (forIn [(Value.int a t1,Value.int c t3),(Value.int b t2,Value.int d t4)] _ _) _ _ s
 rw [gQ]
 refine af (af (wpAny_eqBool_int ?_))
 by_cases e:a=c
 ·rw [show (a == c)=true by simpa using e]
  simp only [dU,bu,if_false]
  rw [if_pos e] at h
  refine aE ?_
  dsimp only
  rw [gQ]
  refine af (af (wpAny_eqBool_int ?_))
  by_cases e2:b=d
  ·rw [show (b == d)=true by simpa using e2]
   simp only [dU,bu,if_false]
   refine aE ?_
   dsimp only
   rw [i6]
   refine aE ?_
   rw [decide_eq_false (by omega)] at h
   exact aE ⟨_,rfl,(λ e=>nomatch e),h⟩
  ·rw [show (b == d)=false by simpa using e2]
   simp only [Bool.not_false,if_true]
   refine af (wpAny_rule ?_)
   refine af (show wpAny _ _ (compareOp .Lt (.int b t2) (.int d t4)) _ _ _ from PyProof.Rows.lt_int ?_)
   exact af (aE (aE (aE (aE ⟨_,rfl,(λ e=>nomatch e),h⟩))))
 ·rw [show (a == c)=false by simpa using e]
  simp only [Bool.not_false,if_true]
  rw [if_neg e] at h
  refine af (wpAny_rule ?_)
  refine af (show wpAny _ _ (compareOp .Lt (.int a t1) (.int c t3)) _ _ _ from PyProof.Rows.lt_int ?_)
  exact af (aE (aE (aE (aE ⟨_,rfl,(λ e=>nomatch e),h⟩))))
theorem Mh{y:Addr}{k1 k2:aR}(hu:A.units + 1 < cLine)(hx:bh s.heap k1 x)(hy:bh s.heap k2 y)(o1:Mg k1)(o2:Mg k2)(al:Alike k1 k2)(h:Q (decide (mq k1 < mq k2)) s):wpAny (model prog w) A (keyLt' (tuples' true) (.ref x) (.ref y)) Q E s:=by
 obtain ⟨ox,n,t,u,h1,c1,d1,UX⟩:=hx
 obtain ⟨oy,m,t',u',h2,c2,d2,PY⟩:=hy
 obtain ⟨p,a⟩:=k1
 obtain ⟨q,b⟩:=k2
 dsimp only at d1 d2 UX PY
 refine kat_lt h1 d1 h2 d2 (kat_cons (wpAny_eqBool_int ?_))
 by_cases e:p=q
 ·subst e
  rw [show (p == p)=true by simp]
  refine kat_yes (kat_cons (Mb hu UX PY ?_))
  by_cases e2:a=b
  ·subst e2
   rw [decide_eq_true rfl]
   rw [decide_eq_false (by omega)] at h
   exact kat_yes (kat_nil h)
  ·rw [decide_eq_false e2]
   cases a with
   | none =>
    cases b with
    | none=>exact absurd rfl e2
    | some y=>cases al
   | some x1 =>
    cases b with
    | none=>cases al
    | some y1 =>
     obtain ⟨a1,oa,na,ta,ua,rfl,ga,ca,da⟩:=UX
     obtain ⟨b1,ob,nb,tb,ub,rfl,gb,cb,db⟩:=PY
     refine kat_no (kat_one _ _ (D3 (by omega) ga ca da gb cb db ?_))
     have b1:=o1 x1 rfl
     have b2:=o2 y1 rfl
     have er:decide (mq (p,some x1) < mq (p,some y1))=if x1.1=y1.1 then decide (x1.2 < y1.2) else decide (x1.1 < y1.1):=by
      obtain ⟨x1,x2⟩:=x1
      obtain ⟨y1,y2⟩:=y1
      dsimp only at b1 b2
      change decide (p * 10000 + (x1 * 1000 + x2) < p * 10000 + (y1 * 1000 + y2))=if x1=y1 then decide (x2 < y2) else decide (x1 < y1)
      split <;> simp only [decide_eq_decide] <;> omega
     rw [er] at h
     exact h
 ·rw [show (p == q)=false by simpa using e]
  refine kat_no (oneLt_int ?_)
  have er:decide (mq (p,a) < mq (q,b))=decide (p < q):=by
   have ba:0 <= mq (p,a) - p * 10000 /\ mq (p,a) - p * 10000 < 10000:=by
    cases a with
    | none=>change 0 <= p * 10000 + 0 - p * 10000 /\ p * 10000 + 0 - p * 10000 < 10000; omega
    | some x=>have:=o1 x rfl; change 0 <= p * 10000 + (x.1 * 1000 + x.2) - p * 10000 /\ p * 10000 + (x.1 * 1000 + x.2) - p * 10000 < 10000; omega
   have bb:0 <= mq (q,b) - q * 10000 /\ mq (q,b) - q * 10000 < 10000:=by
    cases b with
    | none=>change 0 <= q * 10000 + 0 - q * 10000 /\ q * 10000 + 0 - q * 10000 < 10000; omega
    | some x=>have:=o2 x rfl; change 0 <= q * 10000 + (x.1 * 1000 + x.2) - q * 10000 /\ q * 10000 + (x.1 * 1000 + x.2) - q * 10000 < 10000; omega
   simp only [decide_eq_decide]
   omega
  rw [<- er]
  exact h
abbrev jN(h:Heap):List Value->List aR->Prop:=Paired λ v k=>∃ a,v=.ref a /\ bh h k a
theorem jN.stay{vs:List Value}{ks:List aR}(x:jN h vs ks)(e:∀ b o vs n,o.cls=.type "tuple" -> o.data=.seq vs n->h.get? b=some o->h'.get? b=some o):jN h' vs ks:=L2.Paired.Av x λ v k ⟨a,e1,e2⟩=>⟨a,e1,e2.stay e⟩
theorem jN.tups:∀ {vs:List Value} {ks:List aR},jN h vs ks->∃ fs:List Value,KatTups h vs fs /\ fs.length=vs.length /\ ∀ v∈fs,∃ i t,v=Value.int i t
 | _,_,.nil=>⟨[],.nil,rfl,λ v hv=>nomatch hv⟩
 | _,_,.cons ⟨a,e,o,n,t,v,h1,h2,h3,_⟩ r=>by
  obtain ⟨fs,a1,a2,a3⟩:=jN.tups r
  subst e
  refine ⟨_ :: fs,KatTups.cons h1 h2 h3 rfl a1,by simp [a2],λ v hv=>?_⟩
  rcases aB.mp hv with e | hv
  ·exact ⟨_,_,e⟩
  ·exact a3 v hv
theorem jN.get:∀ {vs:List Value} {ks:List aR} (_:jN h vs ks) {i:Nat} (_:i < vs.length),∃ a,vs.getD i Value.none=.ref a /\ bh h (ks.getD i (0,none)) a
 | _,_,.cons ⟨a,e,q⟩ r,0,_=>⟨a,e,q⟩
 | _,_,.cons _ r,i + 1,hi=>by
  obtain ⟨a,h1,h2⟩:=jN.get r (i:=i) (by simpa using hi)
  exact ⟨a,by simpa using h1,by simpa using h2⟩
theorem uG{zs:List (aR × Addr)}{Q:Value->Shared->Prop}(hu:A.units + 8 < cLine)(hh:A.handled=none)(S:sG prog w (!SG.bH w) s.heap d zs)(hzs:∀ z∈zs,bh s.heap z.1 z.2)(hok:∀ z∈zs,Mg z.1)(hal:∀ z∈zs,∀ y∈zs,Alike z.1 y.1)
  (h:∀ (p:Addr) (h':Heap) (d':Drawn) (tk c:Nat) (vs:List Value) (ks:List aR),s.heap.objs.size <= p->(∀ b x,s.heap.get? b=some x->h'.get? b=some x)->h'.get? p=some { cls:=.type "list", data:=.seq vs.toArray c } -> Paired (λ v k=>∃ a,v=Value.ref a /\ (k,a)∈zs) vs ks->(∀ k,k∈ks ↔ k∈zs.map (·.1))->ks.Pairwise (λ x y=>mq x < mq y)->vs.length=zs.length->Q (.ref p) { s with heap:=h',drawn:=d',toks:=tk }):
  wpAny (model prog w) A (call (.builtin "sorted") [.ref d]) Q E s:=by
 obtain ⟨o,es,ep,t,ho,hx,hd,T,hm,perm,nd,h4,hch⟩:=S
 have hsz:es.size=zs.length:=by rw [<- bT,perm.length_eq,aq]
 refine rJ kind_sorted plain_sorted entry_sorted (args_sorted1 _) ?_
 unfold Builtin.«sorted»
 refine af (m:=checkCount "sorted" 1 1 _) (aE (af (SG.mR (by simp [hh]) ho hx hd T (by omega) ?_)))
 intro s1 acc k1 g1 o1 xC hp
 obtain ⟨h1,gg,dd,PN,oo⟩:=s1
 dsimp only at k1 g1 o1 xC
 subst g1 o1
 have pv:acc.Perm (zs.map λ z=>Value.ref z.2):=by
  have:=hp.trans (perm.map (·.2))
  rw [eF] at this
  exact this
 obtain ⟨ys,hys,L7⟩:∃ ys:List (aR × Addr),ys.Perm zs /\ acc=ys.map λ z=>Value.ref z.2:=by
  exact DZ pv rfl
 subst L7
 have hyl:ys.length=zs.length:=hys.length_eq
 have hV:jN h1 (ys.map λ z=>Value.ref z.2) (ys.map (·.1)):=by
  have all:∀ z∈ys,bh h1 z.1 z.2:=λ z hz=>(hzs z (hys.mem_iff.mp hz)).stay λ b o _ _ _ _ e=>k1 b o e
  clear hys hyl pv hp
  induction ys with
  | nil=>exact .nil
  | cons z ys ih=>exact .cons ⟨z.2,rfl,all z (by simp)⟩ (ih λ y hy=>all y (by simp [hy]))
 refine af (wpAny_newList ?_ (by rw [aq,hyl,sizeLine_eq]; omega))
 have gN:(h1.push (seqObj "list" (ys.map λ z=>Value.ref z.2).toArray 0)).get? h1.objs.size=some (seqObj "list" (ys.map λ z=>Value.ref z.2).toArray 0):=fJ _ rfl
 have UY:=hV.stay (h':=h1.push (seqObj "list" (ys.map λ z=>Value.ref z.2).toArray 0)) λ b o _ _ _ _ e=>bS _ e
 have PZ:∀ i,i < ys.length->(ys.map (·.1)).getD i (0,none)=((ys.getD i ((0,none),0)).1:aR) /\ ys.getD i ((0,none),0)∈ys:=λ i hi=>by
  rw [iR,iR,aS,dB hi]
  exact ⟨rfl,fS hi⟩
 have lm:(ys.map λ z=>Value.ref z.2).length=ys.length:=aq _
 refine af (wpAny_holding (wpAny_call_entry slot_list_sort ⟨_,gN,rfl⟩ entry_list_sort (DY (r:=λ i=>mq ((ys.map (·.1)).getD i (0,none))) gN (by rw [lm,hyl]; omega) (λ G k=>(UY.stay k).tups) (λ G k i j hi hj E' C hC=>?_) (λ i j hi hj e=>?_) λ q hq u=>⟨_,rfl,?_⟩) (args_list_sort _)))
 ·obtain ⟨x,ex,gx⟩:=(UY.stay k).get hi
  obtain ⟨y,ey,gy⟩:=(UY.stay k).get hj
  rw [lm] at hi hj
  obtain ⟨e1,m1⟩:=PZ i hi
  obtain ⟨e2,m2⟩:=PZ j hj
  rw [ex,ey]
  refine Mh (by simp only [Around.in1]; omega) gx gy ?_ ?_ ?_ hC
  ·rw [e1]; exact hok _ (hys.mem_iff.mp m1)
  ·rw [e2]; exact hok _ (hys.mem_iff.mp m2)
  ·rw [e1,e2]; exact hal _ (hys.mem_iff.mp m1) _ (hys.mem_iff.mp m2)
 ·rw [lm] at hi hj
  obtain ⟨e1,m1⟩:=PZ i hi
  obtain ⟨e2,m2⟩:=PZ j hj
  change mq ((ys.map (·.1)).getD i (0,none))=mq ((ys.map (·.1)).getD j (0,none)) at e
  rw [e1,e2] at e
  have e3:=G1 (hok _ (hys.mem_iff.mp m1)) (hok _ (hys.mem_iff.mp m2)) (hal _ (hys.mem_iff.mp m1) _ (hys.mem_iff.mp m2)) e
  have Sg:(ys.map (·.1)).Nodup:=(hys.map (·.1)).nodup_iff.mpr nd
  rw [<- e1,<- e2,iR,dB (by simpa using hi),iR,dB (by simpa using hj)] at e3
  exact (lN Sg).mp e3
 ·rw [lm] at hq u
  obtain ⟨c,hc⟩:=sortedHeap_at (h:=h1.push (seqObj "list" (ys.map λ z=>Value.ref z.2).toArray 0)) (a:=h1.objs.size) (vs:=ys.map λ z=>Value.ref z.2) (n:=0) (out:=List.toArray (q.toList.map λ i=>(ys.map λ z=>Value.ref z.2).getD i Value.none)) gN
  refine aE ⟨_,rfl,h h1.objs.size _ dd PN c _ (q.toList.map λ i=>(ys.map (·.1)).getD i (0,none)) (gS xC) (λ b x e=>?_) hc ?_ (λ k=>?_) ?_ (by rw [aq,bT,hq.sz,hyl])⟩
  ·have hb:=aD (k1 b x e)
   rw [sortedHeap_old (aO hb) (by rw [size_push']; exact ja hb)]
   exact bS _ (k1 b x e)
  ·have all:∀ i∈q.toList,i < ys.length:=λ i hi=>fT.mp (hq.pm.mem_iff.mp hi)
   clear u hc hq
   generalize q.toList=l at all
   induction l with
   | nil=>exact .nil
   | cons i l ih =>
    have hi:=all i (by simp)
    refine .cons ?_ (ih λ j hj=>all j (by simp [hj]))
    obtain ⟨e1,m1⟩:=PZ i hi
    refine ⟨(ys.getD i ((0,none),0)).2,?_,?_⟩
    ·show (List.map (λ z=>Value.ref z.snd) ys).getD i Value.none=_
     rw [iR,aS,iR,dB hi]
     rfl
    ·show ((ys.map (·.1)).getD i (0,none),_)∈zs
     rw [e1]
     exact hys.mem_iff.mp m1
  ·have:=(hq.pm.map λ i=>(ys.map (·.1)).getD i (0,none)).mem_iff (a:=k)
   rw [this]
   have e:=range_getD (ys.map (·.1)) ((0,none):aR)
   rw [aq] at e
   rw [e]
   exact (hys.map (·.1)).mem_iff
  ·rw [i9]
   intro i j hi hj hij
   rw [aq,bT,hq.sz] at hi hj
   have:=u i j hij hj
   unfold SN.kv at this
   rw [oh,oh]
   have g:∀ i (hi:i < q.toList.length),q.toList[i]=q.getD i 0:=λ i hi=>by
    rw [Array.getD_eq_getD_getElem?,<- c6,dB hi]
    rfl
   rw [g,g]
   exact this
end
end HM
namespace SN
open PySem PySem.W PySem.Spec PyProof.Rows
section
variable {prog:Program}{w:World}{A:Around}{E:Value->Shared->Prop}{s:Shared}
end
end SN
namespace L2
open PySem PySem.Spec PyProof.Rows
variable {H H':Hp}{k:HM.aR}{v x:V}{P:Program}{w:World}{l d:Addr}{kvs:cZ}{xs:List (HM.aR × Addr × Value)}{s:Shared}{ep:Nat}
def cT(H:Hp):HM.dw->V->Prop
 | none,v=>v=.str "mark"
 | some p,v=>∃ a,v=.ref a /\ H a=some (.tup [.int p.1,.int p.2])
def aJ(H:Hp)(v:V)(k:HM.aR):Prop:=∃ a u,v=.ref a /\ H a=some (.tup [.int k.1,u]) /\ cT H k.2 u
abbrev aQ(H:Hp):List V->List HM.aR->Prop:=Paired (aJ H)
theorem cT.same{k:HM.dw}(h:cT H k v)(s:aG H H'):cT H' k v:=by
 cases k with
 | none=>exact h
 | some p=>obtain ⟨a,e,q⟩:=h; exact ⟨a,e,s _ _ q⟩
theorem aJ.same(h:aJ H v k)(s:aG H H'):aJ H' v k:=let ⟨a,u,e,q,t⟩:=h; ⟨a,u,e,s _ _ q,t.same s⟩
theorem aQ.same{vs:List V}{ks:List HM.aR}(h:aQ H vs ks)(s:aG H H'):aQ H' vs ks:=Paired.Av h λ _ _ x=>x.same s
def adr:V->Addr
 | .ref a=>a
 | _=>0
theorem aJ.adr(h:aJ H v k):v=.ref (L2.adr v):=by obtain ⟨a,u,rfl,_⟩:=h; rfl
section
variable {X:Cx}{pins:List (Addr × Obj)}{σ:St}{H:Hp}{s:Shared}{Q:VK}
theorem Inv.YI(I:Inv X pins σ H s){k:HM.dw}{u:Value}(h:cT H k v)(r:RelV v u):HM.d8 s.heap k u:=by
 cases k with
 | none =>
  have h:v=.str "mark" := h
  subst h
  exact r
 | some p =>
  obtain ⟨a,rfl,q⟩:=h
  cases r
  obtain ⟨o,n,t,u,h1,h2,h3⟩:=I.pair q
  exact ⟨a,o,n,t,u,rfl,h1,h2,h3⟩
theorem Inv.hrm(I:Inv X pins σ H s){a:Addr}(h:aJ H (.ref a) k):HM.bh s.heap k a:=by
 obtain ⟨a',u,e,q,t⟩:=h
 cases e
 obtain ⟨_,its,r,o,h1,h2,n,h3⟩:=(show bU X.prog X.w H s.heap a (.tup [.int k.1,u]) from I.hok a _ q)
 cases r with
 | cons r1 r =>
  cases r with
  | cons r2 r =>
   cases r
   obtain ⟨t1,rfl⟩:=r1
   exact ⟨o,n,t1,_,h1,h2,h3,I.YI t r2⟩
def oX(P:Program)(w:World)(p:Addr)(zs:List (HM.aR × Addr)):Heap->Prop:=λ h=>HM.sG P w (!SG.bH w) h p zs
def Ju(K:ay)(P:Program)(w:World):List V->Hp->VK->Prop:=λ xs H Q=>∃ (l:Addr) (vs:List V) (ks:List HM.aR),xs=[.ref l] /\ bI K H l vs /\ aQ H vs ks /\ ks.length <= 4 /\
 ∀ p H' zs,eT H p (.ext (oX P w p zs)) H'->(∀ z∈zs,aJ H (.ref z.2) z.1)->(∀ k,k∈zs.map (·.1) ↔ k∈ks)->Q (.ref p) H'
theorem Bc(hu:X.A.units + 64 < cLine)(hc:X.calm=true):cX X (.type "set") (Ju X.K X.prog X.w):=by
 intro pins s σ H xs us Q I r h
 obtain ⟨l,vs,ks,rfl,hl,hk,h4,q⟩:=h
 obtain ⟨u,rfl,ru⟩:=vals1 r
 cases ru
 obtain ⟨its,rv,⟨ol,n0,e1,e2,e3,e4⟩,_⟩:=I.list hl
 have UT:s.heap.IsList l its.toArray:=⟨ol,e1,e2,n0,e4⟩
 have mS:vs.length=ks.length:=hk.length
 have hsz:its.toArray.size=ks.length:=by have:=rv.length; rw [aM]; omega
 have hat:∀ i,i < ks.length->aJ H (.ref (adr (vs.getD i (.int 0)))) (ks.getD i (0,none)) /\ vs[i]? = some (.ref (adr (vs.getD i (.int 0)))):=λ i hi=>by
  have hi':i < vs.length:=by omega
  obtain ⟨k,hk1,hk2⟩:=jl hk (i:=i) (x:=vs[i]) (dB hi')
  have e1:vs.getD i (.int 0)=vs[i]:=by rw [iR,dB hi']; rfl
  have e2:ks.getD i (0,none)=k:=by rw [iR,hk1]; rfl
  rw [e1,e2,<- hk2.adr]
  exact ⟨hk2,dB hi'⟩
 refine HM.DX (val:=λ i=>(ks.getD i (0,none),adr (vs.getD i (.int 0)))) (by omega) (I.ok.hd hc) UT (λ i v hv=>?_) (by omega) λ h' tk hS hkp=>?_
 ·have hi:i < ks.length:=by have:=(i0.mp hv).1; omega
  obtain ⟨a1,a2⟩:=hat i hi
  obtain ⟨u,hu,ru⟩:=rv.get a2
  rw [i8,hu] at hv
  cases hv
  cases ru
  exact ⟨rfl,I.hrm a1⟩
 ·rw [hsz] at hS
  refine ⟨.ref s.heap.objs.size,_,I.laid (t':=tk) (λ b o e=>hkp b o (aD e) e) (ak _) (o:=.ext (oX X.prog X.w s.heap.objs.size _)) ⟨hS,?_,λ h1 h2 hp he=>hp.at' he⟩,rfl,q _ _ _ ⟨I.hok.fresh (ak _),rfl⟩ (λ z hz=>?_) λ k=>?_⟩
  ·obtain ⟨o,_,_,_,ho,_⟩:=hS
   exact ⟨o,ho⟩
  ·obtain ⟨j,hj,rfl⟩:=HM.kM _ _ _ hz
   exact (hat j hj).1
  ·rw [HM.uF]
   constructor
   ·rintro ⟨j,hj,rfl⟩
    show ks.getD j (0,none)∈ks
    rw [iR,dB hj]
    exact fS hj
   ·intro hn
    obtain ⟨j,hj,e5⟩:=lO.mp hn
    refine ⟨j,hj,?_⟩
    show k=ks.getD j (0,none)
    rw [iR,dB hj,<- e5]
    rfl
def D4(P:Program)(w:World):List V->Hp->VK->Prop:=λ xs H Q=>∃ (p:Addr) (zs:List (HM.aR × Addr)),xs=[.ref p] /\ H p=some (.ext (oX P w p zs)) /\ (∀ z∈zs,aJ H (.ref z.2) z.1) /\ (∀ z∈zs,HM.Mg z.1) /\ (∀ z∈zs,∀ y∈zs,HM.Alike z.1 y.1) /\
 ∀ q H' vs ks,eT H q (.lst vs) H'->aQ H vs ks->(∀ k,k∈ks ↔ k∈zs.map (·.1))->ks.Pairwise (λ x y=>HM.mq x < HM.mq y)->Q (.ref q) H'
theorem xU(hu:X.A.units + 64 < cLine)(hc:X.calm=true):cX X (.builtin "sorted") (D4 X.prog X.w):=by
 intro pins s σ H xs us Q I r h
 obtain ⟨p,zs,rfl,hp,hz,hok,hal,q⟩:=h
 obtain ⟨u,rfl,ru⟩:=vals1 r
 cases ru
 obtain ⟨hS,_,_⟩:=I.hok p _ hp
 have h4:zs.length <= 4:=by obtain ⟨_,_,_,_,_,_,_,_,_,_,_,h4,_⟩:=hS; exact h4
 refine HM.uG (by omega) (I.ok.hd hc) hS (λ z hz'=>I.hrm (hz z hz')) hok hal λ a h' d' tk c vs ks hle hk ho hP hmem DI hvl=>?_
 have hV:∀ {vs:List Value} {ks:List HM.aR},Paired (λ v k=>∃ a,v=Value.ref a /\ (k,a)∈zs) vs ks->∃ us:List V,Vals us vs /\ aQ H us ks:=by
  intro vs ks r
  induction r with
  | nil=>exact ⟨[],.nil,.nil⟩
  | cons h _ ih =>
   obtain ⟨a,rfl,hm⟩:=h
   obtain ⟨us,u1,u2⟩:=ih
   exact ⟨.ref a :: us,.cons rfl u1,.cons (hz _ hm) u2⟩
 obtain ⟨us,u1,u2⟩:=hV hP
 have hl:us.length <= sizeLine:=by
  have e1:=u1.length
  rw [sizeLine_eq]
  omega
 exact ⟨.ref a,_,(I.Xd d').laid (t':=tk) hk hle (o:=.lst us) ⟨hl,vs,c,u1,ho⟩,rfl,q _ _ us ks ⟨I.hok.fresh hle,rfl⟩ u2 hmem DI⟩
theorem Mi{K:ay}{vs:List V}{ks:List HM.aR}(hl:bI K H l vs)(hk:aQ H vs ks)(h4:ks.length <= 4)(h:∀ p H' zs,eT H p (.ext (oX P w p zs)) H'->(∀ z∈zs,aJ H (.ref z.2) z.1)->(∀ k,k∈zs.map (·.1) ↔ k∈ks)->Q (.ref p) H'):Ju K P w [.ref l] H Q:=⟨l,vs,ks,rfl,hl,hk,h4,h⟩
theorem G2{p:Addr}{zs:List (HM.aR × Addr)}(hp:H p=some (.ext (oX P w p zs)))(hz:∀ z∈zs,aJ H (.ref z.2) z.1)(hok:∀ z∈zs,HM.Mg z.1)(hal:∀ z∈zs,∀ y∈zs,HM.Alike z.1 y.1)(h:∀ q H' vs ks,eT H q (.lst vs) H'->aQ H vs ks->(∀ k,k∈ks ↔ k∈zs.map (·.1))->ks.Pairwise (λ x y=>HM.mq x < HM.mq y)->Q (.ref q) H'):D4 P w [.ref p] H Q:=⟨p,zs,rfl,hp,hz,hok,hal,h⟩
end
section
variable {K:ay}{H:Hp}{Q:VK}
theorem cT.rd{k:HM.dw}(h:cT H k x):RD K H x (HM.iW k):=by
 cases k with
 | none=>have h:x=.str "mark" := h; subst h; exact .str _
 | some p=>obtain ⟨a,rfl,q⟩:=h; exact .tup (gm.of q) (.cons (.int _) (.cons (.int _) .nil))
theorem aJ.rd(h:aJ H x k):RD K H x (HM.qv k):=by
 obtain ⟨a,u,rfl,q,t⟩:=h
 exact .tup (gm.of q) (.cons (.int _) (.cons t.rd .nil))
theorem D5(k:HM.dw):Sh 1 (HM.iW k):=⟨HM.nA k,HM.l7 k⟩
theorem Jv{k:HM.dw}(h:cT H k x)(q:Q (.bl k.isNone) H):Dp K x (.str "mark") H Q:=by
 refine LS (HM.iW k) (.str "mark") 1 (by decide) h.rd (.str _) (D5 k) (D5 none) ?_
 have:=HM.sF k none
 rw [show PyData.str "mark" = HM.iW none from rfl,this]
 cases k <;> exact q
end
abbrev cZ:=List (HM.aR × Addr × V)
def iX:cZ->List (HM.aR × Addr × Value)->Prop:=Paired λ (p:HM.aR × Addr × V) (q:HM.aR × Addr × Value)=>p.1=q.1 /\ p.2.1=q.2.1 /\ RelV p.2.2 q.2.2
def bR(P:Program)(w:World)(d:Addr)(ep:Nat)(kvs:cZ):Heap->Prop:=λ h=>kvs.length <= sizeLine /\ (d == sysModules)=false /\ ∃ xs,iX kvs xs /\ ∃ o es,h.get? d=some o /\ o.ExactDict /\ o.data=.dict es ep /\ es.toList=xs.map (entryOfKey (HM.cF P w)) /\ (xs.map (·.1)).Nodup
def bw(H:Hp)(kvs:cZ):Prop:=∀ x∈kvs,aJ H (.ref x.2.1) x.1
theorem bw.same(h:bw H kvs)(s:aG H H'):bw H' kvs:=λ x hx=>(h x hx).same s
def fO(kvs:cZ)(k:HM.aR):Option V:=(kvs.find? λ x=>decide (x.1=k)).map (·.2.2)
def ig(kvs:cZ)(k:HM.aR)(a:Addr)(v:V):cZ:=if (fO kvs k).isSome then kvs.map (λ x=>if x.1=k then (x.1,x.2.1,v) else x) else kvs++[(k,a,v)]
theorem iX.val(r:iX kvs xs)(k:HM.aR):jZ (fO kvs k) ((atKey xs k).map (·.2)):=by
 unfold iX at r
 induction r with
 | nil=>exact dQ
 | @cons p q ps qs h t ih =>
  unfold fO atKey at ih ⊢
  rw [fu,fu,<- h.1]
  by_cases e:p.1=k
  ·rw [decide_eq_true e]
   exact h.2.2
  ·rw [decide_eq_false e]
   exact ih
theorem iX.put(r:iX kvs xs)(k:HM.aR){b:Addr}{y:V}{u:Value}(ry:RelV y u):iX (ig kvs k b y) (storedH xs k b u):=by
 have e:(fO kvs k).isSome=(atKey xs k).isSome:=by rw [(r.val k).jz,Option.isSome_map]
 unfold ig storedH
 rw [e]
 by_cases q:(atKey xs k).isSome=true
 ·rw [if_pos q,if_pos q]
  clear e q
  unfold iX at r ⊢
  induction r with
  | nil=>exact .nil
  | @cons p q ps qs h t ih =>
   rw [bq,bq]
   refine .cons ?_ ih
   obtain ⟨h1,h2,h3⟩:=h
   unfold putAt
   by_cases e:p.1=k
   ·rw [if_pos e,if_pos (h1.symm.trans e)]; exact ⟨h1,h2,ry⟩
   ·rw [if_neg e,if_neg (λ z=>e (h1.trans z))]; exact ⟨h1,h2,h3⟩
 ·rw [if_neg q,if_neg q]
  exact bQ r ⟨rfl,rfl,ry⟩
theorem uH(kvs:cZ)(k:HM.aR)(a:Addr)(v:V):(ig kvs k a v).length <= kvs.length + 1:=by
 unfold ig
 split <;> simp
section
variable {X:Cx}{pins:List (Addr × Obj)}{σ:St}{H:Hp}{s:Shared}{d b:Addr}{ep:Nat}{kvs:cZ}{k:HM.aR}{A:Around}{E:Value->Shared->Prop}
def DH(P:Program)(w:World)(H:Hp)(d:Addr)(ep:Nat)(kvs:cZ):Prop:=H d=some (.ext (bR P w d ep kvs)) /\ bw H kvs
theorem Inv.dh(I:Inv X pins σ H s)(h:DH X.prog X.w H d ep kvs):kvs.length <= sizeLine /\ (d == sysModules)=false /\ ∃ xs,iX kvs xs /\ s.heap.DictOfH (HM.cF X.prog X.w) d xs:=by
 obtain ⟨⟨z,hd,xs,rel,o,es,h1,h2,h3,h4,h5⟩,_,_⟩:=I.hok d _ h.1
 refine ⟨z,hd,xs,rel,o,es,ep,h1,h2,h3,h4,λ x hx=>?_,h5⟩
 have all:∀ {kvs:cZ} {xs:List (HM.aR × Addr × Value)},iX kvs xs->bw H kvs->∀ x∈xs,HM.bh s.heap x.1 x.2.1:=by
  intro kvs xs r
  unfold iX at r
  induction r with
  | nil=>intro _ x hx; exact nomatch hx
  | @cons p q ps qs hq t ih =>
   intro hk x hx
   rcases aB.mp hx with e | hx
   ·subst e
    have:=I.hrm (hk p (by simp))
    rw [hq.1,hq.2.1] at this
    exact this
   ·exact ih (λ y hy=>hk y (by simp [hy])) x hx
 exact all rel h.2 x hx
theorem nB(hu:A.units + 64 < cLine):(HM.cF X.prog X.w).room A.in1:=by
 show A.in1.units + 2 < cLine
 simp only [Around.in1]
 omega
theorem oY{Q:Value->Shared->Prop}(hu:A.units + 64 < cLine)(I:Inv X pins σ H s)(h:DH X.prog X.w H d ep kvs)(hb:aJ H (.ref b) k)(hv:fO kvs k=some v)(q:∀ w' s',Inv X pins σ H s'->RelV v w'->Q w' s'):
  wpAny (model X.prog X.w) A (getItem (.ref d) (.ref b)) Q E s:=by
 obtain ⟨z,hd,xs,rel,dd⟩:=I.dh h
 obtain ⟨w',hw,rw'⟩:=jZ.some_of (v:=v) (o:=(atKey xs k).map (·.2)) (by rw [<- hv]; exact rel.val k)
 obtain ⟨p,hp,hp2⟩:=fB.mp hw
 refine wpAny_getItem_heap (nB hu) (I.hrm hb) dd hp ?_
 rw [hp2]
 exact q w' _ (I.tok _) rw'
theorem xV{h':Heap}{kvs:cZ}(z:kvs.length <= sizeLine)(hd:(d == sysModules)=false)(rel:iX kvs xs)(dd:h'.DictOfH (HM.cF X.prog X.w) d xs):∃ ep,∀ {H':Hp},bU X.prog X.w H' h' d (.ext (bR X.prog X.w d ep kvs)):=by
 obtain ⟨o,es,ep,h1,h2,h3,h4,_,h5⟩:=dd
 refine ⟨ep,λ {H'}=>⟨⟨z,hd,xs,rel,o,es,h1,h2,h3,h4,h5⟩,⟨o,h1⟩,λ g1 g2 hp he=>?_⟩⟩
 obtain ⟨z,hd,xs,rel,o,es,h1,h2⟩:=hp
 exact ⟨z,hd,xs,rel,o,es,he _ h1,h2⟩
theorem oZ{r:Value}{Q:Unit->Shared->Prop}(hu:A.units + 64 < cLine)(I:Inv X pins σ H s)(h:DH X.prog X.w H d ep kvs)(hb:aJ H (.ref b) k)(hl:kvs.length < sizeLine)(rv:RelV v r)
  (q:∀ mK s',Inv X pins σ (upd H d (.ext (bR X.prog X.w d mK (ig kvs k b v)))) s'->Q () s'):wpAny (model X.prog X.w) A (setItem (.ref d) (.ref b) r) Q E s:=by
 obtain ⟨z,hd,xs,rel,dd⟩:=I.dh h
 have hz:xs.length <= sizeLine:=by rw [<- f7 rel]; exact z
 have hl2:(ig kvs k b v).length <= sizeLine:=by have:=uH kvs k b v; omega
 refine wpAny_setItem_heap (hsz:=hz) (nB hu) (I.hrm hb) dd λ h' Nz hs=>?_
 obtain ⟨mK,ho'⟩:=xV (X:=X) hl2 hd (rel.put k rv) Nz
 refine q mK _ ?_
 have ho:=ho' (H':=upd H d (.ext (bR X.prog X.w d mK (ig kvs k b v))))
 exact r9 I (by rw [h.1]; exact dQ) hs ho.2.1 ho
end
def D6(P:Program)(w:World):R2:=λ x y H Q=>∃ d b ep kvs k v,x=.ref d /\ y=.ref b /\ DH P w H d ep kvs /\ aJ H (.ref b) k /\ fO kvs k=some v /\ Q v H
def D7(P:Program)(w:World)(v x y:V)(H:Hp)(R:Hp->Prop):Prop:=∃ d b ep kvs k,x=.ref d /\ y=.ref b /\ DH P w H d ep kvs /\ aJ H (.ref b) k /\ kvs.length <= 1000000 /\ ∀ mK H',kh H d (.ext (bR P w d mK (ig kvs k b v))) H'->R H'
def D8(P:Program)(w:World)(td ty tv:TE):TS:=λ D σ H=>tv σ H λ v H1=>td σ H1 λ x H2=>ty σ H2 λ y H3=>D7 P w v x y H3 λ H4=>D.nx σ H4
def D9(P:Program)(w:World)(td ty tv:TE)(rd:V->V->Hp->VK->Prop):TS:=λ D σ H=>td σ H λ x H1=>ty σ H1 λ y H2=>D6 P w x y H2 λ v H3=>tv σ H3 λ y2 H4=>rd v y2 H4 λ z H5=>D7 P w z x y H5 λ H6=>D.nx σ H6
def Ea(P:Program)(w:World):TE:=λ _ H Q=>∀ p ep H',eT H p (.ext (bR P w p ep [])) H'->Q (.ref p) H'
section
variable {X:Cx}{o i e value:Expr}{pos pos' tpos:Pos}{td ty tv:TE}
theorem uI:PE X (.Dict [] [] pos) (Ea X.prog X.w):=λ pins s σ H Q I h =>
 let ⟨ep,ho⟩:=xV (X:=X) (kvs:=[]) (aL _) (beq_eq_false_iff_ne.mpr (aZ (aO I.big))) .nil (Heap.DictOfH.new s.heap)
 wpAny_Dict_empty ⟨.ref s.heap.objs.size,_,I.laid (a:=s.heap.objs.size) (o:=.ext (bR X.prog X.w s.heap.objs.size ep [])) (t':=s.toks) (λ _ _ q=>bS _ q) (ak _) ho,rfl,h _ ep _ ⟨I.hok.fresh (ak _),rfl⟩⟩
theorem Inv.YJ{pins:List (Addr × Obj)}{σ:St}(I:Inv X pins σ H s)(h:DH X.prog X.w H d ep kvs):s.TypeIs (.ref d) "dict" := by
 obtain ⟨_,_,_,_,dd⟩:=I.dh h
 exact dd.typeIs
theorem gA(hu:X.A.units + 64 < cLine)(ho:PE X o td)(hi:PE X i ty)(hs:Gj i):PE X (.Subscript o i pos) (KA (D6 X.prog X.w) td ty):=by
 intro pins s σ H Q I h
 refine yV PySem.F.slot_dict_getitem.lookup hs (cA (ho pins s σ H _ I h) λ u s1 ⟨x,H1,I1,rx,q1⟩=>cA (hi pins s1 σ H1 _ I1 q1) λ iv s2 ⟨y,H2,I2,ry,d,b,ep,kvs,k,v,ex,ey,hd,hb,hv,q2⟩=>?_)
 subst ex ey
 obtain rfl:u=Value.ref d:=rx
 obtain rfl:iv=Value.ref b:=ry
 exact ⟨I2.YJ hd,oY hu I2 hd hb hv λ w' s3 I3 rw'=>⟨v,H2,I3,rw',q2⟩⟩
theorem uJ(hu:X.A.units + 64 < cLine)(ho:PE X o td)(hi:PE X i ty)(hv:PE X value tv)(hs:swapsWith value (some (.Subscript o i pos')) pos.line X.env=pure false):
  PS X (.Assign [.Subscript o i pos'] value pos) (D8 X.prog X.w td ty tv):=by
 intro pins s σ H D I h
 refine wpAny_Assign_Subscript (cA (hv pins s σ H _ I h) λ r s1 ⟨v,H1,I1,rv,q1⟩=>cA (ho pins s1 σ H1 _ I1 q1) λ u s2 ⟨x,H2,I2,rx,q2⟩=>cA (hi pins s2 σ H2 _ I2 q2) λ iv s3 ⟨y,H3,I3,ry,d,b,ep,kvs,k,ex,ey,hd,hb,hl,q3⟩=>?_) hs
 subst ex ey
 obtain rfl:u=Value.ref d:=rx
 obtain rfl:iv=Value.ref b:=ry
 exact oZ hu I3 hd hb (by rw [sizeLine_eq]; omega) rv λ mK s4 I4=>⟨σ,_,I4,q3 mK _ rfl⟩
theorem Eb{op:Operator}{rd:V->V->Hp->VK->Prop}(hu:X.A.units + 64 < cLine)(ho:PE X o td)(hi:PE X i ty)(hv:PE X value tv)(hop:Oc X op rd)
  (ha:∀ ov iv new,augStore i ov iv new=(do holding [new,ov,iv] (setItem ov iv new); release [new,ov,iv] []; pure .next)):PS X (.AugAssign (.Subscript o i tpos) op value pos) (D9 X.prog X.w td ty tv rd):=by
 intro pins s σ H D I h
 refine wpAny_AugAssign_SubscriptAny (cA (ho pins s σ H _ I h) λ u s1 ⟨x,H1,I1,rx,q1⟩=>cA (hi pins s1 σ H1 _ I1 q1) λ iv s2 ⟨y,H2,I2,ry,d,b,ep,kvs,k,v,ex,ey,hd,hb,hvl,q2⟩=>?_) ha
 subst ex ey
 obtain rfl:u=Value.ref d:=rx
 obtain rfl:iv=Value.ref b:=ry
 refine oY hu I2 hd hb hvl λ w' s3 I3 rw'=>cA (hv pins s3 σ H2 _ I3 q2) λ w2 s4 ⟨y2,H3,I4,YK,q3⟩=>cA (hop pins s4 σ H3 v y2 w' w2 _ I4 rw' YK q3) λ w3 s5 ⟨z,H4,I5,rz,d5,b5,ep5,YL,k5,YM,YN,P0,YO,Xi,q4⟩=>?_
 cases YM
 cases YN
 exact oZ hu I5 P0 YO (by rw [sizeLine_eq]; omega) rz λ mK s6 I6=>⟨σ,_,I6,q4 mK _ rfl⟩
end
def Ec(P:Program)(w:World)(d:Addr)(ep:Nat)(kvs:cZ):It :=
 ⟨λ i H=>H d=some (.ext (bR P w d ep kvs)) /\ i < kvs.length,λ i H x H'=>H'=H /\ ∃ e,kvs[i]? = some e /\ x=.ref e.2.1,λ i H=>H d=some (.ext (bR P w d ep kvs)) /\ i=kvs.length⟩
theorem Inv.raw{X:Cx}{pins:List (Addr × Obj)}{σ:St}(I:Inv X pins σ H s)(h:H d=some (.ext (bR X.prog X.w d ep kvs))):
  (d == sysModules)=false /\ kvs.length <= sizeLine /\ ∃ es:Array DictEntry,SN.gG s.heap d es ep /\ es.size=kvs.length /\ ∀ (i:Nat) e,kvs[i]? = some e->∃ u,es[i]? = some u /\ u.key=.ref e.2.1 /\ RelV e.2.2 u.val:=by
 obtain ⟨⟨z,hd,xs,rel,o,es,h1,h2,h3,h4,h5⟩,_,_⟩:=I.hok d _ h
 have hl:xs.length=kvs.length:=(f7 rel).symm
 have hs:es.size=xs.length:=by rw [<- bT,h4,aq]
 refine ⟨hd,z,es,⟨o,h1,h2,h3⟩,by omega,λ i e he=>?_⟩
 obtain ⟨x,hx,r1,r2,r3⟩:=jl rel he
 refine ⟨entryOfKey (HM.cF X.prog X.w) x,?_,?_,?_⟩
 ·rw [<- c6,h4,aS,hx]
  rfl
 ·show Value.ref x.2.1=_
  rw [r2]
 ·exact r3
theorem xW{K:ay}{tg:Expr}(d it:Addr)(ep:Nat)(kvs:cZ):Turn P w K tg (Ec P w d ep kvs) [it] it (λ i h=>h.IsKeyIter it d i kvs.length ep) where
 mem:=by simp
 obj:=λ i h st b hb=>by
  have e:b=it:=by simpa using hb
  subst e
  obtain ⟨o,e,c,dd⟩:=st
  exact ⟨o,e,λ v z=>by rw [dd] at z; cases z⟩
 keep:=λ i h h' st k=>st.at λ o e=>k it (by simp) o e
 item:=by
  intro X hP hw hK hc i pins s σ H E I hf st hg
  subst hP hw hK
  obtain ⟨hd,hi⟩:=hg
  obtain ⟨_,_,es,rd,hs,hat⟩:=I.raw hd
  obtain ⟨f0,f1,f2,f3,f4,f5⟩:=hf it (by simp)
  have he:kvs[i]? = some kvs[i]:=dB hi
  obtain ⟨u,hu,hk,_⟩:=hat i _ he
  rw [<- hs] at st
  refine SN.uv st rd hu λ h' st' sb=>?_
  have I1:Inv X pins σ H { s with heap:=h' }:=I.turned (t':=s.toks) (λ b o hb e=>(sb.2 b hb).trans e) f0 f1 f3 f4 f5
  rw [hs] at st'
  obtain ⟨o,e,c,dd⟩:=id st'
  exact ⟨u.key,rfl,tM (s:={ s with heap:=h' }) e c dd (by decide) ⟨.ref kvs[i].2.1,H,I1,hk,⟨rfl,_,he,rfl⟩,st',λ b hb=>(hf b hb).1⟩⟩
 done:=by
  intro X hP hw hK hc i pins s σ H E I hf st hg
  subst hP hw hK
  obtain ⟨hd,hi⟩:=hg
  obtain ⟨_,_,es,rd,hs,hat⟩:=I.raw hd
  obtain ⟨f0,f1,f2,f3,f4,f5⟩:=hf it (by simp)
  subst hi
  rw [<- hs] at st
  exact SN.zw (I.ok.hd hc) st rd λ h' eb=>⟨rfl,I.turned (t':=s.toks) (λ b o hb e=>eb b o hb e) f0 f1 f3 f4 f5⟩
 self:=λ _ _ _ _ _ st h=>wpAny_pyIter_keyiter st h
def Mj(P:Program)(w:World)(R:It->Hp->Prop):V->Hp->Prop:=λ x H=>∃ d ep kvs,x=.ref d /\ H d=some (.ext (bR P w d ep kvs)) /\ R (Ec P w d ep kvs) H
def Ed(P:Program)(w:World)(tl:TE):TI:=λ σ H R=>tl σ H (Mj P w R)
section
variable {X:Cx}{tg:Expr}
theorem kN{l:Expr}{tl:TE}(hl:PE X l tl):PI X tg l (Ed X.prog X.w tl):=by
 intro pins s σ H R I h
 refine cA (hl pins s σ H _ I h) λ v s1 ⟨x,H1,I1,r1,q1⟩=>?_
 obtain ⟨d,ep,kvs,e,hd,q⟩:=q1
 subst e
 cases r1
 obtain ⟨lo,_,es,rd,hs,hat⟩:=I1.raw hd
 refine SN.uu lo rd ?_
 refine ⟨s1.heap.objs.size,[s1.heap.objs.size],_,_,H1,rfl,I1.kept (t':=s1.toks) λ b o e=>bS _ e,xW d _ ep kvs,⟨_,fJ _ rfl,rfl,by rw [<- hs]; rfl⟩,λ b hb=>?_,q⟩
 have e:b=s1.heap.objs.size:=by simpa using hb
 subst e
 exact I1.jJ (ak _) (I1.hok.fresh (ak _))
end
section
variable {K:ay}{nx bk ct:St->Hp->Prop}{rt:VK}{σ:St}{H:Hp}{Q:VK}{te:TE}{P:Program}{w:World}
theorem Ef{tl:TE}{R:It->Hp->Prop}(h:tl σ H (Mj P w R)):Ed P w tl σ H R:=h
theorem P1{R:It->Hp->Prop}(hd:H d=some (.ext (bR P w d ep kvs)))(h:R (Ec P w d ep kvs) H):Mj P w R (.ref d) H:=⟨d,ep,kvs,rfl,hd,h⟩
theorem G3{g:TG}{tb:TS}(Pv:Nat->St->Hp->Prop)(h0:Pv 0 σ H)(hl:∀ i σ H,i <= kvs.length->Pv i σ H->H d=some (.ext (bR P w d ep kvs)))
  (hs:∀ i e σ H,kvs[i]? = some e->Pv i σ H->g (.ref e.2.1) σ H λ σ2 H2=>tb ⟨Pv (i + 1),rt,nx,Pv (i + 1)⟩ σ2 H2)(hd:∀ σ H,Pv kvs.length σ H->nx σ H):Jg (Ec P w d ep kvs) g tb nx rt σ H :=
 ⟨λ i m σ H=>m=kvs.length - i /\ i <= kvs.length /\ Pv i σ H,⟨kvs.length,by omega,by omega,h0⟩,λ i m σ' H' ⟨e,hi,p⟩=>by
  rcases bG i kvs.length with hlt | hge
  ·refine .inr ⟨⟨hl i _ _ hi p,hlt⟩,Pv (i + 1),λ σ2 H2 q=>⟨kvs.length - (i + 1),by omega,rfl,hlt,q⟩,?_⟩
   rintro x H2 ⟨rfl,e,he,rfl⟩
   exact hs i e σ' _ he p
  ·have e:i=kvs.length:=by omega
   subst e
   exact .inl ⟨⟨hl _ _ _ hi p,rfl⟩,hd _ _ p⟩⟩
theorem sH{tt:TT}{τ:St}(Pv:Nat->List V->Hp->Prop)(h0:Pv 0 [] H)(hl:∀ i ys H,i <= kvs.length->Pv i ys H->H d=some (.ext (bR P w d ep kvs)))
  (hs:∀ i e ys H,kvs[i]? = some e->Pv i ys H->ys.length < sizeLine /\ tt (some (.ref e.2.1) :: τ) H λ b H3=>if b=true then te (some (.ref e.2.1) :: τ) H3 λ y H4=>Pv (i + 1) (ys++[y]) H4 else Pv (i + 1) ys H3)
  (hd:∀ ys H,Pv kvs.length ys H->∀ p H',eT H p (.lst ys) H'->Q (.ref p) H'):GA (Ec P w d ep kvs) tt te τ Q H:=by
 refine ⟨λ i m ys H=>m=kvs.length - i /\ i <= kvs.length /\ Pv i ys H,⟨kvs.length,by simp,aL _,h0⟩,?_⟩
 rintro i m ys H ⟨rfl,hi,p⟩
 have q:=hl i ys H hi p
 by_cases hlt:i < kvs.length
 ·have hx:kvs[i]? = some kvs[i]:=by simp [hlt]
  obtain ⟨hz,q'⟩:=hs i _ ys H hx p
  refine .inr ⟨⟨q,hlt⟩,hz,Pv (i + 1),λ σ' H' p'=>⟨kvs.length - (i + 1),by omega,rfl,hlt,p'⟩,λ x H' y=>?_⟩
  obtain ⟨e,e2,he,y⟩:=y
  subst e y
  rw [hx] at he
  cases he
  exact q'
 ·have e:i=kvs.length:=by omega
  subst e
  exact .inl ⟨⟨q,rfl⟩,λ r hr=>hd ys H p r _ ⟨hr,rfl⟩⟩
end
def gY(ks:Nat->HM.aR × Addr)(vs:Nat->V):Nat->cZ
 | 0=>[]
 | n + 1=>ig (gY ks vs n) (ks n).1 (ks n).2 (vs n)
theorem o4(ks:Nat->HM.aR × Addr)(vs:Nat->V):∀ n,(gY ks vs n).length <= n
 | 0=>ak _
 | n + 1=>by
  have h1:=o4 ks vs n
  have h2:=uH (gY ks vs n) (ks n).1 (ks n).2 (vs n)
  show (ig (gY ks vs n) (ks n).1 (ks n).2 (vs n)).length <= n + 1
  omega
theorem Bd(h:k ∉ kvs.map (·.1)):fO kvs k=none:=by
 unfold fO
 rw [List.find?_eq_none.mpr λ x hx e=>h (aA.mpr ⟨x,hx,by simpa using e⟩)]
 rfl
theorem o5{a:Addr}(h:k ∉ kvs.map (·.1)):ig kvs k a v=kvs++[(k,a,v)]:=by
 unfold ig
 rw [Bd h]
 rfl
theorem qP{ks:Nat->HM.aR × Addr}{vs:Nat->V}:∀ {n:Nat},(∀ i j,i < j->j < n->(ks i).1 ≠ (ks j).1)->gY ks vs n=(List.range n).map λ i=>((ks i).1,(ks i).2,vs i)
 | 0,_=>rfl
 | n + 1,h=>by
  have ih:=qP (ks:=ks) (vs:=vs) (n:=n) λ i j hi hj=>h i j hi (by omega)
  show ig (gY ks vs n) (ks n).1 (ks n).2 (vs n)=_
  rw [ih,o5,List.range_succ,bM]
  ·rfl
  ·intro hm
   obtain ⟨x,hx,e⟩:=aA.mp hm
   obtain ⟨i,hi,rfl⟩:=aA.mp hx
   exact h i n (fT.mp hi) (by omega) e
section
variable {prog:Program}{w:World}{A:Around}
theorem zG{h h':Heap}{it:Addr}(dd:h.DictOfH (HM.cF prog w) d xs)(hd:d ≠ it)(hi:∀ o vs n,h.get? it=some o->o.data ≠ .seq vs n)(k:∀ b o,b ≠ it->h.get? b=some o->h'.get? b=some o):h'.DictOfH (HM.cF prog w) d xs:=by
 obtain ⟨o,es,ep,h1,h2,h3,h4,h5,h6⟩:=dd
 refine ⟨o,es,ep,k d o hd h1,h2,h3,h4,λ x hx=>?_,h6⟩
 exact HM.bh.stay (h5 x hx) λ b o vs n _ ds e=>k b o (λ z=>by subst z; exact hi o vs n e ds) e
theorem uK{R:Result->Shared->Prop}{s0:Shared}{it:Addr}{its:Array Value}{n:Nat}{ks:Nat->HM.aR × Addr}{vs:Nat->V}(hu:A.units + 10 < cLine)(hd:d ≠ it)(hdl:d ≠ l)(hli:l ≠ it)(hh:A.in1.handled=none)(hn:n <= sizeLine)(hsz:its.size=n)
  (hni:∀ o vs n,s0.heap.get? it=some o->o.data ≠ .seq vs n)(hnd:∀ o vs n,s0.heap.get? d=some o->o.data ≠ .seq vs n)
  (hp:∀ i,i < n->∃ (T:Addr) (v:Value) (o:Obj) (c:Nat),its[i]? = some (.ref T) /\ s0.heap.get? T=some o /\ o.cls=.type "tuple" /\ o.data=.seq #[.ref (ks i).2,v] c /\ T ≠ it /\ T ≠ d /\ HM.bh s0.heap (ks i).1 (ks i).2 /\ RelV (vs i) v)
  (hl:s0.heap.IsList l its)
  (hR:∀ h' tk rs,(∀ b o,b ≠ it->b ≠ d->s0.heap.get? b=some o->h'.get? b=some o)->h'.DictOfH (HM.cF prog w) d rs->iX (gY ks vs n) rs->R (.ok (.ret .none)) { s0 with heap:=h',toks:=tk }):
  ∀ (k i:Nat) (h:Heap) (t:Nat) (rs:List (HM.aR × Addr × Value)) (c:Tok),n - i=k->i <= n->(∀ b o,b ≠ it->b ≠ d->s0.heap.get? b=some o->h.get? b=some o)->h.IsListIter it l i->h.DictOfH (HM.cF prog w) d rs->iX (gY ks vs i) rs ->
   codeAny (model prog w) A (.builtin "dict.update.loop" ⟨[.ref d,.ref it,.int i c,.none],[]⟩) R { s0 with heap:=h,toks:=t }:=by
 have lst:∀ h:Heap,(∀ b o,b ≠ it->b ≠ d->s0.heap.get? b=some o->h.get? b=some o)->h.IsList l its:=λ h kp=>let ⟨o,q,r⟩:=hl; ⟨o,kp l o hli (aZ hdl) q,r⟩
 have Xj:∀ {h:Heap} {i:Nat},h.IsListIter it l i->∀ o vs n,h.get? it=some o->o.data ≠ .seq vs n:=λ hit o vs n e z=>by
  obtain ⟨o',e',_,d'⟩:=hit
  rw [e] at e'
  cases e'
  rw [d'] at z
  cases z
 intro k
 induction k with
 | zero =>
  intro i h t rs c hk hi kp hit dd rel
  have e:i=n:=by omega
  subst e
  refine codeAny_builtin F.dR ?_
  rw [fh F.bL _]
  show wpAny _ A.in1 (pyNext (.ref it) >>= _) _ _ _
  refine af (wpAny_pyNext_list_end (s:={ s0 with heap:=h,toks:=t }) hh hit (lst h kp) (nR (by omega)) λ h' k'=>?_)
  show wpAny _ A.in1 (Builtin.Dict.addKeywords d [] >>= _) _ _ _
  refine af (aE (aE ?_))
  exact hR h' t rs (λ b o b1 b2 q=>k' b o b1 (kp b o b1 b2 q)) (zG dd hd (Xj hit) λ b o b1 q=>k' b o b1 q) rel
 | succ k ih =>
  intro i h t rs c hk hi kp hit dd rel
  have hlt:i < n:=by omega
  obtain ⟨T,v,o,cc,hx,hT,YQ,YR,n1,n2,hk0,rv⟩:=hp i hlt
  refine codeAny_builtin F.dR ?_
  rw [fh F.bL _]
  show wpAny _ A.in1 (pyNext (.ref it) >>= _) _ _ _
  refine af (wpAny_pyNext_list_item (s:={ s0 with heap:=h,toks:=t }) hit (lst h kp) hx λ h1 UZ NC=>?_)
  have k1:∀ b o,b ≠ it->h.get? b=some o->h1.get? b=some o:=λ b o b1 q=>NC.extBut b o b1 q
  have ht:h1.get? T=some o:=k1 T o n1 (kp T o n1 n2 hT)
  have d1:h1.DictOfH (HM.cF prog w) d rs:=zG dd hd (Xj hit) k1
  have hk1:HM.bh h1 (ks i).1 (ks i).2:=HM.bh.stay hk0 λ b o vs n _ ds e=>by
   have b1:b ≠ it:=λ z=>by subst z; exact hni o vs n e ds
   have b2:b ≠ d:=λ z=>by subst z; exact hnd o vs n e ds
   exact k1 b o b1 (kp b o b1 b2 e)
  have UP:({ s0 with heap:=h1,toks:=t }:Shared).TypeIs (.ref T) "tuple" := ⟨_,ht,YQ⟩
  show wpAny _ A.in1 (holding [Value.ref T] _ >>= _) _ _ _
  refine af (wpAny_holding ?_)
  refine af (wpAny_tryCatch ?_)
  unfold Builtin.Dict.pairItems
  refine af (wpAny_typeOf UP ?_)
  show wpAny _ _ (seqItems? (.ref T) >>= _) _ _ _
  refine af (wpAny_seqItems ht YR (aE ?_))
  show wpAny _ _ (holding [.ref (ks i).2,v] (dictSet d (.ref (ks i).2) v)) _ _ _
  refine wpAny_holding (wpAny_dictSet_heap (hsz:=?_) (by show A.in1.units + 2 < cLine; simp only [Around.in1]; omega) hk1 d1 λ h2 d2 sb=>?_)
  ·refine aE ⟨plainId_quiet F.bL _,?_⟩
   refine ih (i + 1) h2 _ (storedH rs (ks i).1 (ks i).2 v) 0 (by omega) hlt (λ b o b1 b2 q=>?_) ?_ d2 (rel.put (ks i).1 rv)
   ·exact sb.extBut b o b2 (k1 b o b1 (kp b o b1 b2 q))
   ·obtain ⟨oi,wD,ri⟩:=UZ
    exact ⟨oi,sb.extBut it oi (aZ hd) wD,ri⟩
  ·rw [<- f7 rel]
   exact br (o4 ks vs i) (br (gS hlt) hn)
theorem uL{E:Value->Shared->Prop}{its:Array Value}{n:Nat}{ks:Nat->HM.aR × Addr}{vs:Nat->V}{Q:Value->Shared->Prop}(hu:A.units + 20 < cLine)(hx:PlainL s.heap l its)(hh:A.in1.in1.handled=none)(hn:n <= sizeLine)(hsz:its.size=n)
  (hp:∀ i,i < n->∃ (T:Addr) (v:Value) (o:Obj) (c:Nat),its[i]? = some (.ref T) /\ s.heap.get? T=some o /\ o.cls=.type "tuple" /\ o.data=.seq #[.ref (ks i).2,v] c /\ HM.bh s.heap (ks i).1 (ks i).2 /\ RelV (vs i) v)
  (q:∀ h' tk rs,(∀ b o,s.heap.get? b=some o->h'.get? b=some o)->h'.DictOfH (HM.cF prog w) s.heap.objs.size rs->iX (gY ks vs n) rs->Q (.ref s.heap.objs.size) { s with heap:=h',toks:=tk }):
  wpAny (model prog w) A (call (.type "dict") [.ref l]) Q E s:=by
 refine callType_codes (Q₁:=λ x s1=>x=.ref s.heap.objs.size /\ s1={ s with heap:=s.heap.push { cls:=.type "dict", data:=.dict #[] } }) F.kt_called_dict (F.kt_typeCall_dict_1 _) F.entry_dict_init (kt_code_dict_new _ ⟨rfl,rfl⟩) ?_
 rintro _ _ ⟨rfl,rfl⟩
 have dd:(s.heap.push { cls:=.type "dict", data:=.dict #[] }).DictOfH (HM.cF prog w) s.heap.objs.size []:=Heap.DictOfH.new s.heap
 have YS:PlainL (s.heap.push { cls:=.type "dict", data:=.dict #[] }) l its:=hx.keeps λ b o e=>bS _ e
 refine ⟨dd.typeIs,F.args_dict_init_2 _ _,?_⟩
 unfold Builtin.«dict.__init__»
 refine af ?_
 unfold Builtin.Dict.selfAndRest
 refine af (wpAny_notOrdered_dict dd.typeIs ?_)
 refine aE (a:=(s.heap.objs.size,[Value.ref l])) ?_
 show wpAny _ _ (Builtin.Dict.updateFrom "dict.__init__" s.heap.objs.size (.ref l) [] .none) _ _ _
 unfold Builtin.Dict.updateFrom
 obtain ⟨⟨cls,dc,da,sl⟩,c,e0,e1,e2,e3⟩:=YS
 simp only at e1 e2 e3
 subst e1 e2 e3
 refine af (wpAny_typeOf (T := "list") ⟨_,e0,rfl⟩ ?_)
 rw [if_pos (by decide)]
 refine af (ZP.GI e0 hh λ h1 t1 k1=>?_)
 show wpAny _ _ (rule _ >>= _) _ _ _
 refine af (wpAny_rule ?_)
 have hl1:h1.IsList l its:=⟨_,k1 _ _ e0,rfl,c,rfl⟩
 refine af (wpAny_pyIter_list (s:={ s with heap:=h1,toks:=t1 }) hl1 ?_)
 refine aE ⟨plainId_quiet F.bL _,?_⟩
 have sz:∀ b o,s.heap.get? b=some o->b ≠ s.heap.objs.size:=λ b o e=>aO (aD e)
 have k0:∀ b o,s.heap.get? b=some o->h1.get? b=some o:=λ b o e=>k1 b o (bS _ e)
 have k2:∀ b o,h1.get? b=some o->(h1.push { cls:=.type "list_iterator", data:=.fields #[.ref l,.int 0 0] }).get? b=some o:=λ b o e=>bS _ e
 have Si:∀ b o,h1.get? b=some o->b ≠ h1.objs.size:=λ b o e=>aO (aD e)
 have hdo:h1.get? s.heap.objs.size=some { cls:=.type "dict", data:=.dict #[] }:=k1 _ _ (fJ _ rfl)
 have hdi:s.heap.objs.size ≠ h1.objs.size:=Si _ _ hdo
 obtain ⟨ol,nl,NB,_⟩:=hx
 refine uK (s0:={ s with heap:=h1.push { cls:=.type "list_iterator", data:=.fields #[.ref l,.int 0 0] },toks:=t1 }) (it:=h1.objs.size) (l:=l) (d:=s.heap.objs.size) (its:=its) (n:=n) (ks:=ks) (vs:=vs) (by simp only [Around.in1]; omega) hdi (aZ (sz _ _ NB)) (Si _ _ (k0 _ _ NB)) hh hn hsz (λ o vs n e z=>?_) (λ o vs n e z=>?_) (λ i hi=>?_) (let ⟨o,a,r⟩:=hl1; ⟨o,k2 _ _ a,r⟩) (λ h' tk rs k' d' rel=>?_) _ 0 _ t1 [] 0 rfl (aL _) (λ b o _ _ e=>e) ⟨_,fJ _ rfl,rfl,rfl⟩ ⟨_,#[],0,k2 _ _ hdo,⟨rfl,rfl,rfl⟩,rfl,rfl,(λ x hx=>nomatch hx),iH⟩ .nil
 ·have e':some ({ cls:=.type "list_iterator", data:=.fields #[.ref l,.int 0 0] }:Obj)=some o:=(fJ _ rfl).symm.trans e
  cases e'
  cases z
 ·have e':=(k2 _ _ hdo).symm.trans e
  cases e'
  cases z
 ·obtain ⟨T,v,o,c,a1,a2,a3,a4,a5,a6⟩:=hp i hi
  exact ⟨T,v,o,c,a1,k2 _ _ (k0 _ _ a2),a3,a4,Si _ _ (k0 _ _ a2),sz _ _ a2,HM.bh.stay a5 λ b o _ _ _ _ e=>k2 _ _ (k0 _ _ e),a6⟩
 ·exact ⟨rfl,q h' tk rs (λ b o e=>k' b o (Si _ _ (k0 _ _ e)) (sz _ _ e) (k2 _ _ (k0 _ _ e))) d' rel⟩
end
abbrev kO(H:Hp):List V->List (HM.aR × Addr × V)->Prop:=Paired λ u p=>∃ t,u=.ref t /\ H t=some (.tup [.ref p.2.1,p.2.2]) /\ aJ H (.ref p.2.1) p.1
def Jw(K:ay)(P:Program)(w:World):List V->Hp->VK->Prop:=λ vs H Q=>∃ a us ps,vs=[.ref a] /\ bI K H a us /\ kO H us ps /\ (ps.map (·.1)).Nodup /\ ∀ p ep H',eT H p (.ext (bR P w p ep ps)) H'->Q (.ref p) H'
end L2
namespace SN
open PySem PySem.Spec PyProof.Rows
section
variable {prog:Program}{w:World}{A:Around}{E:Value->Shared->Prop}{s:Shared}
theorem G4{d:Addr}{es:Array DictEntry}{ep:Nat}(hd:(d == sysModules)=false):
  MeetsIn prog w (Builtin.«dict.__len__» ⟨[.ref d],[]⟩) (λ _ R s=>gG s.heap d es ep /\ R (.ok (.ret (.int es.size s.toks))) { s with toks:=s.toks + 1 }) :=
 .of_wp λ A R s ⟨hm,h⟩=>by
  obtain ⟨o,ho,hc,hdat⟩:=hm
  show wpAny _ _ (dictSize d >>= _) _ _ s
  unfold dictSize
  refine af (af (wpAny_dictEntries ho hdat (aE ?_)))
  show wpAny _ _ (Builtin.Dict.pendingCount d >>= _) _ _ s
  refine af (wpAny_pendingCount_other hd ?_)
  refine wpAny_ret_mkInt ?_
  rw [Nat.add_zero]
  exact h
theorem sI{d:Addr}{es:Array DictEntry}{ep:Nat}{Q:Value->Shared->Prop}(hd:(d == sysModules)=false)(hm:gG s.heap d es ep)(hfit:(es.size:Int) < 2 ^ 63)
  (h:Q (.int es.size (s.toks + 1)) { s with toks:=s.toks + 1 + 1 }):wpAny (model prog w) A (call (.builtin "len") [.ref d]) Q E s:=by
 refine rJ kind_len plain_len entry_len (args_len1 _) ?_
 unfold Builtin.«len»
 refine af (m:=oneArg "len" _) (aE ?_)
 refine af (m:=callSpecial? (.ref d) (Str.ofString "__len__")) (wpAny_callSpecial?_slot (name:=Str.ofString "__len__") hm.ty F.slot_dict_len
  (call_meetsIn F.slot_dict_len hm.ty F.entry_dict_len (F.args_dict_len_1 _) (G4 (es:=es) (ep:=ep) hd) ⟨hm,?_⟩))
 show wpAny _ _ _ _ _ { s with toks:=s.toks + 1 }
 refine af (wpAny_holding (aE ?_))
 refine af (wpAny_letGo ?_)
 show wpAny _ _ (if ((es.size:Nat):Int) < 0 then _ else _) _ _ _
 rw [if_neg (by omega)]
 show wpAny _ _ (if ((es.size:Nat):Int) >= 2 ^ 63 then _ else _) _ _ _
 rw [if_neg (by omega)]
 exact af (wpAny_mkInt (aE ⟨_,rfl,h⟩))
end
end SN
namespace L2
open PySem PySem.Spec PyProof.Rows
variable {d:Addr}{ep:Nat}{kvs:cZ}
section
variable {X:Cx}{K:ay}{P:Program}{w:World}{H:Hp}{Q:VK}
def Jx(P:Program)(w:World):List V->Hp->VK->Prop:=λ xs H Q=>∃ d ep kvs,xs=[.ref d] /\ H d=some (.ext (bR P w d ep kvs)) /\ Q (.int kvs.length) H
theorem mw:cX X (.builtin "len") (Jx X.prog X.w):=by
 intro pins s σ H xs us Q I r h
 obtain ⟨d,ep,kvs,rfl,hd,q⟩:=h
 obtain ⟨u,rfl,ru⟩:=vals1 r
 cases ru
 obtain ⟨lo,z,es,rd,hs,hat⟩:=I.raw hd
 refine SN.sI lo rd (by rw [sizeLine_eq] at z; omega) ?_
 exact ⟨.int kvs.length,H,I.tok _,⟨_,by rw [hs]⟩,q⟩
theorem Mk(hd:H d=some (.ext (bR P w d ep kvs)))(q:Q (.int kvs.length) H):Jx P w [.ref d] H Q:=⟨d,ep,kvs,rfl,hd,q⟩
def Jy(K:ay)(P:Program)(w:World):List V->Hp->VK->Prop:=λ xs H Q=>∃ d ep kvs T b,xs=[.ref d,.ty T] /\ H d=some (.ext (bR P w d ep kvs)) /\ PySem.W.kitOne K (.type "dict") (.type T)=some b /\ Q (.bl b) H
theorem Be:cX X (.builtin "isinstance") (Jy X.K X.prog X.w):=by
 intro pins s σ H xs us Q I r h
 obtain ⟨d,ep,kvs,T,b,rfl,hd,e,q⟩:=h
 cases r with
 | cons r1 r =>
  cases r with
  | cons r2 r =>
   cases r
   cases r1
   cases r2
   obtain ⟨lo,z,es,⟨o,h1,h2,_⟩,hs,hat⟩:=I.raw hd
   exact dP PySem.W.kitx_dict I.rO ⟨o,h1,h2.1⟩ e (λ z=>nomatch z) λ tk=>⟨.bl b,H,I.tok _,rfl,q⟩
def Eg(P:Program)(w:World):List V->Hp->VK->Prop:=λ xs H Q=>∃ d ep kvs,xs=[.ref d] /\ H d=some (.ext (bR P w d ep kvs)) /\ ∀ p H',eT H p (.lst (kvs.map λ e=>V.ref e.2.1)) H'->Q (.ref p) H'
theorem o6{H:Hp}{us:List V}{ps:cZ}(h:kO H us ps){i:Nat}(hi:i < ps.length):∃ t,us[i]? = some (.ref t) /\ H t=some (.tup [.ref (ps.getD i ((0,none),0,.cP)).2.1,(ps.getD i ((0,none),0,.cP)).2.2]) /\ aJ H (.ref (ps.getD i ((0,none),0,.cP)).2.1) (ps.getD i ((0,none),0,.cP)).1:=by
 have hl:=h.length
 obtain ⟨p,hp,t,e,h1,h2⟩:=jl h (i:=i) (x:=us[i]'(by omega)) (dB _)
 have ep:ps.getD i ((0,none),0,.cP)=p:=by rw [iR,hp]; rfl
 rw [ep]
 exact ⟨t,by rw [dB (by omega),e],h1,h2⟩
theorem o7(hu:X.A.units + 64 < cLine)(hc:X.calm=true):cX X (.type "dict") (Jw X.K X.prog X.w):=by
 intro pins s σ H xs us Q I r h
 obtain ⟨l,ul,ps,rfl,hS,hP,nd,q⟩:=h
 obtain ⟨u,rfl,r1⟩:=vals1 r
 cases r1
 obtain ⟨its,rv,pl,hz⟩:=I.list hS
 have e1:ul.length=ps.length:=hP.length
 have hA:X.A.in1.in1.handled=none:=I.ok.hd hc
 have big:@LT.lt Nat _ sysModules s.heap.objs.size:=I.big
 have n6:@Ne Nat s.heap.objs.size sysModules:=by omega
 have hl:=rv.length
 have eb:gY (λ i=>((ps.getD i ((0,none),0,.cP)).1,(ps.getD i ((0,none),0,.cP)).2.1)) (λ i=>(ps.getD i ((0,none),0,.cP)).2.2) ps.length=ps:=by
  rw [qP]
  ·exact range_getD _ ps
  ·intro i j hi hj e
   have gi:∀ k (hk:k < ps.length),ps.getD k ((0,none),0,.cP)=ps[k]:=λ k hk=>by rw [iR,dB hk]; rfl
   dsimp only at e
   rw [gi i (by omega),gi j hj] at e
   have:=(lN nd (i:=i) (j:=j) (h₀:=by rw [aq]; omega) (h₁:=by rw [aq]; omega)).mp (by rw [oh,oh]; exact e)
   omega
 refine uL (n:=ps.length) (ks:=λ i=>((ps.getD i ((0,none),0,.cP)).1,(ps.getD i ((0,none),0,.cP)).2.1)) (vs:=λ i=>(ps.getD i ((0,none),0,.cP)).2.2) (by omega) pl hA (by omega) (by rw [aM]; omega) (λ i hi=>?_) λ h' tk rs k' d' rel=>?_
 ·obtain ⟨t,ht,YT,hh⟩:=o6 hP hi
  obtain ⟨w,hw,rw'⟩:=rv.get ht
  cases rw'
  obtain ⟨its2,YU,pt,_⟩:=I.tuple (gm.of YT)
  obtain ⟨o,ho,hc',n,hd⟩:=pt
  cases YU with
  | cons a1 b1 =>
   cases b1 with
   | cons a2 b2 =>
    cases b2
    cases a1
    exact ⟨t,_,o,n,by simpa using hw,ho,hc',hd,I.hrm hh,a2⟩
 ·rw [eb] at rel
  have I3:Inv X pins σ H { s with heap:=h',toks:=tk }:=I.kept k'
  have fd:c9 X pins H s.heap.objs.size:=I.jJ (ak _) (I.hok.fresh (ak _))
  obtain ⟨ep,ho⟩:=xV (X:=X) (by rw [<- e1]; exact hz) (beq_eq_false_iff_ne.mpr n6) rel d'
  have I4:=I3.tR fd (o:=.ext (bR X.prog X.w s.heap.objs.size ep ps)) ho
  exact ⟨.ref _,_,I4,rfl,q _ ep _ ⟨fd.1,rfl⟩⟩
theorem zH{a:Addr}{us:List V}{ps:cZ}(hS:bI K H a us)(hP:kO H us ps)(nd:(ps.map (·.1)).Nodup)(h:∀ p ep H',eT H p (.ext (bR P w p ep ps)) H'->Q (.ref p) H'):Jw K P w [.ref a] H Q:=⟨a,us,ps,rfl,hS,hP,nd,h⟩
end
section
variable {K:ay}{P:Program}{w:World}{nx bk ct:St->Hp->Prop}{rt:VK}{σ:St}{H:Hp}{Q:VK}{td ty tv:TE}
theorem G5(h:∀ p ep H',eT H p (.ext (bR P w p ep [])) H'->Q (.ref p) H'):Ea P w σ H Q:=h
theorem jO{b:Addr}{k:HM.aR}{v:V}(hd:H d=some (.ext (bR P w d ep kvs)))(hk:bw H kvs)(hb:aJ H (.ref b) k)(hv:fO kvs k=some v)(h:Q v H):D6 P w (.ref d) (.ref b) H Q:=⟨d,b,ep,kvs,k,v,rfl,rfl,⟨hd,hk⟩,hb,hv,h⟩
theorem Eh{b:Addr}{k:HM.aR}{v:V}{R:Hp->Prop}(hd:H d=some (.ext (bR P w d ep kvs)))(hk:bw H kvs)(hb:aJ H (.ref b) k)(hz:kvs.length <= 1000000)(h:∀ mK H',kh H d (.ext (bR P w d mK (ig kvs k b v))) H'->R H'):D7 P w v (.ref d) (.ref b) H R:=⟨d,b,ep,kvs,k,rfl,rfl,⟨hd,hk⟩,hb,hz,h⟩
theorem G6(h:tv σ H λ v H1=>td σ H1 λ x H2=>ty σ H2 λ y H3=>D7 P w v x y H3 λ H4=>nx σ H4):D8 P w td ty tv ⟨nx,rt,bk,ct⟩ σ H:=h
theorem G7{rd:V->V->Hp->VK->Prop}(h:td σ H λ x H1=>ty σ H1 λ y H2=>D6 P w x y H2 λ v H3=>tv σ H3 λ y2 H4=>rd v y2 H4 λ z H5=>D7 P w z x y H5 λ H6=>nx σ H6):D9 P w td ty tv rd ⟨nx,rt,bk,ct⟩ σ H:=h
end
end L2
namespace SN
open PySem PySem.Spec PyProof.Rows
variable {d:Addr}{ep:Nat}{es:Array DictEntry}
section
variable {prog:Program}{w:World}{A:Around}{E:Value->Shared->Prop}{s:Shared}
theorem Bf{it:Addr}{i:Nat}{e:DictEntry}{Q:Option Value->Shared->Prop}(hit:s.heap.IsValIter it d i es.size ep)(x:gG s.heap d es ep)(he:es[i]? = some e)
  (hQ:∀ h',h'.IsValIter it d (i + 1) es.size ep->Heap.SameBut it s.heap h'->Q (some e.val) { s with heap:=h' }):wpAny (model prog w) A (pyNext (.ref it)) Q E s:=by
 have ty:=hit.typeIs
 obtain ⟨o,ho,hc,hf⟩:=hit
 obtain ⟨od,hod,_,qi⟩:=x
 unfold pyNext
 refine af (wpAny_attempt (wpAny_callSpecial?_slot (name:=Str.ofString "__next__") ty rL (wpAny_call_entry rL ty F.entry_dict_valueiterator_next ?_ (F.args_dict_valueiterator_next_1 _))))
 refine af (aE (af (af ?_)))
 first | refine af (wpAny_typeNameOfWhole_valiter ty (aE (af (wpAny_fieldsOf ho hf ?_)))) | refine af (wpAny_typeNameOf_valiter ty (aE (af (wpAny_fieldsOf ho hf ?_))))
 rw [show Builtin.Dict_items.ownsTuple "dict_valueiterator" = false by decide]
 simp only [bu,if_false]
 show wpAny _ _ (if (Value.ref d == Value.none)=true then _ else _) _ _ s
 rw [if_neg (show ¬ (Value.ref d == Value.none)=true from iD)]
 refine af (aE (af (wpAny_dictEntries hod qi ?_)))
 rw [if_neg (by simp)]
 refine af (aE (af (wpAny_dictEpoch hod qi ?_)))
 rw [if_neg (by simp)]
 refine aE ?_
 simp only [show ¬ ((i:Int) < 0) by omega,if_false,eB,he]
 refine af ?_
 first | refine af (wpAny_typeNameOfWhole_valiter ty (aE (af (wpAny_isOneOf_valiter ty ?_)))) | refine af (wpAny_typeNameOf_valiter ty (aE (af (wpAny_isOneOf_valiter ty ?_))))
 show wpAny _ _ (setField (.ref it) 1 (rawInt ((i:Int) + 1)) >>= _) _ _ s
 have tX:(s.heap.update it (Obj.mapFields (·.setIfInBounds 1 (rawInt ((i:Int) + 1))))).IsValIter it d (i + 1) es.size ep :=
  ⟨_,c7 _ ho (iI (cW hf _)),(jY ..).trans hc,by rw [cW hf]; simp [rawInt]⟩
 refine af (wpAny_setField ho hf (by simp) (af (wpAny_holding ?_)))
 refine af (wpAny_isOneOf_valiter (s:={ s with heap:=s.heap.update it (Obj.mapFields (·.setIfInBounds 1 (rawInt ((i:Int) + 1)))) }) tX.typeIs ?_)
 refine af (wpAny_isOneOf_valiter (s:={ s with heap:=s.heap.update it (Obj.mapFields (·.setIfInBounds 1 (rawInt ((i:Int) + 1)))) }) tX.typeIs (show wpAny _ _ (pure e.val) _ _ _ from ?_))
 exact aE (aE ⟨_,rfl,aE (hQ _ tX (gO ..))⟩)
theorem Ei{it:Addr}{Q:Option Value->Shared->Prop}(hh:A.handled=none)(hit:s.heap.IsValIter it d es.size es.size ep)(x:gG s.heap d es ep)
  (hQ:∀ h',Heap.ExtBut it s.heap h'->Q none { s with heap:=h' }):wpAny (model prog w) A (pyNext (.ref it)) Q E s:=by
 have ty:=hit.typeIs
 obtain ⟨o,ho,hc,hf⟩:=hit
 obtain ⟨od,hod,_,qi⟩:=x
 unfold pyNext
 refine af (wpAny_attempt (wpAny_callSpecial?_slot (name:=Str.ofString "__next__") ty rL (wpAny_call_entry rL ty F.entry_dict_valueiterator_next ?_ (F.args_dict_valueiterator_next_1 _))))
 refine af (aE (af (af ?_)))
 first | refine af (wpAny_typeNameOfWhole_valiter ty (aE (af (wpAny_fieldsOf ho hf ?_)))) | refine af (wpAny_typeNameOf_valiter ty (aE (af (wpAny_fieldsOf ho hf ?_))))
 rw [show Builtin.Dict_items.ownsTuple "dict_valueiterator" = false by decide]
 simp only [bu,if_false]
 show wpAny _ _ (if (Value.ref d == Value.none)=true then _ else _) _ _ s
 rw [if_neg (show ¬ (Value.ref d == Value.none)=true from iD)]
 refine af (aE (af (wpAny_dictEntries hod qi ?_)))
 rw [if_neg (by simp)]
 refine af (aE (af (wpAny_dictEpoch hod qi ?_)))
 rw [if_neg (by simp)]
 refine aE ?_
 simp only [show ¬ ((es.size:Int) < 0) by omega,if_false,eB,nR (ak es.size)]
 refine af ?_
 first | refine af (wpAny_typeNameOfWhole_valiter ty (aE ?_)) | refine af (wpAny_typeNameOf_valiter ty (aE ?_))
 show wpAny _ _ (setField (.ref it) 0 .none >>= _) _ _ s
 refine af (wpAny_setField ho hf (by simp) (show wpAny _ _ (newExc (.type "StopIteration") [] >>= _) _ _ _ from af ?_))
 simp only [newExc,newTuple]
 refine af (wpAny_newObj_type ?_ (by size_fits))
 refine af (m:=firstArgMember _ _) (wpAny_of_eq (a:=Value.none) (by first | rfl | (simp only [firstArgMember]; rfl)) (wpAny_newObj_type ?_ (by size_fits)))
 simp only [raiseNew]
 refine af (wpAny_handled ?_)
 rw [show A.in1.handled=none from hh]
 refine af (aE (wpAny_throw (af ?_)))
 refine wpAny_isInstance (T := "StopIteration") (b:=true) ⟨_,fJ _ rfl,rfl⟩ isSubtype_stop ?_
 exact aE (hQ _ (((gO ..).extBut.push _).push _))
theorem Bg{v:Addr}{Q:Value->Shared->Prop}(hv:s.heap.IsValuesView v d)(x:gG s.heap d es ep)
  (hQ:Q (.ref s.heap.objs.size) { s with heap:=s.heap.push { cls:=.type "dict_valueiterator", data:=.fields #[.ref d,.int 0 0,.int es.size 0,.int ep 0] } }):wpAny (model prog w) A (pyIter (.ref v)) Q E s:=by
 obtain ⟨ov,hov,hcv,YV⟩:=id hv
 obtain ⟨o,ho,hc,hdat⟩:=id x
 refine wpAny_pyIter_slot hv.typeIs F.slot_dict_values_iter (wpAny_call_entry F.slot_dict_values_iter hv.typeIs F.entry_dict_values_iter ?_ (F.args_dict_values_iter_1 _))
 unfold Builtin.«dict_values.__iter__»
 refine af (aE ?_)
 refine af ?_
 unfold Builtin.Dict_items.dictOf
 refine af (wpAny_field hov YV (x:=.ref d) rfl (aE ?_))
 refine af ?_
 unfold Builtin.Dict_items.newIterator
 refine af (wpAny_dictEntries ho hdat ?_)
 refine af (wpAny_dictEpoch ho hdat ?_)
 have hown:Builtin.Dict_items.ownsTuple "dict_valueiterator" = false:=by decide
 simp only [hown,bu,if_false]
 refine wpAny_newObj_type (aE ⟨_,rfl, "dict_valueiterator", _,⟨_,fJ _ rfl,rfl⟩,F.slot_dict_valueiterator_next.lookup,?_⟩)
 simpa [rawInt] using hQ
theorem xX(hh:A.handled=none)(I d:Addr)(hne:d ≠ I)(es:Array DictEntry)(ep:Nat):Walks prog w A I [I,d] [I] es.size (λ i v=>∃ e,es[i]? = some e /\ v=e.val) (λ i h=>h.IsValIter I d i es.size ep /\ gG h d es ep) where
 sub:=λ b hb=>by simp at hb; simp [hb]
 frame:=λ _ _ _ st hk=>⟨st.1.at λ o e=>hk I (by simp) o e,st.2.at' λ o e=>hk d (by simp) o e⟩
 item:=λ i s Q E hi st hQ=>by
  have e1:es[i]? = some es[i]:=dD hi
  refine Bf st.1 st.2 e1 λ h' h1 h2=>hQ _ h' s.toks ⟨_,e1,rfl⟩ ⟨h1,st.2.at' λ o e=>h2.extBut d o hne e⟩ λ b o hb e=>h2.extBut b o (λ h=>hb (by simp [h])) e
 done:=λ s Q E st hQ=>Ei hh st.1 st.2 λ h' h1=>hQ h' s.toks λ b o hb e=>h1 b o (λ h=>hb (by simp [h])) e
 self:=λ _ _ _ _ st hQ=>wpAny_pyIter_valiter st.1 hQ
theorem xY{v:Addr}{ep:Nat}{num:Nat->Int}{Q:Value->Shared->Prop}(hh:A.handled=none)(hv:s.heap.IsValuesView v d)(x:gG s.heap d es ep)(hne:0 < es.size)(hn:∀ (i:Nat) (e:DictEntry),es[i]? = some e->∃ t,e.val=Value.int (num i) t)
  (h:∀ u h' tk,(∃ e,es[argBest (λ i j=>decide (num i > num j)) (es.size - 1)]? = some e /\ u=e.val)->(∀ b o,s.heap.get? b=some o->h'.get? b=some o)->Q u { s with heap:=h',toks:=tk }):
  wpAny (model prog w) A (call (.builtin "max") [.ref v]) Q E s:=by
 obtain ⟨o,ho,r⟩:=id x
 have hlt:=aD ho
 refine call_max_walk (Bg hv x ?_)
 refine ⟨_,_,_,_,_,_,_,rfl,xX (A:=A.in1) hh s.heap.objs.size d (aO hlt) es ep,⟨⟨_,fJ _ rfl,rfl,rfl⟩,x.at' λ o e=>bS _ e⟩,?_,hne,CmpOf.ints_gt num (λ i u ⟨e,he,eu⟩=>by obtain ⟨t,ht⟩:=hn i e he; exact ⟨t,by rw [eu,ht]⟩),λ u h' tk hP hk=>?_⟩
 ·intro b hb
  rw [cU]
  simp at hb
  rcases hb with e | e
  ·subst e; exact jX _
  ·subst e; exact ja hlt
 ·exact h u h' tk hP λ b o e=>hk b o (λ hm=>by simp at hm; subst hm; exact absurd (aD e) (cV _)) (bS _ e)
end
theorem xZ{prog:Program}{w:World}(hd:(d == sysModules)=false):
  MeetsIn prog w (Builtin.«dict.values» ⟨[.ref d],[]⟩) (λ _ R s=>gG s.heap d es ep /\
   R (.ok (.ret (.ref s.heap.objs.size))) { s with heap:=s.heap.push { cls:=.type "dict_values", data:=.fields #[.ref d] } }) :=
 .of_wp λ A R s ⟨hm,h⟩=>by
  refine af ?_
  unfold Builtin.Dict.noArgs
  refine af (wpAny_notOrdered_dict hm.ty ?_)
  show wpAny _ _ (pure d) _ _ s
  refine aE ?_
  show wpAny _ _ (Builtin.Dict.showsAll d >>= _) _ _ s
  unfold Builtin.Dict.showsAll
  rw [if_neg (by rw [hd]; exact iD)]
  refine af (aE ?_)
  exact af (wpAny_newObj_type (aE ⟨_,rfl,h⟩))
end SN
namespace L2
open PySem PySem.Spec PyProof.Rows
variable {d:Addr}{ep:Nat}{kvs:cZ}
def uM(v d:Addr):Heap->Prop:=λ h=>h.IsValuesView v d
section
variable {X:Cx}{o e f:Expr}{apos cpos:Pos}{td ty tx:TE}
theorem Ej{pins:List (Addr × Obj)}{σ:St}{H:Hp}{s:Shared}(I:Inv X pins σ H s)(h:H d=some (.ext (bR X.prog X.w d ep kvs))):
  s.TypeIs (.ref d) "dict" /\ (∀ b,Value.ref d=.ref b->∃ ob,s.heap.get? b=some ob /\ ob.dict=none) /\ (d == sysModules)=false:=by
 obtain ⟨lo,_,es,rd,_,_⟩:=I.raw h
 refine ⟨rd.ty,λ b q=>?_,lo⟩
 cases q
 obtain ⟨ob,h1,h2,_⟩:=rd
 exact ⟨ob,h1,h2.2.1⟩
def Ek(P:Program)(w:World)(Q:VK):V->Hp->Prop:=λ x H=>∃ d ep kvs,x=.ref d /\ H d=some (.ext (bR P w d ep kvs)) /\ ∀ v H',eT H v (.ext (uM v d)) H'->Q (.ref v) H'
def Jz(P:Program)(w:World)(td:TE):TE:=λ σ H Q=>td σ H (Ek P w Q)
theorem El(ho:PE X o td)(hbase:attributeBase o "values" X.env (eval o X.env)=eval o X.env:=by rfl)(hline:(apos.endLine == cpos.line)=true:=by rfl):PE X (.Call (.Attribute o "values" apos) [] [] cpos) (Jz X.prog X.w td):=by
 intro pins s σ H Q I h
 refine wpAny_Call_method0_late hbase hline (cA (ho pins s σ H _ I h) λ u s1 ⟨x,H1,I1,r1,d,ep,kvs,ex,hd,q1⟩=>?_)
 subst ex
 obtain rfl:u=Value.ref d:=r1
 obtain ⟨t1,t2,lo⟩:=Ej I1 hd
 obtain ⟨_,_,es,rd,_,_⟩:=I1.raw hd
 refine ⟨"dict", _,PySem.F.plainAttrs_dict,PySem.F.slot_dict_values,PySem.F.type_dict_values,t1,t2,nT rfl (PySem.evalArgs_none ?_)⟩
 refine call_meetsIn PySem.F.slot_dict_values t1 PySem.F.entry_dict_values (PySem.F.args_dict_values_1 _) (SN.xZ (es:=es) (ep:=ep) lo) ⟨rd,?_⟩
 exact ⟨.ref s1.heap.objs.size,_,I1.laid (a:=s1.heap.objs.size) (o:=.ext (uM s1.heap.objs.size d)) (t':=s1.toks) (λ _ _ q=>bS _ q) (ak _) ⟨⟨_,fJ _ rfl,rfl,rfl⟩,⟨_,fJ _ rfl⟩,λ g1 g2 ⟨ob,a1,a2⟩ he=>⟨ob,he _ a1,a2⟩⟩,rfl,q1 _ _ ⟨I1.hok.fresh (ak _),rfl⟩⟩
def JA(P:Program)(w:World):List V->Hp->VK->Prop:=λ xs H Q=>∃ (v d:Addr) (ep:Nat) (kvs:cZ) (ns:List Int),xs=[.ref v] /\ H v=some (.ext (uM v d)) /\ H d=some (.ext (bR P w d ep kvs)) /\ kvs.map (·.2.2)=ns.map V.int /\ ns ≠ [] /\ ∀ m,m∈ns->(∀ x∈ns,x <= m)->Q (.int m) H
theorem Bh(hc:X.calm=true):cX X (.builtin "max") (JA X.prog X.w):=by
 intro pins s σ H xs us Q I r h
 obtain ⟨v,d,ep,kvs,ns,rfl,hv,hd,en,hne,q⟩:=h
 obtain ⟨u,rfl,ru⟩:=vals1 r
 cases ru
 obtain ⟨vv,_,_⟩:=I.hok v _ hv
 obtain ⟨lo,z,es,rd,hs,hat⟩:=I.raw hd
 have hl:kvs.length=ns.length:=by have:=congrArg List.length en; simpa using this
 have hpos:0 < es.size:=by
  rw [hs,hl]
  cases ns with
  | nil=>exact absurd rfl hne
  | cons=>simp
 have hn:∀ (i:Nat) (e:DictEntry),es[i]? = some e->∃ t,e.val=Value.int (ns.getD i 0) t:=λ i e he=>by
  have hi:i < kvs.length:=by rw [<- hs]; exact (i0.mp he).1
  obtain ⟨u,hu,_,hr⟩:=hat i _ (dB hi)
  rw [he] at hu
  cases hu
  have e1:kvs[i].2.2=V.int (ns.getD i 0):=by
   have:(kvs.map (·.2.2))[i]? = (ns.map V.int)[i]?:=by rw [en]
   rw [aS,aS,dB hi,dB (show i < ns.length by omega)] at this
   rw [iR,dB (show i < ns.length by omega)]
   exact Option.some.inj this
  rw [e1] at hr
  exact hr
 refine SN.xY (num:=λ i=>ns.getD i 0) (I.ok.hd hc) vv rd hpos hn λ u h' tk hu k=>?_
 obtain ⟨e,he,rfl⟩:=hu
 obtain ⟨b1,b2⟩:=jj (λ i=>ns.getD i 0) (es.size - 1)
 obtain ⟨t,ht⟩:=hn _ _ he
 rw [ht]
 have at_:∀ i,i < ns.length->ns[i]? = some (ns.getD i 0):=λ i hi=>by rw [iR,dB hi]; rfl
 refine ⟨.int _,H,I.kept k,⟨_,rfl⟩,q _ (fm (at_ _ (by omega))) λ x hx=>?_⟩
 obtain ⟨i,hi⟩:=dX.mp hx
 have hil:=(e9 hi).1
 rw [at_ i hil] at hi
 rw [<- Option.some.inj hi]
 exact b2 i (by omega)
def P4(P:Program)(w:World)(ty tx:TE)(σ:St)(Q:VK):V->Hp->Prop:=λ x H1=>∃ d ep kvs,x=.ref d /\ H1 d=some (.ext (bR P w d ep kvs)) /\ ty σ H1 λ y H2=>tx σ H2 λ z H3=>∃ b ep kvs k,y=.ref b /\ DH P w H3 d ep kvs /\ aJ H3 (.ref b) k /\ Q ((fO kvs k).getD z) H3
def Ml(P:Program)(w:World)(td ty tx:TE):TE:=λ σ H Q=>td σ H (P4 P w ty tx σ Q)
theorem Bj(hu:X.A.units + 64 < cLine)(ho:PE X o td)(he:PE X e ty)(hf:PE X f tx)(m:M2 X o "get" apos e f cpos):PE X (.Call (.Attribute o "get" apos) [e,f] [] cpos) (Ml X.prog X.w td ty tx):=by
 intro pins s σ H Q I h
 refine wpAny_Call_method m.base m.few m.line PySem.F.plainAttrs_dict PySem.F.slot_dict_get PySem.F.type_dict_get (cA (ho pins s σ H _ I h) λ u s1 ⟨x,H1,I1,rx,d,ep,kvs,ex,hd,q1⟩=>?_)
 subst ex
 obtain rfl:u=Value.ref d:=rx
 obtain ⟨t1,t2,lo⟩:=Ej I1 hd
 refine ⟨t1,t2,?_⟩
 rw [m.trees]
 refine nT rfl (Calls.evalArgs_plain (nU (cA (he pins s1 σ H1 _ I1 q1) λ iv s2 ⟨y,H2,I2,ry,q2⟩ =>
  nU (cA (hf pins s2 σ H2 _ I2 q2) λ fv s3 ⟨z,H3,I3,rz,b,P5,U0,k,ey,Cj,hb,q3⟩=>Calls.spliced_nil ?_))))
 subst ey
 obtain rfl:iv=Value.ref b:=ry
 obtain ⟨_,_,xs,rel,dd⟩:=I3.dh Cj
 refine call_meetsIn PySem.F.slot_dict_get dd.typeIs PySem.F.entry_dict_get (PySem.F.args_dict_get_3 _ _ _) (meetsH_dict_get_default (HM.cF X.prog X.w) d b lo fv) ⟨nB (X:=X) hu,k,xs,I3.hrm hb,dd,?_⟩
 exact ⟨_,H3,I3.tok _,(rel.val k).getD rz,q3⟩
end
section
variable {X:Cx}{P:Program}{w:World}{K:ay}{o i e f:Expr}{pos apos cpos:Pos}{td ty tx:TE}
theorem mz(e1:X.prog=P)(e2:X.w=w)(hu:X.A.units + 64 < cLine)(ho:PE X o td)(hi:PE X i ty)(hs:Gj i):PE X (.Subscript o i pos) (KA (D6 P w) td ty):=e1 ▸ e2 ▸ gA hu ho hi hs
theorem ya(e1:X.prog=P)(e2:X.w=w)(hu:X.A.units + 64 < cLine)(ho:PE X o td)(he:PE X e ty)(hf:PE X f tx)(m:M2 X o "get" apos e f cpos):PE X (.Call (.Attribute o "get" apos) [e,f] [] cpos) (Ml P w td ty tx):=e1 ▸ e2 ▸ Bj hu ho he hf m
theorem yc(hc:X.calm=true):cX X (.type "list") (Eg X.prog X.w):=by
 intro pins s σ H xs us Q I r h
 obtain ⟨d,ep,kvs,rfl,hd,q⟩:=h
 obtain ⟨u,rfl,ru⟩:=vals1 r
 cases ru
 obtain ⟨lo,z,es,rd,hs,hat⟩:=I.raw hd
 refine PySem.W.kdl_call (SN.zx (es:=es) (ep:=ep) lo) (I.ok.hd hc) rd (by omega) λ h' tk acc' c' hk hS hacc=>?_
 refine ⟨.ref s.heap.objs.size,_,I.laid (t':=tk) hk (ak _) (o:=.lst (kvs.map λ e=>V.ref e.2.1)) ⟨by rw [aq]; exact z,acc'.toList,c',?_,?_⟩,rfl,q _ _ ⟨I.hok.fresh (ak _),rfl⟩⟩
 ·have go:∀ {l:List (HM.aR × Addr × V)} {vs:List Value},vs.length=l.length->(∀ (j:Nat) e,l[j]? = some e->vs[j]? = some (.ref e.2.1))->Vals (l.map λ e=>V.ref e.2.1) vs:=by
   intro l
   induction l with
   | nil=>intro vs hl _; cases vs with
    | nil=>exact .nil
    | cons v vs=>simp at hl
   | cons e l ih =>
    intro vs hl hv
    cases vs with
    | nil=>simp at hl
    | cons v vs =>
     have h0:=hv 0 e rfl
     simp only [List.getElem?_cons_zero,Option.some.injEq] at h0
     subst h0
     exact .cons rfl (ih (by simpa using hl) λ j x hx=>by simpa using hv (j + 1) x (by simpa using hx))
  refine go (by rw [bT,hacc.1,hs]) λ j e he=>?_
  obtain ⟨u,hu,hk,_⟩:=hat j e he
  have hj:j < acc'.size:=by rw [hacc.1]; exact (i0.mp hu).1
  obtain ⟨e2,Se,ee⟩:=hacc.2 j acc'[j] (dD hj)
  rw [c6,dD hj,ee]
  rw [hu] at Se
  cases Se
  rw [hk]
 ·rw [hS,Array.toArray_toList]
end
section
variable {K:ay}{P:Program}{w:World}{σ:St}{H:Hp}{Q:VK}{td ty tx:TE}
theorem G8(hd:H d=some (.ext (bR P w d ep kvs)))(h:∀ p H',eT H p (.lst (kvs.map λ e=>V.ref e.2.1)) H'->Q (.ref p) H'):Eg P w [.ref d] H Q:=⟨d,ep,kvs,rfl,hd,h⟩
theorem Mm(h:td σ H (Ek P w Q)):Jz P w td σ H Q:=h
theorem G9(hd:H d=some (.ext (bR P w d ep kvs)))(h:∀ v H',eT H v (.ext (uM v d)) H'->Q (.ref v) H'):Ek P w Q (.ref d) H:=⟨d,ep,kvs,rfl,hd,h⟩
theorem Mn{v:Addr}{ns:List Int}(hv:H v=some (.ext (uM v d)))(hd:H d=some (.ext (bR P w d ep kvs)))(en:kvs.map (·.2.2)=ns.map V.int)(hne:ns ≠ [])(h:∀ m,m∈ns->(∀ x∈ns,x <= m)->Q (.int m) H):JA P w [.ref v] H Q:=⟨v,d,ep,kvs,ns,rfl,hv,hd,en,hne,h⟩
theorem JB(h:td σ H (P4 P w ty tx σ Q)):Ml P w td ty tx σ H Q:=h
theorem Mp{T:String}{b:Bool}(hd:H d=some (.ext (bR P w d ep kvs)))(e:PySem.W.kitOne K (.type "dict") (.type T)=some b)(h:Q (.bl b) H):Jy K P w [.ref d,.ty T] H Q:=⟨d,ep,kvs,T,b,rfl,hd,e,h⟩
end
end L2
namespace MX
open PySem PySem.Spec PyProof.Rows
section
variable {prog:Program}{w:World}{A:Around}{R:Result->Shared->Prop}{I:Addr}{fp wr:List Addr}{n:Nat}{P:Nat->Value->Prop}{St:Nat->Heap->Prop}{kw:List (Str × Value)}
theorem nm:(toString "max" ++ toString ".loop" : String) = "max.loop" := by decide
theorem loop(W:Walks prog w A.in1 I fp wr n P St)(bt:Nat->Nat->Bool)(hcmp:CmpOf prog w A.in1 .Gt P bt)(S:Addr)(hSf:S ∉ fp):
  ∀ (k j:Nat) (s:Shared) (vb:Value) (c:Nat),n - (j + 1)=k->j + 1 <= n->St (j + 1) s.heap->P (argBest bt j) vb ->
  s.heap.get? S=some { cls:=.type "list", dict:=none,data:=.seq #[vb,vb] c,slots:=#[] } ->
  (∀ v h' tk,P (argBest bt (n - 1)) v->(∀ b o,b ∉ wr->b ≠ S->s.heap.get? b=some o->h'.get? b=some o)->R (.ok (.ret v)) { s with heap:=h',toks:=tk }) ->
  codeAny (model prog w) A (.builtin "max.loop" ⟨[.ref I,.none,.ref S],kw⟩) R s:=by
 have Hf:S ∉ wr:=λ h=>hSf (W.sub _ h)
 intro k
 induction k with
 | zero =>
  intro j s vb c hk hj hst JC hS hR
  have hin:j + 1=n:=by omega
  refine codeAny_builtin jR ?_
  rw [fh dG _]
  refine (show wpAny _ A.in1 (seqItems? (.ref S) >>= _) _ _ s from af (wpAny_seqItems hS rfl ?_))
  refine (show wpAny _ A.in1 (tryCatch (pyNext (.ref I)) _ >>= _) _ _ s from af (wpAny_tryCatch (W.done s _ _ (hin ▸ hst) λ h' tk hk'=>?_)))
  refine (show wpAny _ A.in1 (updateSeq S (λ _=>#[]) >>= _) _ _ _ from af (wpAny_updateSeq (hk' S _ Hf hS) rfl (af (wpAny_letGo (aE ?_)))))
  exact hR vb _ tk (by rw [<- hin]; exact JC) λ b o zI Hg e=>(ef _ _ (aZ Hg)).trans (hk' b o zI e)
 | succ k ih =>
  intro j s vb c hk hj hst JC hS hR
  have hlt:j + 1 < n:=by omega
  refine codeAny_builtin jR ?_
  rw [fh dG _]
  refine (show wpAny _ A.in1 (seqItems? (.ref S) >>= _) _ _ s from af (wpAny_seqItems hS rfl ?_))
  refine (show wpAny _ A.in1 (tryCatch (pyNext (.ref I)) _ >>= _) _ _ s from af (wpAny_tryCatch (W.item (j + 1) s _ _ hlt hst λ v h' tk hP o8 hk'=>?_)))
  have hS':=hk' S _ Hf hS
  refine (show wpAny _ A.in1 (tryCatch (holding [v,v] (richCompare .Gt v vb >>= _)) _ >>= _) _ _ _ from af (wpAny_tryCatch (wpAny_holding (af (hcmp (j + 1) (argBest bt j) v vb _ _ _ hP JC ?_)))))
  refine af (wpAny_holding (wpAny_truthy_bool (af (wpAny_letGo (aE ?_)))))
  cases hb:bt (j + 1) (argBest bt j) with
  | true =>
   simp only [if_true]
   refine af (wpAny_updateSeq hS' rfl (af (wpAny_letGo ?_)))
   rw [nm]
   refine aE ⟨plainId_quiet dG _,ih (j + 1) _ v _ (by omega) hlt (W.frame _ _ _ o8 λ b U1 o e=>(ef _ _ (λ h:S=b=>hSf (by rw [h]; exact U1))).trans e) (by simp only [argBest,hb,if_true]; exact hP) (c7 _ hS' rfl) λ v' h'' Em P6 En=>?_⟩
   exact hR v' h'' Em P6 λ b o zI Hg e=>En b o zI Hg ((ef _ _ (aZ Hg)).trans (hk' b o zI e))
  | false =>
   simp only [bu,if_false]
   refine af (wpAny_letGo ?_)
   rw [nm]
   exact aE ⟨plainId_quiet dG _,ih (j + 1) _ vb c (by omega) hlt o8 (by simp only [argBest,hb,bu,if_false]; exact JC) hS' λ v' h'' Em P6 En=>hR v' h'' Em P6 λ b o zI Hg e=>En b o zI Hg (hk' b o zI e)⟩
theorem first(W:Walks prog w A.in1 I fp wr n P St)(bt:Nat->Nat->Bool)(hcmp:CmpOf prog w A.in1 .Gt P bt)(S:Addr)(hSf:S ∉ fp)(hn:0 < n){s:Shared}{c:Nat}(hst:St 0 s.heap)
  (hS:s.heap.get? S=some { cls:=.type "list", dict:=none,data:=.seq #[] c,slots:=#[] })
  (hR:∀ v h' tk,P (argBest bt (n - 1)) v->(∀ b o,b ∉ wr->b ≠ S->s.heap.get? b=some o->h'.get? b=some o)->R (.ok (.ret v)) { s with heap:=h',toks:=tk }):
  codeAny (model prog w) A (.builtin "max.loop" ⟨[.ref I,.none,.ref S],kw⟩) R s:=by
 have Hf:S ∉ wr:=λ h=>hSf (W.sub _ h)
 refine codeAny_builtin jR ?_
 rw [fh dG _]
 refine (show wpAny _ A.in1 (seqItems? (.ref S) >>= _) _ _ s from af (wpAny_seqItems hS rfl ?_))
 refine (show wpAny _ A.in1 (tryCatch (pyNext (.ref I)) _ >>= _) _ _ s from af (wpAny_tryCatch (W.item 0 s _ _ hn hst λ v h' tk hP o8 hk'=>?_)))
 have hS':=hk' S _ Hf hS
 refine (show wpAny _ A.in1 (updateSeq S (λ _=>#[v,v]) >>= _) _ _ _ from af (wpAny_updateSeq hS' rfl ?_))
 rw [nm]
 refine aE ⟨plainId_quiet dG _,loop W bt hcmp S hSf _ 0 _ v _ rfl hn (W.frame _ _ _ o8 λ b U1 o e=>(ef _ _ (λ h:S=b=>hSf (by rw [h]; exact U1))).trans e) hP (c7 _ hS' rfl) λ v' h'' Em P6 En=>?_⟩
 exact hR v' h'' Em P6 λ b o zI Hg e=>En b o zI Hg ((ef _ _ (aZ Hg)).trans (hk' b o zI e))
theorem none_{d:Value}{x:Str}(W:Walks prog w A.in1 I fp wr 0 P St)(S:Addr)(hSf:S ∉ fp){s:Shared}{c:Nat}(hst:St 0 s.heap)
  (hS:s.heap.get? S=some { cls:=.type "list", dict:=none,data:=.seq #[] c,slots:=#[] })
  (hR:∀ h' tk,(∀ b o,b ∉ wr->s.heap.get? b=some o->h'.get? b=some o)->R (.ok (.ret d)) { s with heap:=h',toks:=tk }):
  codeAny (model prog w) A (.builtin "max.loop" ⟨[.ref I,.none,.ref S],[(x,d)]⟩) R s:=by
 refine codeAny_builtin jR ?_
 rw [fh dG _]
 refine (show wpAny _ A.in1 (seqItems? (.ref S) >>= _) _ _ s from af (wpAny_seqItems hS rfl ?_))
 refine (show wpAny _ A.in1 (tryCatch (pyNext (.ref I)) _ >>= _) _ _ s from af (wpAny_tryCatch (W.done s _ _ hst λ h' tk hk'=>?_)))
 show wpAny _ A.in1 (rule _ >>= _) _ _ _
 exact af (wpAny_rule (aE (hR h' tk hk')))
end
section
variable {prog:Program}{w:World}{A:Around}{E:Value->Shared->Prop}{s:Shared}
theorem zJ{id:String}{b:Builtin}{args:List Value}{kw:List (Str × Value)}{Q:Value->Shared->Prop}(hk:builtinKind id=none)(hp:plainId id=true)(hb:entryFor table id=some b)(ha:argsOk id ⟨args,kw⟩)
  (hc:wpAny (model prog w) A.in1 (b ⟨args,kw⟩) (λ fin s'=>match fin with
   | .done f=>(match (Except.ok f:Result) with | .ok (.ret v)=>Q v s' | .ok _=>False | .error e=>E e s')
   | .again c'=>c'.quiet=true /\ codeAny (model prog w) A c' (λ r s'=>match r with | .ok (.ret v)=>Q v s' | .ok _=>False | .error e=>E e s') s') E s):wpAny (model prog w) A (call (.builtin id) args kw) Q E s:=by
 refine wpAny_call (codeAny_call_builtin hp hb ?_)
 simp only [checkBuiltinCall,hk]
 cases U3:Manifest.signature? id with
 | none=>exact aE hc
 | some sig =>
  have h2:Bind.checkArgs id sig ⟨args,kw⟩=pure ():=by simpa only [argsOk,U3] using ha
  refine (show wpAny _ A.in1 (Bind.checkArgs id sig ⟨args,kw⟩) _ _ s from ?_)
  rw [h2]
  exact aE hc
theorem Bk(a d:Value):argsOk "max" ⟨[a],[("default", d)]⟩:=by unfold argsOk; kernel_rfl
theorem Bl{x d:Value}{Q:Value->Shared->Prop}
  (h:wpAny (model prog w) A.in1 (pyIter x) (λ it s₂=>∃ I fp wr n P St bt,it=.ref I /\ Walks prog w A.in1 I fp wr n P St /\ St 0 s₂.heap /\ (∀ b∈fp,b < s₂.heap.objs.size) /\ CmpOf prog w A.in1 .Gt P bt /\
   ∀ v h' tk,(if n=0 then v=d else P (argBest bt (n - 1)) v)->(∀ b o,b ∉ wr->s₂.heap.get? b=some o->h'.get? b=some o)->Q v { s₂ with heap:=h',toks:=tk }) E s):
  wpAny (model prog w) A (call (.builtin "max") [x] [("default", d)]) Q E s:=by
 refine zJ F.kind_max F.plain_max F.entry_max (Bk _ _) ?_
 refine (show wpAny _ A.in1 (Builtin.Builtins.bindParams "max" ["key", "default"] 0 ⟨[],[("default", d)]⟩ >>= _) _ _ s from ?_)
 refine af (wpAny_of_eq (show Builtin.Builtins.bindParams "max" ["key", "default"] 0 ⟨[],[("default", d)]⟩=pure [none,some d] by first | rfl | kernel_rfl) ?_)
 refine af (aE (af (wpAny_mono h (λ it s₂ h₂=>?_) λ _ _ e=>e)))
 obtain ⟨I,fp,wr,n,P,St,bt,rfl,W,hst,hfp,hcmp,hQ⟩:=h₂
 refine af (wpAny_newObj_type ?_)
 have hSf:s₂.heap.objs.size ∉ fp:=λ hm=>cV _ (hfp _ hm)
 rw [nm]
 have o8:=W.frame 0 s₂.heap (s₂.heap.push { cls:=.type "list", data:=.seq ([]:List Value).toArray }) hst λ b _ o e=>bS _ e
 rcases Nat.eq_zero_or_pos n with e | hn
 ·subst e
  refine aE ⟨plainId_quiet dG _,none_ W s₂.heap.objs.size hSf o8 (fJ _ rfl) λ h' tk hk=>?_⟩
  exact hQ d h' tk (by rw [if_pos rfl]) λ b o zI e=>hk b o zI (bS _ e)
 ·refine aE ⟨plainId_quiet dG _,first W bt hcmp s₂.heap.objs.size hSf hn o8 (fJ _ rfl) λ v h' tk hP hk=>?_⟩
  exact hQ v h' tk (by rw [if_neg (by omega)]; exact hP) λ b o zI e=>hk b o zI (aO (aD e)) (bS _ e)
end
end MX
namespace L2
open PySem PySem.Spec PyProof.Rows
def zK(K:ay)(vs:List V)(y:V)(H:Hp)(Q:VK):Prop:=∃ p xs d,vs=[.ref p] /\ y=.int d /\ bI K H p (xs.map V.int) /\ ∀ m:Int,(xs=[]->m=d)->(xs ≠ []->m∈xs /\ ∀ x∈xs,x <= m)->Q (.int m) H
def JD(K:ay)(t:TA)(tv:TE):TE:=λ σ H Q=>t σ H λ vs H1=>tv σ H1 λ y H2=>zK K vs y H2 Q
section
variable {X:Cx}{e v:Expr}{p kp pos:Pos}{t:TA}{tv:TE}
theorem Hh{pins:List (Addr × Obj)}{σ:St}{H:Hp}{s:Shared}{vs:List V}{us:List Value}{y:V}{d:Value}{Q:VK}{E:Value->Shared->Prop}(hc:X.calm=true)(I:Inv X pins σ H s)(r:Vals vs us)(ry:RelV y d)(h:zK X.K vs y H Q):
  wpAny (model X.prog X.w) X.A (call (.builtin "max") us [("default", d)]) (λ u s'=>∃ x H',Inv X pins σ H' s' /\ RelV x u /\ Q x H') E s:=by
 obtain ⟨p,xs,dd,rfl,rfl,hS,q⟩:=h
 obtain ⟨u,rfl,ru⟩:=vals1 r
 cases ru
 obtain ⟨t0,rfl⟩:=ry
 obtain ⟨its,rv,pl,hz⟩:=I.list hS
 obtain ⟨ps,rfl,e⟩:=qL rv
 have hl:s.heap.IsList p (intItems ps.toArray):=by
  have:=pl.isList
  rw [show (ps.map λ p=>Value.int p.1 p.2).toArray=intItems ps.toArray by unfold intItems; simp] at this
  exact this
 have hsz:(intItems ps.toArray).size=ps.length:=by simp [intItems]
 have Mq:xs.length=ps.length:=by rw [<- e,aq]
 refine MX.Bl (iter_intList hl λ s₂ e2 st hfp hlI=>?_)
 subst e2
 refine ⟨_,_,_,_,_,_,_,rfl,Walks.list (A:=X.A.in1) (I.ok.hd hc) _ p hlI (intItems ps.toArray),st,hfp,CmpOf.ints_gt (numAt ps.toArray) (λ _ _=>intItems_at),λ u h' tk hP hk=>?_⟩
 rw [hsz] at hP
 have kept:=old_kept (s:=s) (l:=p) hk
 by_cases h0:ps.length=0
 ·rw [if_pos h0] at hP
  have ex:xs=[]:=List.eq_nil_of_length_eq_zero (by omega)
  subst hP
  exact ⟨.int dd,H,I.kept kept,⟨t0,rfl⟩,q dd (λ _=>rfl) λ z=>absurd ex z⟩
 ·rw [if_neg h0] at hP
  obtain ⟨t1,rfl⟩:=intItems_at hP
  obtain ⟨b1,b2⟩:=jj (numAt ps.toArray) (ps.length - 1)
  have at_:∀ i,i < ps.length->xs[i]? = some (numAt ps.toArray i):=λ i hi=>by
   rw [<- e]
   simp [numAt,dB hi]
  refine ⟨.int _,H,I.kept kept,⟨t1,rfl⟩,q _ (λ z=>?_) λ _=>⟨fm (at_ _ (by omega)),λ x hx=>?_⟩⟩
  ·rw [z] at Mq
   exact absurd Mq.symm h0
  ·obtain ⟨i,hi⟩:=dX.mp hx
   have hil:i < ps.length:=by rw [<- Mq]; exact (e9 hi).1
   rw [at_ i hil] at hi
   rw [<- Option.some.inj hi]
   exact b2 i (by omega)
theorem Hi(hc:X.calm=true)(hg:Gl X "max")(hm:X.mg "max" = none)(ha:PA X [e] t)(hv:PE X v tv)(he:backTo pos (starEach [e] X.env)=(false,eval e X.env) :: backTo pos (starEach [] X.env):=by rfl)
  (hpl:(backTo pos (starEach [e] X.env)).any (·.1)=false:=by rfl)(hal:(backToKw pos (keywordEach [⟨some "default", v,kp⟩] X.env)).all (·.1.isSome)=true:=by rfl)(hkw:(backToKw pos (keywordEach [⟨some "default", v,kp⟩] X.env)).any (·.1.isNone)=false:=by rfl)
  (hfm:(backToKw pos (keywordEach [⟨some "default", v,kp⟩] X.env)).filterMap (·.1)=[("default" : Str)]:=by rfl):PE X (.Call (.Name "max" p) [e] [⟨some "default", v,kp⟩] pos) (JD X.K t tv):=by
 intro pins s σ H Q I h
 refine wpAny_Call_Name_kw (gu I hg hm BT.Dv ?_)
 refine callWith_kw (kws:=[⟨some "default", v,kp⟩]) ?_ he hpl hal hkw
 refine cA (ha pos pins s σ H _ I h) λ us s1 ⟨vs,H1,I1,r1,q1⟩=>?_
 refine kws_cons (cA (hv pins s1 σ H1 _ I1 q1) λ d s2 ⟨y,H2,I2,ry,q2⟩=>kws_nil ?_)
 rw [hfm]
 exact Hh hc I2 r1 ry q2
end
section
variable {K:ay}{σ:St}{H:Hp}{Q:VK}{t:TA}{tv:TE}
theorem Hj(h:t σ H λ vs H1=>tv σ H1 λ y H2=>zK K vs y H2 Q):JD K t tv σ H Q:=h
theorem Mr{p:Addr}{xs:List Int}{d:Int}(hS:bI K H p (xs.map V.int))(h:∀ m:Int,(xs=[]->m=d)->(xs ≠ []->m∈xs /\ ∀ x∈xs,x <= m)->Q (.int m) H):zK K [.ref p] (.int d) H Q:=⟨p,xs,d,rfl,rfl,hS,h⟩
end
section
variable {prog:Program}{w:World}{κ:Type} [DecidableEq κ] {knd:HeapKind prog w κ}{A:Around}{E:Value->Shared->Prop}{s:Shared}
end
def JE(kvs kvs':cZ):Prop:=kvs.length=kvs'.length /\ ∀ x∈kvs,∃ n:Int,x.2.2=.int n /\ fO kvs' x.1=some (.int n)
theorem JE.raw{kvs kvs':cZ}{xs ys:List (HM.aR × Addr × Value)}(l:JE kvs kvs')(r:iX kvs xs)(r':iX kvs' ys):xs.length=ys.length /\ ∀ x∈xs,∃ (p:Addr × Value) (n:Int) (t t':Tok),atKey ys x.1=some p /\ p.2=.int n t' /\ x.2.2=.int n t:=by
 refine ⟨by rw [<- f7 r,<- f7 r']; exact l.1,?_⟩
 have h:=l.2
 clear l
 unfold iX at r
 induction r with
 | nil=>intro x hx; exact nomatch hx
 | @cons p q ps qs hq t ih =>
  intro x hx
  rcases aB.mp hx with e | hx
  ·subst e
   obtain ⟨n,h1,h2⟩:=h p (by simp)
   have h3:=r'.val p.1
   rw [h2] at h3
   obtain ⟨w',hw,rw'⟩:=jZ.some_of (v:=.int n) (o:=(atKey ys p.1).map (·.2)) h3
   obtain ⟨z,hz,hz2⟩:=fB.mp hw
   have r1:=hq.2.2
   rw [h1] at r1
   obtain ⟨t1,e1⟩:=r1
   obtain ⟨t2,e2⟩:=rw'
   exact ⟨z,n,t1,t2,by rw [<- hq.1]; exact hz,by rw [hz2]; exact e2,e1⟩
  ·exact ih (λ y hy=>h y (by simp [hy])) x hx
section
variable {X:Cx}{P:Program}{w:World}{H:Hp}{Q:VK}
end
end L2
namespace SN
open PySem PySem.Spec PyProof.Rows
end SN
namespace L2
open PySem PySem.Spec PyProof.Rows
section
variable {X:Cx}{o:Expr}{apos cpos:Pos}{td:TE}
end
section
variable {P:Program}{w:World}{H:Hp}{Q:VK}{σ:St}{td:TE}
end
section
variable {P:Program}{w:World}{K:ay}{mg mb:Str->Option Value}{CX:yM}{k:Nat}{fa a:Addr}{fd:FuncData}{x:Str}{sp:Sp}{s₁:Shared}{H:Hp}
def Start(h:Heap)(K:ay)(H:Hp):Prop:=∀ b u,H b=some u->K.lookup b=none /\ ((∃ o xs,u=.tE o (.lst xs)) \/ (u=.lJ #[] /\ isCodeTable h b))
theorem Start.noDict(S:Start s₁.heap K H)(hok:iY P w H s₁.heap){b:Addr}{o:Obj}{es:Array DictEntry}{ep:Nat}(e:s₁.heap.get? b=some o)(d:o.data=.dict es ep):H b=none:=by
 cases q:H b with
 | none=>rfl
 | some u =>
  have z:=hok b u q
  rcases (S b u q).2 with ⟨o',xs,rfl⟩ | ⟨rfl,_⟩
  ·obtain ⟨_,_,its,n,_,z2⟩:=z
   have z3:=e.symm.trans z2
   rw [Option.some.inj z3] at d
   cases d
  ·have z3:=e.symm.trans (show s₁.heap.get? b=some _ from z)
   rw [Option.some.inj z3] at d
   cases d
theorem Start.P7(S:Start s₁.heap K H)(hok:iY P w H s₁.heap){b:Addr}{o:Obj}(e:s₁.heap.get? b=some o)(d:o.cls=.type "module"):H b=none:=by
 cases q:H b with
 | none=>rfl
 | some u =>
  have z:=hok b u q
  rcases (S b u q).2 with ⟨o',xs,rfl⟩ | ⟨rfl,_⟩
  ·obtain ⟨_,_,its,n,_,z2⟩:=z
   have z3:=e.symm.trans z2
   rw [Option.some.inj z3] at d
   have d:=Value.type.inj d
   exact absurd d (by decide)
  ·have z3:=e.symm.trans (show s₁.heap.get? b=some _ from z)
   rw [Option.some.inj z3] at d
   cases d
theorem sJ{ts:List Addr}(bt:∀ b∈ts,s₁.heap.BuiltinsAt mg b)(KX:K.In s₁.heap)(hns:s₁.heap.Ns mainGlobals mg)(hb:s₁.heap.Ns builtinsNs mb)(Ue:∀ y:Str,y ≠ "__name__" -> mb y=bootBuiltins y)(hlim:s₁.heap.NoLimit)(hg:s₁.gens=#[])
  (S:Start s₁.heap K H)(hok:iY P w H s₁.heap)(hr:fE k callerA)(F:∀ base:Heap,K.In base->base.Ns mainGlobals mg->(∀ b∈ts,base.BuiltinsAt mg b)->cJ P w K mg base CX k fa fd [x] sp)
  (hbind:∀ (s:Shared) (u:Value),BindsTo s fd ⟨[u],[]⟩ [(x,u)])(wC:sp [.ref a] H (λ v _=>v=.bl true) λ _ _ _=>False)(Ow:∀ e s',CX [] H s₁ (λ _ _ _=>False) e s'->False):
  codeAny (model P w) callerA (.call (.ref fa) ⟨[.ref a],[]⟩) (λ r s'=>r=.ok (.ret (.bool true)) /\ OldK s₁.heap s'.heap /\ s'.os=s₁.os /\ AllBare s'.gens) s₁:=by
 have ns:∀ {b:Addr} {m:Str->Option Value},s₁.heap.Ns b m->(lS s₁.heap H).Ns b m:=λ ⟨o,es,ep,e,d,r⟩=>⟨o,es,ep,kj e (S.noDict hok e d),d,r⟩
 have kb:K.In (lS s₁.heap H):=λ b o e=>by
  refine kj (KX b o e) ?_
  cases q:H b with
  | none=>rfl
  | some u=>exact absurd ((S b u q).1.symm.trans e) (by simp)
 have bb:∀ b∈ts,(lS s₁.heap H).BuiltinsAt mg b:=λ b hb=>by
  obtain ⟨bm,o,h1,h2,h3,h4,h5,h6,h7⟩:=bt b hb
  exact ⟨bm,o,h1,h2,h3,h4,kj h5 (S.P7 hok h5 h6),h6,h7⟩
 obtain ⟨mc,l1,l2⟩:=hlim
 have env:tN P w K mg (lS s₁.heap H) callerA [] s₁ H :=
  { frames:=rfl,mod:=⟨kb,ns hns,⟨mb,ns hb,Ue⟩,mc,ns l1,l2⟩,bs:=λ b o e=>yF e,Cf:=by rw [qB]; exact ak _,lT:=trivial,IK:=(λ b z=>nomatch (show b∈([]:List Addr) from z)),hok:=hok,bare:=.of_eq hg }
 refine codeAny_mono ((F _ kb (ns hns) bb).run callerA [] s₁ H ⟨[.ref a],[]⟩ [.ref a] [.ref a] _ _ hr env (hbind s₁ (.ref a)) (.cons rfl .nil) wC) ?_
 intro r s' h
 match r,h with
 | .error e,h=>exact (Ow e s' h).elim
 | .ok .next,h=>exact False.elim h
 | .ok .brk,h=>exact False.elim h
 | .ok .cont,h=>exact False.elim h
 | .ok (.ret u),⟨v,H',os,bare,un,Gk,rv,q⟩ =>
  have q':v=.bl true:=q
  subst q'
  have hu:u=Value.bool true:=rv
  subst hu
  refine ⟨rfl,⟨λ b o e=>?_,λ b o e=>un.there b o e (λ z=>nomatch z)⟩,os,bare⟩
  cases q:H b with
  | none=>exact .inl (un.keep b o e q (λ z=>nomatch z) (λ z=>nomatch z))
  | some y =>
   have z:=hok b y q
   rcases (S b y q).2 with ⟨o',xs,rfl⟩ | ⟨rfl,ct⟩
   ·have z2:=Gk b _ (un.ki b o' _ q)
    have e1:o=o':=Option.some.inj (e.symm.trans z.1)
    subst e1
    exact .inl z2.1
   ·obtain ⟨more,z1⟩:=un.lR b _ q
    have z2:s'.heap.get? b=some _:=Gk b _ z1
    have e1:=Option.some.inj (e.symm.trans (show s₁.heap.get? b=some _ from z))
    subst e1
    exact .inr (.inl ⟨ct,rfl,#[],more,rfl,z2⟩)
end
theorem Bm{l:PySem.W.OpenLaw}{n k:Nat}{q:Program}{loose:List Str}{XP:(Str->Option Value)->Heap->Prop}{YP:World->Heap->Prop}{d:DefRec}{K:Params->ay}{sp:ay->Sp}{x:Str}{ts:List Addr}
  (hn:l.most=some n)(hn2:n <= sizeLine)(hdf:d.params.defaults=[])(hr:fE k callerA)
  (hY:∀ (w:World) (h:Heap),YP w h->(K w.params).In h)(hT:∀ (w:World) (h:Heap),YP w h->∀ b∈ts,h.get? b=some (PySem.W.tabObj #[]) /\ isCodeTable h b)(U4:∀ w:World,∀ b∈ts,(K w.params).lookup b=none)
  (F:∀ (w:World) (mg:Str->Option Value) (fa:Addr) (h:Heap),(K w.params).In h->h.Ns mainGlobals mg->mg d.name=some (.ref fa) ->
   ∃ fd:FuncData,(∀ (s:Shared) (u:Value),BindsTo s fd ⟨[u],[]⟩ [(x,u)]) /\ ∀ base:Heap,(K w.params).In base->base.Ns mainGlobals mg->(∀ b∈ts,base.BuiltinsAt mg b)->cJ l.prog w (K w.params) mg base ji k fa fd [x] (sp (K w.params)))
  (wC:∀ (K:ay) (H:Hp) (a:Addr) (ns:List Int),ns.length <= n->bI K H a (ns.map V.int)->(∀ b∈ts,H b=some (.lJ #[]))->sp K [.ref a] H (λ v _=>v=.bl true) λ _ _ _=>False):
  PySem.W.WalkO q loose XP YP l.row.toRowW d [] (λ f vs=>PySem.call f vs):=by
 refine Ud.mO hn hdf λ w s₀ s₁ mg mb fa o pm cd doc a vs ns G Y ho hd hcd hmg hobj hints hlen hg=>?_
 have KX:=hY w _ Y
 have TT:=hT w _ Y
 obtain ⟨fd,hbd,hF⟩:=F w mg fa _ KX G.T.g hmg
 have hl:ns.length <= sizeLine:=br hlen hn2
 have na:a ∉ ts:=λ z=>by
  have e:=hobj.symm.trans (TT a z).1
  have e2:=congrArg Obj.cls (Option.some.inj e)
  cases e2
 let H:Hp:=λ b=>if b∈ts then some (.lJ #[]) else if b=a /\ (K w.params).lookup a=none then some (.tE { cls:=.type "list", data:=.seq vs.toArray } (.lst (ns.map V.int))) else none
 have Xk:∀ b∈ts,H b=some (.lJ #[]):=λ b hb=>if_pos hb
 have YW:(K w.params).lookup a=none->H a=some (.tE { cls:=.type "list", data:=.seq vs.toArray } (.lst (ns.map V.int))):=λ z=>(if_neg na).trans (if_pos ⟨rfl,z⟩)
 have cs:∀ b u,H b=some u->(b∈ts /\ u=.lJ #[]) \/ (b=a /\ (K w.params).lookup a=none /\ u=.tE { cls:=.type "list", data:=.seq vs.toArray } (.lst (ns.map V.int))):=λ b u e=>by
  by_cases h1:b∈ts
  ·exact .inl ⟨h1,Option.some.inj (e.symm.trans (Xk b h1))⟩
  ·have e1:H b=_:=if_neg h1
   by_cases h2:b=a /\ (K w.params).lookup a=none
   ·exact .inr ⟨h2.1,h2.2,Option.some.inj (e.symm.trans (e1.trans (if_pos h2)))⟩
   ·have:=e.symm.trans (e1.trans (if_neg h2))
    cases this
 have bt:∀ b∈ts,s₁.heap.BuiltinsAt mg b:=λ b hb=>by
  obtain ⟨bm,ob,b1,b2,b3,b4,b5,b6⟩:=G.T.bmain
  refine ⟨bm,ob,b1,b2,λ z=>?_,λ z=>?_,b3,b4,b5,b6⟩
  ·obtain ⟨o,es,ep,e,d,_⟩:=G.T.g
   rw [z,e] at b3; cases b3
   rw [d] at b6; cases b6
  ·rw [z,(TT b hb).1] at b3; cases b3
   cases b4
 refine sJ (H:=H) bt KX G.T.g G.T.b G.T.builtins G.T.nolimit hg ?_ ?_ hr hF hbd (wC _ H a ns hlen ?_ Xk) λ e s' z=>z
 ·intro b u e
  rcases cs b u e with ⟨h1,rfl⟩ | ⟨rfl,h2,rfl⟩
  ·exact ⟨U4 w b h1,.inr ⟨rfl,(TT b h1).2⟩⟩
  ·exact ⟨h2,.inl ⟨_,_,rfl⟩⟩
 ·intro b u e
  rcases cs b u e with ⟨h1,rfl⟩ | ⟨rfl,h2,rfl⟩
  ·exact (TT b h1).1
  ·exact ⟨hobj,by rw [aq]; exact hl,vs,_,jA hints,hobj⟩
 ·cases hk:(K w.params).lookup a with
  | none=>exact .inl (.inr ⟨_,YW hk⟩)
  | some oa =>
   have e:=Option.some.inj ((KX a oa hk).symm.trans hobj)
   subst e
   exact .inr ⟨_,vs.toArray,_,hk,rfl,rfl,rfl,by rw [aM,hints.length]; exact hl,by simpa using jA hints⟩
end L2
namespace MK
open PySem PySem.Spec PyProof.Rows PySem.W
def kP(kf:Nat->Int):Nat->Nat
 | 0=>0
 | j + 1=>if kf (kP kf j) < kf (j + 1) then j + 1 else kP kf j
theorem Eo(kf:Nat->Int):∀ j,kP kf j <= j /\ ∀ i,i <= j->kf i <= kf (kP kf j) /\ (i < kP kf j->kf i < kf (kP kf j))
 | 0=>by
  refine ⟨ak _,λ i hi=>?_⟩
  obtain rfl:i=0:=by omega
  exact ⟨Int.le_refl _,λ h=>absurd h (cV _)⟩
 | j + 1=>by
  obtain ⟨h1,h2⟩:=Eo kf j
  simp only [kP]
  split
  ·rename_i h
   refine ⟨ak _,λ i hi=>?_⟩
   by_cases e:i=j + 1
   ·subst e
    exact ⟨Int.le_refl _,λ h=>absurd h (cV _)⟩
   ·have:=(h2 i (by omega)).1
    exact ⟨by omega,λ _=>by omega⟩
  ·rename_i h
   refine ⟨by omega,λ i hi=>?_⟩
   by_cases e:i=j + 1
   ·subst e
    exact ⟨by omega,λ z=>by omega⟩
   ·exact h2 i (by omega)
section
variable {prog:Program}{w:World}{A:Around}{R:Result->Shared->Prop}{I S l q:Addr}{vs:List Value}{kw:List (Str × Value)}{J:Shared->Prop}{kf:Nat->Int}
structure Hl (J:Shared->Prop) (I S l:Addr) (vs:List Value):Prop where
 lst:∀ s,J s->s.heap.IsList l vs.toArray
 chg:∀ (s:Shared) (h':Heap) (tk:Nat),J s->(∀ b o,b ≠ I->b ≠ S->s.heap.get? b=some o->h'.get? b=some o)->J { s with heap:=h',toks:=tk }
 lI:l ≠ I
 SI:S ≠ I
def Turn(prog:Program)(w:World)(A:Around)(q:Addr)(J:Shared->Prop)(I S:Addr)(vs:List Value)(kf:Nat->Int):Prop :=
 ∀ i v s oI oS,vs[i]? = some v->J s->s.heap.get? I=some oI->s.heap.get? S=some oS->(∀ u,oI.data ≠ .cell u)->(∀ u,oS.data ≠ .cell u) ->
  wpAny (model prog w) A (call (.ref q) [v]) (λ x s'=>(∃ t,x=.int (kf i) t) /\ J s' /\ s'.heap.get? I=some oI /\ s'.heap.get? S=some oS) (λ _ _=>False) s
theorem loop(hh:A.handled=none)(D:Hl J I S l vs)(turn:Turn prog w A.in1 q J I S vs kf):
  ∀ (k j:Nat) (s:Shared) (vb:Value) (tb:Tok) (c:Nat),vs.length - (j + 1)=k->j + 1 <= vs.length->J s->s.heap.IsListIter I l (j + 1)->vs[kP kf j]? = some vb ->
  s.heap.get? S=some { cls:=.type "list", dict:=none,data:=.seq #[vb,.int (kf (kP kf j)) tb] c,slots:=#[] } ->
  (∀ v s',vs[kP kf (vs.length - 1)]? = some v->J s'->R (.ok (.ret v)) s') ->
  codeAny (model prog w) A (.builtin "max.loop" ⟨[.ref I,.ref q,.ref S],kw⟩) R s:=by
 have W:=Walks.list (prog:=prog) (w:=w) (A:=A.in1) hh I l D.lI vs.toArray
 have hsz:vs.toArray.size=vs.length:=aM ..
 have Hf:S ∉ [I]:=λ z=>D.SI (au.mp z)
 intro k
 induction k with
 | zero =>
  intro j s vb tb c hk hj hJ hit JC hS hR
  have hin:j + 1=vs.length:=by omega
  refine codeAny_builtin jR ?_
  rw [fh dG _]
  refine (show wpAny _ A.in1 (seqItems? (.ref S) >>= _) _ _ s from af (wpAny_seqItems hS rfl ?_))
  refine (show wpAny _ A.in1 (tryCatch (pyNext (.ref I)) _ >>= _) _ _ s from af (wpAny_tryCatch (W.done s _ _ ⟨by rw [hsz,<- hin]; exact hit,D.lst s hJ⟩ λ h' tk hk'=>?_)))
  have hS':=hk' S _ Hf hS
  refine (show wpAny _ A.in1 (updateSeq S (λ _=>#[]) >>= _) _ _ _ from af (wpAny_updateSeq hS' rfl (af (wpAny_letGo (aE ?_)))))
  refine hR vb _ (by rw [<- hin]; exact JC) (D.chg s _ tk hJ (λ b o h1 h2 e=>(ef _ _ (aZ h2)).trans (hk' b o (λ z=>h1 (au.mp z)) e)))
 | succ k ih =>
  intro j s vb tb c hk hj hJ hit JC hS hR
  have hlt:j + 1 < vs.length:=by omega
  refine codeAny_builtin jR ?_
  rw [fh dG _]
  refine (show wpAny _ A.in1 (seqItems? (.ref S) >>= _) _ _ s from af (wpAny_seqItems hS rfl ?_))
  refine (show wpAny _ A.in1 (tryCatch (pyNext (.ref I)) _ >>= _) _ _ s from af (wpAny_tryCatch (W.item (j + 1) s _ _ (by rw [hsz]; exact hlt) ⟨hit,D.lst s hJ⟩ λ v h' tk hP o8 hk'=>?_)))
  have hv:vs[j + 1]? = some v:=by simpa using hP
  obtain ⟨oI,U5,hoc,hod⟩:=id o8.1
  have hS':=hk' S _ Hf hS
  have J1:=D.chg s h' tk hJ (λ b o h1 _ e=>hk' b o (λ z=>h1 (au.mp z)) e)
  refine (show wpAny _ A.in1 (tryCatch (holding [v] (call (.ref q) [v])) _ >>= _) _ _ _ from af (wpAny_tryCatch (wpAny_holding (wpAny_mono (turn (j + 1) v _ oI _ hv J1 U5 hS' (λ u z=>by rw [hod] at z; cases z) (λ u z=>by cases z)) (λ x s2 he=>?_) λ _ _ z=>z.elim))))
  obtain ⟨⟨t2,rfl⟩,J2,Sj,FQ⟩:=he
  have U6:s2.heap.IsListIter I l (j + 1 + 1):=⟨oI,Sj,hoc,hod⟩
  refine (show wpAny _ A.in1 (tryCatch (holding [v,.int (kf (j + 1)) t2] (richCompare .Gt (.int (kf (j + 1)) t2) (.int (kf (kP kf j)) tb) >>= _)) _ >>= _) _ _ _ from
   af (wpAny_tryCatch (wpAny_holding (af (CmpOf.ints_gt (prog:=prog) (w:=w) (A:=A.in1) (P:=λ i v=>∃ t,v=.int (kf i) t) kf (λ i v h=>h) (j + 1) (kP kf j) _ _ _ _ _ ⟨t2,rfl⟩ ⟨tb,rfl⟩ ?_)))))
  refine af (wpAny_holding (wpAny_truthy_bool ?_))
  refine af (wpAny_letGo (aE ?_))
  by_cases hb:kf (j + 1) > kf (kP kf j)
  ·have eb:kP kf (j + 1)=j + 1:=by simp only [kP]; rw [if_pos hb]
   obtain ⟨c2,hc2⟩:∃ c2,(s2.heap.update S (Obj.mapSeq λ _=>#[v,.int (kf (j + 1)) t2])).get? S=some { cls:=.type "list", dict:=none,data:=.seq #[v,.int (kf (j + 1)) t2] c2,slots:=#[] }:=⟨_,get?_update_seq FQ λ _=>#[v,.int (kf (j + 1)) t2]⟩
   have U7:=(ef s2.heap (Obj.mapSeq λ _=>#[v,.int (kf (j + 1)) t2]) D.SI).trans Sj
   simp only [hb,decide_true,if_true]
   refine af (wpAny_updateSeq FQ rfl (af (wpAny_letGo ?_)))
   rw [MX.nm]
   refine aE ⟨plainId_quiet dG _,ih (j + 1) _ v t2 c2 (by omega) hlt ?_ ⟨oI,U7,hoc,hod⟩ (by rw [eb]; exact hv) (by rw [eb]; exact hc2) hR⟩
   exact D.chg s2 _ s2.toks J2 (λ b o _ h2 e=>(ef _ _ (aZ h2)).trans e)
  ·have eb:kP kf (j + 1)=kP kf j:=by simp only [kP]; rw [if_neg hb]
   simp only [hb,decide_false,bu,if_false]
   refine af (wpAny_letGo ?_)
   rw [MX.nm]
   exact aE ⟨plainId_quiet dG _,ih (j + 1) _ vb tb c (by omega) hlt J2 U6 (by rw [eb]; exact JC) (by rw [eb]; exact FQ) hR⟩
theorem first(hh:A.handled=none)(D:Hl J I S l vs)(turn:Turn prog w A.in1 q J I S vs kf)(hn:0 < vs.length){s:Shared}{c:Nat}(hJ:J s)(hit:s.heap.IsListIter I l 0)
  (hS:s.heap.get? S=some { cls:=.type "list", dict:=none,data:=.seq #[] c,slots:=#[] })(hR:∀ v s',vs[kP kf (vs.length - 1)]? = some v->J s'->R (.ok (.ret v)) s'):
  codeAny (model prog w) A (.builtin "max.loop" ⟨[.ref I,.ref q,.ref S],kw⟩) R s:=by
 have W:=Walks.list (prog:=prog) (w:=w) (A:=A.in1) hh I l D.lI vs.toArray
 have hsz:vs.toArray.size=vs.length:=aM ..
 have Hf:S ∉ [I]:=λ z=>D.SI (au.mp z)
 refine codeAny_builtin jR ?_
 rw [fh dG _]
 refine (show wpAny _ A.in1 (seqItems? (.ref S) >>= _) _ _ s from af (wpAny_seqItems hS rfl ?_))
 refine (show wpAny _ A.in1 (tryCatch (pyNext (.ref I)) _ >>= _) _ _ s from af (wpAny_tryCatch (W.item 0 s _ _ (by rw [hsz]; exact hn) ⟨hit,D.lst s hJ⟩ λ v h' tk hP o8 hk'=>?_)))
 have hv:vs[0]? = some v:=by simpa using hP
 obtain ⟨oI,U5,hoc,hod⟩:=id o8.1
 have hS':=hk' S _ Hf hS
 have J1:=D.chg s h' tk hJ (λ b o h1 _ e=>hk' b o (λ z=>h1 (au.mp z)) e)
 refine (show wpAny _ A.in1 (tryCatch (holding [v] (call (.ref q) [v])) _ >>= _) _ _ _ from af (wpAny_tryCatch (wpAny_holding (wpAny_mono (turn 0 v _ oI _ hv J1 U5 hS' (λ u z=>by rw [hod] at z; cases z) (λ u z=>by cases z)) (λ x s2 he=>?_) λ _ _ z=>z.elim))))
 obtain ⟨⟨t2,rfl⟩,J2,Sj,FQ⟩:=he
 obtain ⟨c2,hc2⟩:∃ c2,(s2.heap.update S (Obj.mapSeq λ _=>#[v,.int (kf 0) t2])).get? S=some { cls:=.type "list", dict:=none,data:=.seq #[v,.int (kf 0) t2] c2,slots:=#[] }:=⟨_,get?_update_seq FQ λ _=>#[v,.int (kf 0) t2]⟩
 have U7:=(ef s2.heap (Obj.mapSeq λ _=>#[v,.int (kf 0) t2]) D.SI).trans Sj
 refine (show wpAny _ A.in1 (updateSeq S (λ _=>#[v,.int (kf 0) t2]) >>= _) _ _ _ from af (wpAny_updateSeq FQ rfl ?_))
 rw [MX.nm]
 exact aE ⟨plainId_quiet dG _,loop hh D turn _ 0 _ v t2 c2 rfl hn (D.chg s2 _ s2.toks J2 (λ b o _ h2 e=>(ef _ _ (aZ h2)).trans e)) ⟨oI,U7,hoc,hod⟩ hv hc2 hR⟩
theorem Bo{s:Shared}{E:Value->Shared->Prop}{Q:Value->Shared->Prop}(hh:A.handled=none)(hls:s.heap.IsList l vs.toArray)(hn:0 < vs.length)
  (D:Hl J s.heap.objs.size (s.heap.objs.size + 1) l vs)(turn:Turn prog w A.in1 q J s.heap.objs.size (s.heap.objs.size + 1) vs kf)
  (hJ:∀ h',(∀ b o,s.heap.get? b=some o->h'.get? b=some o)->J { s with heap:=h' })(hQ:∀ v s',vs[kP kf (vs.length - 1)]? = some v->J s'->Q v s'):
  wpAny (model prog w) A (call (.builtin "max") [.ref l] [("key", .ref q)]) Q E s:=by
 refine MX.zJ F.kind_max F.plain_max F.entry_max (kmk_max_key _ _) ?_
 refine (show wpAny _ A.in1 (Builtin.Builtins.bindParams "max" ["key", "default"] 0 ⟨[],[("key", .ref q)]⟩ >>= _) _ _ s from ?_)
 refine af (wpAny_of_eq (show Builtin.Builtins.bindParams "max" ["key", "default"] 0 ⟨[],[("key", .ref q)]⟩=pure [some (.ref q),none] by first | rfl | kernel_rfl) ?_)
 refine af (aE (af (wpAny_pyIter_list hls ?_)))
 refine af (wpAny_newList ?_ (aL _))
 rw [MX.nm]
 have e1:(s.heap.push { cls:=.type "list_iterator", data:=.fields #[.ref l,.int 0 0] }).objs.size=s.heap.objs.size + 1:=cU ..
 rw [e1]
 refine aE ⟨plainId_quiet dG _,first hh D turn hn (hJ _ λ b o e=>bS _ (bS _ e)) ⟨_,bS _ (fJ _ rfl),rfl,rfl⟩ (c:=0) ?_ λ v s' hv j=>hQ v s' hv j⟩
 have:=fJ (o:=seqObj "list" #[] 0) (s.heap.push { cls:=.type "list_iterator", data:=.fields #[.ref l,.int 0 0] }) rfl
 rw [e1] at this
 exact this
end
end MK
namespace L2
open PySem PySem.Spec PyProof.Rows
variable {a b q p:Addr}{o:Obj}{y qual name:Str}{fr:List Str}{ix:List Nat}{params:Arguments}{body:Expr}{scope:Scope}{cl:List (Str × Addr)}{pm:Value}{h:Heap}{pos:Pos}{H H':Hp}
section
variable {X:Cx}{pins:List (Addr × Obj)}{σ:St}{H:Hp}{s:Shared}
theorem Inv.change{h':Heap}{tk:Nat}(J:Inv X pins σ H s)(f1:c9 X pins H a)(f2:c9 X pins H b)(k:∀ c o,c ≠ a->c ≠ b->s.heap.get? c=some o->h'.get? c=some o):
  Inv X pins σ H { s with heap:=h',toks:=tk }:=by
 have fp:∀ c∈[a,b],c9 X pins H c:=λ c hc=>by
  rcases aB.mp hc with e | hc
  ·rw [e]; exact f1
  ·rw [au.mp hc]; exact f2
 have kp:∀ c o,c ∉ [a,b]->s.heap.get? c=some o->h'.get? c=some o:=λ c o hc e=>k c o (λ z=>hc (by simp [z])) (λ z=>hc (by simp [z])) e
 have tr:∀ c u,H c=some u->c ∉ [a,b]:=λ c u e hc=>by rw [(fp c hc).1] at e; cases e
 have hok:iY X.prog X.w H h':=λ c u e=>(J.hok c u e).stay (λ d v hd q=>kp d v (by
  rcases hd with rfl | hd
  ·exact tr _ _ e
  ·exact tr _ _ hd) q) (λ _ q=>q) λ _ _ q=>q
 refine J.step (H':=H) (h':=h') (g':=s.gens) (t':=tk) (d':=s.drawn) (ch:=[a,b]) (λ c hc=>?_) (λ c o _ _ hc e _=>kp c o hc e) (λ c o _ _ hc e _=>⟨o.slots,kp c o hc e⟩) (λ c o _ e n=>n)
  (λ c o hc e=>⟨o,kp c o hc e⟩) (λ _ _ e=>e) (λ _ _ _ e=>e) (λ _ ps e=>⟨#[],by rw [e]; simp⟩) (λ m hm=>?_) hok J.bare
 ·obtain ⟨_,g2,g3,g4,g5,g6⟩:=fp c hc
  exact ⟨g4,g2,g5,g6⟩
 ·obtain ⟨o,es,ep,e,r⟩:=hm
  exact ⟨o,es,ep,kp _ _ (λ z=>(fp _ z).2.1 rfl) e,r⟩
theorem Inv.P8(J:Inv X pins σ H s)(f:c9 X pins H b)(e:s.heap.get? b=some o)(nc:∀ u,o.data ≠ .cell u):Inv X ((b,o) :: pins) σ H s :=
 ⟨J.ok,J.os,J.bare,J.base,J.loc,J.cell,J.free,J.gr,λ p hp=>by
   rcases aK.mp hp with h | h
   ·exact J.pin p (gR _ h)
   ·rcases aB.mp h with rfl | h
    ·exact ⟨e,f.1,f.2.1,f.2.2.1,nc⟩
    ·exact J.pin p (bg _ h),J.hok,J.len⟩
theorem Inv.yd{p:Addr × Obj}(J:Inv X (p :: pins) σ H s):Inv X pins σ H s :=
 ⟨J.ok,J.os,J.bare,J.base,J.loc,J.cell,J.free,J.gr,λ q hq=>J.pin q (by
   rcases aK.mp hq with h | h
   ·exact gR _ h
   ·exact bg _ (cu _ h)),J.hok,J.len⟩
theorem Inv.zL{p:Addr × Obj}(J:Inv X (p :: pins) σ H s):s.heap.get? p.1=some p.2:=(J.pin p (bg _ (.head _))).1
theorem Ep{l:Addr}{vs:List Value}(f1:c9 X pins H a)(f2:c9 X pins H b)(hl:∀ s,Inv X pins σ H s->s.heap.IsList l vs.toArray)(h1:l ≠ a)(h2:b ≠ a):MK.Hl (Inv X pins σ H) a b l vs :=
 ⟨hl,λ s h' tk J k=>J.change f1 f2 k,h1,h2⟩
theorem Er{l:Addr}{vs:List Value}{A:Around}{kf:Nat->Int}(f1:c9 X pins H a)(f2:c9 X pins H b)(h2:b ≠ a)
  (h:∀ i v s pins,vs[i]? = some v->Inv X pins σ H s->wpAny (model X.prog X.w) A (call (.ref q) [v]) (λ x s'=>(∃ t,x=.int (kf i) t) /\ Inv X pins σ H s') (λ _ _=>False) s):
  MK.Turn X.prog X.w A q (Inv X pins σ H) a b vs kf:=by
 intro i v s oI oS hv J e1 e2 n1 n2
 have J1:=J.P8 f1 e1 n1
 have YX:c9 X ((a,oI) :: pins) H b:=⟨f2.1,f2.2.1,f2.2.2.1,f2.2.2.2.1,f2.2.2.2.2.1,λ p hp=>by
  rcases aK.mp hp with z | z
  ·exact f2.2.2.2.2.2 p (gR _ z)
  ·rcases aB.mp z with rfl | z
   ·exact aZ h2
   ·exact f2.2.2.2.2.2 p (bg _ z)⟩
 have J2:=J1.P8 YX e2 n2
 refine wpAny_mono (h i v s _ hv J2) (λ x s' hx=>⟨hx.1,hx.2.yd.yd,hx.2.yd.zL,hx.2.zL⟩) λ _ _ z=>z
end
open PySem.W
def NF(X:Cx)(N:List Str)(env:Env)(s:Shared)(H:Hp):Cx where
 prog:=X.prog
 w:=X.w
 K:=X.K
 mg:=X.mg
 base:=X.base
 A:=X.A.in1.deeper env
 N:=N
 s₀:=s
 H₀:=H
 env:=env
 outer:=X.stack
 stack:=env :: X.stack
 ex:=[]
 fn:=λ _=>false
 calm:=true
 pn:=[]
 xe:=λ e s'=>wpAny (model X.prog X.w) (X.A.in1.deeper env) (leaving env e) (λ _ _=>False) (λ _ _=>False) s'
structure o9 (X:Cx) (scope:Scope) (cl:List (Str × Addr)) (y:Str) (fr:List Str) (ix:List Nat):Prop where
 calm:X.calm=true
 cell:∀ z∈scope.names,z.2 ≠ .cell
 kind:scope.kind=.function
 co:scope.isCoroutine=false
 gen:scope.isGenerator=false
 loc:scope.names.lookup y=some .local
 Ci:∀ z c,cl.lookup z=some c->X.env.cells.lookup z=some c
 C1:∀ z,(scope.names.lookup z=some .cell \/ scope.names.lookup z=some .free)->∃ c,cl.lookup z=some c
 fx:∀ (j:Nat) z,fr[j]? = some z->∃ i:Nat,ix[j]? = some i /\ X.N[i]? = some z /\ (X.env.kindOf z=some .cell \/ X.env.kindOf z=some .free) /\ scope.names.lookup z=some .free
 len:fr.length=ix.length
section
variable {X:Cx}{pins:List (Addr × Obj)}{σ:St}{H:Hp}{s:Shared}
theorem Es{ctv u:Value}{c':Addr}{te:TE}{v:V}{Q:VK}
  (O:o9 X scope cl y fr ix)(hr:X.A.in1.depth < recursionLimit)(hbind:∀ z:Value,bindArgs (kla_fn name qual params body scope cl pm (.ref c') ctv) ⟨[z],[]⟩=pure [(y,z)])
  (he:∀ L s H,PE (NF X (y :: fr) (envX qual scope L q (.ref c') cl) s H) body te)(I:Inv X pins σ H s)
  (hq:s.heap.get? q=some (kla_obj name qual params body scope cl pm c' ctv))(hc:s.heap.CodeRec (.ref c') qual)(r:RelV v u)(h:te (some v :: cut ix σ) H Q):
  wpAny (model X.prog X.w) X.A.in1 (call (.ref q) [u]) (EP X pins σ Q) (λ _ _=>False) s:=by
 refine wpAny_call (kla_callFunE hr hq rfl O.co O.gen rfl hc ?_)
 refine wpAny_of_eq (hbind u) ?_
 refine wpAny_newFunctionEnv O.cell (λ z hz=>?_) (λ h₁ hns Gn=>?_) O.kind
 ·rw [au.mp hz]
  exact O.loc
 have old:∀ b o,s.heap.get? b=some o->h₁.get? b=some o:=λ b o e=>Gn.extBut b o (aO (aD e)) (bS _ e)
 have qK:∀ b∈frs X.stack,b∈X.env.locals :: X.fs:=I.oj
 have ok:(NF X (y :: fr) (envX qual scope s.heap.objs.size q (.ref c') cl) s H).Ok:=by
  refine ⟨I.ok.mod,O.kind,rfl,rfl,ak _,λ a b c h1 h2=>I.ok.inj a b c (O.Ci a c h1) (O.Ci b c h2),λ a ha=>O.C1 a ha,λ a c z _=>absurd z iD,λ _=>I.ok.hd O.calm,Around.frames_deeper I.ok.frames,.inr ⟨rfl,rfl⟩,
   (λ b z=>nomatch z),I.bs,br I.ok.Cf I.sz,(λ b o _ z=>nomatch z),(λ b z=>nomatch z),I.stack,I.nh⟩
 have J:Inv (NF X (y :: fr) (envX qual scope s.heap.objs.size q (.ref c') cl) s H) [] (some v :: cut ix σ) H { s with heap:=h₁,toks:=s.toks + [(y,u)].length }:=by
  refine ⟨ok,rfl,I.bare,Un.kept old,⟨_,hns,λ i z x h1 h2 h3=>?_⟩,λ z c e=>?_,I.hok.fresh (ak _),λ z c e=>I.gr z c (O.Ci z c e),(λ p hp=>nomatch hp),I.hok.kept old,?_⟩
  ·cases i with
   | zero =>
    have h1:some y=some z:=h1
    have h2:some (some v)=some (some x):=h2
    obtain rfl:=Option.some.inj h1
    obtain rfl:=Option.some.inj (Option.some.inj h2)
    refine ⟨u,r,.inl ⟨O.loc,?_⟩⟩
    simp [List.lookup]
   | succ j =>
    have h1:fr[j]? = some z:=h1
    have h2:(cut ix σ)[j]? = some (some x):=h2
    obtain ⟨i,e1,e2,k,kc⟩:=O.fx j z h1
    obtain ⟨c,e3⟩:=O.C1 z (.inr kc)
    have e4:σ[i]? = some (some x):=by
     unfold cut at h2
     rw [aS,e1] at h2
     have h2:some ((σ[i]?).join)=some (some x):=h2
     have h2:=Option.some.inj h2
     cases w:σ[i]? with
     | none=>rw [w] at h2; cases h2
     | some t=>rw [w] at h2; exact congrArg some h2
    obtain ⟨m,_,hl⟩:=I.loc
    obtain ⟨u',r',l⟩:=hl i z x e2 e4 (k.elim (λ t=>.inr (.inl t)) λ t=>.inr (.inr t))
    refine ⟨u',r',.inr ⟨.inr kc,c,e3,?_⟩⟩
    rcases l with ⟨l1,_⟩ | ⟨_,c2,l2,l3⟩
    ·rcases k with k | k <;> (rw [k] at l1; cases l1)
    ·have e5:=O.Ci z c e3
     rw [l2] at e5; cases e5
     obtain ⟨o,ho,hd⟩:=l3
     exact ⟨o,old _ _ ho,hd⟩
  ·obtain ⟨x,o,ho,hd⟩:=I.cell z c (O.Ci z c e)
   exact ⟨x,o,old _ _ ho,hd⟩
  ·show (some v :: cut ix σ).length=(y :: fr).length
   unfold cut
   simp [O.len]
 refine ⟨?_,kla_codeExpr (wpAny_mono (he _ s H [] _ _ H Q J h) (λ x s' hx=>?_) λ e s' hx=>hx)⟩
 ·obtain ⟨mc,⟨o,es,ep,e,z⟩,l2⟩:=I.ok.mod.nolimit
  exact ⟨mc,⟨o,es,ep,old _ _ (I.bs _ _ e).1,z⟩,l2⟩
 ·obtain ⟨v2,H2,J2,r2,q2⟩:=hx
  exact ⟨v2,H2,I.Cr (ch:=[]) J2.os J2.base J2.hok J2.bare (λ b z=>nomatch z),r2,q2⟩
end
def iT(c:Addr)(qual:Str):HO:=.ext λ h=>h.CodeRec (.ref c) qual
def mD(q:Addr)(o:Obj):HO:=.ext λ h=>h.get? q=some o
section
variable {X:Cx}{pins:List (Addr × Obj)}{σ:St}{H:Hp}{s:Shared}{P:Program}{w:World}
theorem Et{G:Hp}{c:Addr}(x:h.CodeRec (.ref c) qual):bU P w G h c (iT c qual):=by
 refine ⟨x,?_,λ h1 h2 y k=>?_⟩
 ·obtain ⟨c2,oc,vs,t,e,hoc,_⟩:=x
  cases e
  exact ⟨oc,hoc⟩
 ·obtain ⟨c2,oc,vs,t,e,hoc,hr⟩:=y
  cases e
  exact ⟨c,oc,vs,t,rfl,k _ hoc,hr⟩
theorem zM{G:Hp}(x:h.get? q=some o):bU P w G h q (mD q o):=⟨x,⟨o,x⟩,λ _ _ y k=>k _ y⟩
theorem Inv.grow{c:Addr}{ps more:Array Value}{h':Heap}{tk:Nat}(I:Inv X pins σ H s)(hP:H p=some (.lJ ps))(x:Heap.ExtBut p s.heap h')(hge:s.heap.objs.size <= c)(hlt:c < h'.objs.size)
  (hrec:h'.CodeRec (.ref c) qual)(htb:h'.get? p=some (tabObj (ps++more)))(hf:o.isFreed=false):
  Inv X pins σ (upd (upd (upd H p (.lJ (ps++more))) c (iT c qual)) h'.objs.size (mD h'.objs.size o)) { s with heap:=h'.push o,toks:=tk }:=by
 have tr:∀ b u,H b=some u->b < s.heap.objs.size:=λ b u e=>I.hok.lt e
 have ne1:∀ b,b < s.heap.objs.size->b ≠ c /\ b ≠ h'.objs.size:=λ b hb=>⟨aO (bN hb hge),aO (Nat.lt_trans (bN hb hge) hlt)⟩
 have at_:∀ b,b < s.heap.objs.size->b ≠ p->upd (upd (upd H p (.lJ (ps++more))) c (iT c qual)) h'.objs.size (mD h'.objs.size o) b=H b:=λ b hb hn=>by
  rw [aP (ne1 b hb).2,aP (ne1 b hb).1,aP hn]
 have YY:upd (upd (upd H p (.lJ (ps++more))) c (iT c qual)) h'.objs.size (mD h'.objs.size o) p=some (.lJ (ps++more)):=by
  rw [aP (ne1 p (tr p _ hP)).2,aP (ne1 p (tr p _ hP)).1,cE]
 have Sk:∀ b,H b=none->b ≠ p:=λ b n z=>by rw [z,hP] at n; cases n
 have kp:∀ b ob,b ≠ p->s.heap.get? b=some ob->(h'.push o).get? b=some ob:=λ b ob hn e=>bS _ (x b ob hn e)
 have hok:iY X.prog X.w (upd (upd (upd H p (.lJ (ps++more))) c (iT c qual)) h'.objs.size (mD h'.objs.size o)) (h'.push o):=λ b u e=>by
  by_cases h1:b=h'.objs.size
  ·subst h1
   rw [cE] at e; cases e
   exact zM (fJ _ hf)
  rw [aP h1] at e
  by_cases h2:b=c
  ·subst h2
   rw [cE] at e; cases e
   obtain ⟨c2,oc,vs,t,e2,hoc,hr⟩:=hrec
   cases e2
   exact Et ⟨b,oc,vs,t,rfl,bS _ hoc,hr⟩
  rw [aP h2] at e
  by_cases h3:b=p
  ·subst h3
   rw [cE] at e; cases e
   exact bS _ htb
  rw [aP h3] at e
  refine (I.hok b u e).stay (λ d v hd q=>kp d v ?_ q) (λ d q=>?_) λ d xs q=>?_
  ·rcases hd with rfl | hd
   ·exact h3
   ·rintro rfl
    rw [hP] at hd; cases hd
  ·rw [at_ d (tr d _ q) (by rintro rfl; rw [hP] at q; cases q)]; exact q
  ·rw [at_ d (tr d _ q) (by rintro rfl; rw [hP] at q; cases q)]; exact q
 refine I.step (h':=h'.push o) (g':=s.gens) (t':=tk) (d':=s.drawn) (ch:=[]) (λ b z=>nomatch z) (λ b ob _ _ _ e n=>kp b ob (Sk b n) e) (λ b ob _ _ _ e n=>⟨ob.slots,kp b ob (Sk b n) e⟩) (λ b ob _ e n=>?_) (λ b ob _ e=>?_)
  (λ b xs e=>?_) (λ b ob u e=>?_) (λ b qs e=>?_) (λ m hm=>?_) hok I.bare
 ·rw [at_ b (aD e) (Sk b n)]; exact n
 ·by_cases hb:b=p
  ·subst hb
   exact ⟨_,bS _ htb⟩
  ·exact ⟨ob,kp b ob hb e⟩
 ·rw [at_ b (tr b _ e) (by rintro rfl; rw [hP] at e; cases e)]; exact e
 ·rw [at_ b (tr b _ e) (by rintro rfl; rw [hP] at e; cases e)]; exact e
 ·by_cases hb:b=p
  ·subst hb
   rw [hP] at e; cases e
   exact ⟨more,YY⟩
  ·exact ⟨#[],by rw [at_ b (tr b _ e) hb,e]; simp⟩
 ·obtain ⟨ob,es,ep,e,r⟩:=hm
  exact ⟨ob,es,ep,kp _ _ (Sk _ I.free) e,r⟩
def Ms(p:Addr)(qual:Str)(pos:Pos)(mk:Addr->Value->Obj):TE:=λ _ H Q =>
 (H p=some (.lJ #[]) /\ ∀ c q ctv,H c=none->H q=none->c ≠ q->Q (.ref q) (upd (upd (upd H p (.lJ #[rawInt pos.line,rawInt pos.col,.ref c])) c (iT c qual)) q (mD q (mk c ctv)))) \/
 (∃ c,H p=some (.lJ #[rawInt pos.line,rawInt pos.col,.ref c]) /\ ∀ q ctv,H q=none->Q (.ref q) (upd H q (mD q (mk c ctv))))
theorem Mt{cc:Addr}{clos:List (Str × Addr)}(hcd:X.env.code=.ref cc)(ch:codeHdIn X.K cc p=true)(U8:X.base.BuiltinsAt X.mg p)
  (hcl:closureFor scope X.env=pure clos)(hdef:defaultsOf params X.env=([],[])):
  PE X (.Lambda params body scope pos) (Ms p (X.env.qual ++ "<lambda>") pos λ c ctv=>kla_obj "<lambda>" (X.env.qual ++ "<lambda>") params body scope clos ((X.mg "__name__").getD .none) c ctv):=by
 intro pins s σ H Q I h
 have bk:∀ b o,X.base.get? b=some o->s.heap.get? b=some o:=λ b o e=>(I.bs b o e).1
 have hg:s.heap.Ns mainGlobals X.mg:=by
  obtain ⟨o,es,ep,e,z⟩:=I.ok.mod.glob
  exact ⟨o,es,ep,bk _ _ e,z⟩
 have C:CodeHd X.base cc p:=codeHd_of_K I.ok.mod.Nu ch
 have hb:s.heap.BuiltinsAt X.mg p:=by
  obtain ⟨bm,o,h1,h2,h3,h4,h5,h6⟩:=U8
  exact ⟨bm,o,h1,h2,h3,h4,bk _ _ h5,h6⟩
 refine kla_eval hdef ?_
 rcases h with ⟨hP,q⟩ | ⟨c,hP,q⟩
 ·have hp:s.heap.get? p=some (tabObj #[]):=I.hok p _ hP
  have ng:mainGlobals ≠ p:=λ z=>by
   obtain ⟨o,es,ep,e,d,_⟩:=hg
   rw [z,hp] at e; cases e; cases d
  refine kla_makeFunction hcl I.ok.glob hg hcd (C.keeps bk) hp trivial rfl ng hb λ c' ctv h' tk hx hge hlt hrec htb=>?_
  have I2:=I.grow (more:=#[rawInt pos.line,rawInt pos.col,.ref c']) (tk:=tk) (o:=kla_obj "<lambda>" (X.env.qual ++ "<lambda>") params body scope clos ((X.mg "__name__").getD .none) c' ctv) hP hx hge hlt hrec htb rfl
  exact ⟨.ref h'.objs.size,_,I2,rfl,q c' h'.objs.size ctv (I.hok.fresh hge) (I.hok.fresh (gS (Nat.lt_of_le_of_lt hge hlt))) (aO hlt)⟩
 ·have hp:s.heap.get? p=some (tabObj #[rawInt pos.line,rawInt pos.col,.ref c]):=I.hok p _ hP
  refine kla_makeFunctionHit hcl I.ok.glob hg hcd (C.keeps bk) hp (by simp [TriplesOk,rawInt]) (cv:=.ref c) (by simp [codeAmong,rawInt]) hb λ ctv h' tk hk hsz=>?_
  exact ⟨.ref h'.objs.size,_,I.laid (o:=mD h'.objs.size (kla_obj "<lambda>" (X.env.qual ++ "<lambda>") params body scope clos ((X.mg "__name__").getD .none) c ctv)) (λ b u e=>bS _ (hk b u e)) hsz (zM (fJ _ rfl)),rfl,q h'.objs.size ctv (I.hok.fresh hsz)⟩
end
theorem uN:∀ {as:List Addr} {us:List Value},Vals (as.map V.ref) us->us=as.map Value.ref
 | [],_,.nil=>rfl
 | a :: as,_,.cons r t=>by
  have r:_=Value.ref a:=r
  rw [r,uN t]
  rfl
def Eu(K:ay)(qual:Str)(mk:Addr->Value->Obj)(te:TE)(ix:List Nat)(σ:St)(vs:List V)(y:V)(H:Hp)(Q:VK):Prop :=
 ∃ (l:Addr) (as:List Addr) (q c:Addr) (ctv:Value) (kf:Nat->Int),vs=[.ref l] /\ y=.ref q /\ bI K H l (as.map V.ref) /\ H q=some (mD q (mk c ctv)) /\ H c=some (iT c qual) /\ 0 < as.length /\
  (∀ i a,as[i]? = some a->te (some (.ref a) :: cut ix σ) H λ r H'=>r=.int (kf i) /\ H'=H) /\ ∀ a,as[MK.kP kf (as.length - 1)]? = some a->Q (.ref a) H
def Ew(K:ay)(qual:Str)(mk:Addr->Value->Obj)(te:TE)(ix:List Nat)(t:TA)(tl:TE):TE:=λ σ H Q=>t σ H λ vs H1=>tl σ H1 λ y H2=>Eu K qual mk te ix σ vs y H2 Q
section
variable {X:Cx}{e lam:Expr}{p kp pos:Pos}{t:TA}{tl te:TE}{pins:List (Addr × Obj)}{σ:St}{H:Hp}{s:Shared}
theorem Ho{vs:List V}{us:List Value}{z:V}{d:Value}{Q:VK}{E:Value->Shared->Prop}
  (O:o9 X scope cl y fr ix)(hr:X.A.in1.depth < recursionLimit)(hbind:∀ (c':Addr) (ctv z:Value),bindArgs (kla_fn name qual params body scope cl pm (.ref c') ctv) ⟨[z],[]⟩=pure [(y,z)])
  (he:∀ q c' L s H,PE (NF X (y :: fr) (envX qual scope L q (.ref c') cl) s H) body te)(I:Inv X pins σ H s)(r:Vals vs us)(rz:RelV z d)
  (h:Eu X.K qual (λ c ctv=>kla_obj name qual params body scope cl pm c ctv) te ix σ vs z H Q):
  wpAny (model X.prog X.w) X.A (call (.builtin "max") us [("key", d)]) (λ u s'=>∃ x H',Inv X pins σ H' s' /\ RelV x u /\ Q x H') E s:=by
 obtain ⟨l,as,q,c,ctv,kf,rfl,rfl,hS,hq,hc,hn,hk,hQ⟩:=h
 obtain ⟨u,rfl,ru⟩:=vals1 r
 cases ru
 have rz:d=Value.ref q:=rz
 subst rz
 have hl:∀ pins s,Inv X pins σ H s->s.heap.IsList l (as.map Value.ref).toArray:=λ pins s J=>by
  obtain ⟨its,rv,pl,_⟩:=J.list hS
  rw [uN rv] at pl
  exact pl.isList
 have hls:=hl pins s I
 have hlt:l < s.heap.objs.size:=by
  obtain ⟨o,ho,_⟩:=id hls
  exact aD ho
 have f1:c9 X pins H s.heap.objs.size:=I.jJ (ak _) (I.hok.fresh (ak _))
 have f2:c9 X pins H (s.heap.objs.size + 1):=I.jJ (gT _) (I.hok.fresh (gT _))
 have n2:s.heap.objs.size + 1 ≠ s.heap.objs.size:=Nat.succ_ne_self _
 have at_:∀ i v,(as.map Value.ref)[i]? = some v->∃ a,as[i]? = some a /\ v=Value.ref a:=λ i (v:Value) hv=>by
  rw [aS] at hv
  obtain ⟨a,ha,rfl⟩:=fB.mp hv
  exact ⟨a,ha,rfl⟩
 refine MK.Bo (J:=Inv X pins σ H) (kf:=kf) (I.ok.hd O.calm) hls (by rw [aq]; exact hn) (Ep f1 f2 (hl pins) (aO hlt) n2) (Er (l:=l) f1 f2 n2 λ i v s' Cq hv J=>?_) (λ h' kp=>I.kept kp) λ v s' hv J=>?_
 ·obtain ⟨a,ha,rfl⟩:=at_ i v hv
  refine wpAny_mono (Es (Q:=λ r H'=>r=.int (kf i) /\ H'=H) O hr (hbind c ctv) (λ L s H=>he q c L s H) J (J.hok q _ hq).1 (J.hok c _ hc).1 (show RelV (.ref a) (.ref a) from rfl) (hk i a ha)) (λ x s2 hx=>?_) λ _ _ f=>f
  obtain ⟨v2,H2,J2,r2,rfl,rfl⟩:=hx
  exact ⟨r2,J2⟩
 ·obtain ⟨a,ha,rfl⟩:=at_ _ v hv
  rw [aq] at ha
  exact ⟨.ref a,H,J,rfl,hQ a ha⟩
theorem Hq(O:o9 X scope cl y fr ix)(hr:X.A.in1.depth < recursionLimit)
  (hbind:∀ (c':Addr) (ctv z:Value),bindArgs (kla_fn name qual params body scope cl pm (.ref c') ctv) ⟨[z],[]⟩=pure [(y,z)])(he:∀ q c' L s H,PE (NF X (y :: fr) (envX qual scope L q (.ref c') cl) s H) body te)
  (hg:Gl X "max")(hm:X.mg "max" = none)(ha:PA X [e] t)(hv:PE X lam tl)(hb:backTo pos (starEach [e] X.env)=(false,eval e X.env) :: backTo pos (starEach [] X.env):=by rfl)
  (hpl:(backTo pos (starEach [e] X.env)).any (·.1)=false:=by rfl)(hal:(backToKw pos (keywordEach [⟨some "key", lam,kp⟩] X.env)).all (·.1.isSome)=true:=by rfl)(hkw:(backToKw pos (keywordEach [⟨some "key", lam,kp⟩] X.env)).any (·.1.isNone)=false:=by rfl)
  (hfm:(backToKw pos (keywordEach [⟨some "key", lam,kp⟩] X.env)).filterMap (·.1)=[("key" : Str)]:=by rfl):
  PE X (.Call (.Name "max" p) [e] [⟨some "key", lam,kp⟩] pos) (Ew X.K qual (λ c ctv=>kla_obj name qual params body scope cl pm c ctv) te ix t tl):=by
 intro pins s σ H Q I h
 refine wpAny_Call_Name_kw (gu I hg hm BT.Dv ?_)
 refine callWith_kw (kws:=[⟨some "key", lam,kp⟩]) ?_ hb hpl hal hkw
 refine cA (ha pos pins s σ H _ I h) λ us s1 ⟨vs,H1,I1,r1,q1⟩=>?_
 refine kws_cons (cA (hv pins s1 σ H1 _ I1 q1) λ d s2 ⟨z,H2,I2,rz,q2⟩=>kws_nil ?_)
 rw [hfm]
 exact Ho O hr hbind he I2 r1 rz q2
end
theorem o9.caps{X:Cx}{x:Str}{nm:List Str}(calm:X.calm=true)(cell:∀ y∈scope.names,y.2 ≠ .cell)(kind:scope.kind=.function)(co:scope.isCoroutine=false)(gen:scope.isGenerator=false)
  (loc:scope.names.lookup x=some .local)(hcl:tU (λ p=>X.env.cells.lookup p.1=some p.2) cl)(hnm:cl.map (·.1)=nm)(hfree:∀ z∈scope.names,z.2=.free->z.1∈nm)(hlen:fr.length=ix.length)
  (hfx:tU (λ p=>X.N[p.2]? = some p.1 /\ X.env.kindOf p.1=some .cell /\ scope.names.lookup p.1=some .free) (fr.zip ix)):o9 X scope cl x fr ix:=by
 refine ⟨calm,cell,kind,co,gen,loc,λ y c h=>hcl.mem (y,c) (eO h),λ y h=>?_,λ j z hz=>?_,hlen⟩
 ·have hy:(y,NameKind.free)∈scope.names:=by
   rcases h with h | h
   ·exact absurd rfl (cell _ (eO h))
   ·exact eO h
  have hm:=hfree _ hy rfl
  rw [<- hnm] at hm
  obtain ⟨p,hp,e⟩:=aA.mp hm
  cases q:cl.lookup y with
  | some c=>exact ⟨c,rfl⟩
  | none =>
   have z:=List.lookup_eq_none_iff.mp q p hp
   have e:p.1=y:=e
   rw [e] at z
   simp at z
 ·have hj:j < fr.length:=(e9 hz).1
  have hi:ix[j]? = some (ix[j]'(by omega)):=dB (by omega)
  have hm:(z,ix[j]'(by omega))∈fr.zip ix:=by
   refine dX.mpr ⟨j,?_⟩
   rw [jT]
   exact ⟨hz,hi⟩
  obtain ⟨h1,h2,h3⟩:=hfx.mem _ hm
  exact ⟨_,hi,h1,.inl h2,h3⟩
section
variable {P:Program}{w:World}{K:ay}{mg:Str->Option Value}{base:Heap}
theorem Jf.YZ{x:Str}{st:Stmt}{f:Addr}{fd:FuncData}{N ps:List Str}{k:Nat}{sp:Sp}(F:Jf K x qual st f fd)(S:aY N ps (aF st))(len:∀ vs H Q E,sp vs H Q E->vs.length=ps.length)
  (hbody:∀ (A:Around) (outer:List Env) (s:Shared) (H:Hp) (vs:List V) (Q:VK) (E:XK),fE k (A.deeper (envOfC qual (aF st) s.heap.objs.size f fd.code))->sp vs H Q E ->
   ∃ t,ql (rS ji P w K mg base N qual (aF st) f fd.code A outer s H E).Az (eS st) t /\ t { nx:=λ _ H'=>Q .cP H',rt:=Q } (start N vs) H):cJ P w K mg base ji (k + 1) f fd ps sp:=by
 obtain ⟨oc,od,kV,doc,pm,an,cdv,ct,osl,rfl,lk,hcd⟩:=F.ex
 refine CC lk hcd S len λ A outer s H vs Q E hr wC=>?_
 obtain ⟨t,h,q⟩:=hbody A outer s H vs Q E hr wC
 exact ⟨t,h.Az,q⟩
theorem Ex{k:Nat}{A:Around}(h:fE (k + 1) A):A.in1.depth < recursionLimit:=h.in1.depth
end
def fY(p:Addr)(H H':Hp):Prop:=∀ b o,b ≠ p->H b=some o->H' b=some o
theorem fY.trans{H1 H2:Hp}(a:fY p H H1)(b:fY p H1 H2):fY p H H2:=λ c o n h=>b c o n (a c o n h)
theorem aG.P9(s:aG H H'):fY p H H':=λ c o _ h=>s c o h
def mE(p:Addr)(qual:Str)(pos:Pos)(H:Hp):Prop:=H p=some (.lJ #[]) \/ ∃ c,H p=some (.lJ #[rawInt pos.line,rawInt pos.col,.ref c]) /\ H c=some (iT c qual)
theorem mE.ne{H:Hp}(t:mE p qual pos H){o:HO}(h:H b=some o)(ho:∀ ps,o ≠ .lJ ps):b ≠ p:=λ z=>by
 subst z
 rcases t with e | ⟨c,e,_⟩ <;> (rw [e] at h; exact ho _ (Option.some.inj h).symm)
theorem mE.same(t:mE p qual pos H)(s:aG H H'):mE p qual pos H':=t.elim (λ e=>.inl (s _ _ e)) λ ⟨c,e,h⟩=>.inr ⟨c,s _ _ e,s _ _ h⟩
theorem mE.put{f:Addr}{xs:List V}{o:HO}(t:mE p qual pos H)(hf:H f=some (.lst xs))(s:kh H f o H'):mE p qual pos H':=by
 have k:∀ {b:Addr} {u:HO},H b=some u->(∀ ys,u ≠ .lst ys)->H' b=some u:=λ h n=>s.keep (λ z=>by subst z; rw [hf] at h; exact n _ (Option.some.inj h).symm) h
 rcases t with e | ⟨c,e,h⟩
 ·exact .inl (k e λ _ z=>nomatch z)
 ·exact .inr ⟨c,k e (λ _ z=>nomatch z),k h (λ _ z=>nomatch z)⟩
section
variable {σ:St}{H:Hp}{Q:VK}{K:ay}{p:Addr}{qual:Str}{pos:Pos}{mk:Addr->Value->Obj}{te tl:TE}{ix:List Nat}{t:TA}
theorem Hr(h:t σ H λ vs H1=>tl σ H1 λ y H2=>Eu K qual mk te ix σ vs y H2 Q):Ew K qual mk te ix t tl σ H Q:=h
theorem Mu(ht:mE p qual pos H)(h:∀ c q ctv H',fY p H H'->H' q=some (mD q (mk c ctv))->H' c=some (iT c qual)->mE p qual pos H'->Q (.ref q) H'):Ms p qual pos mk σ H Q:=by
 rcases ht with hP | ⟨c,hP,hc⟩
 ·refine .inl ⟨hP,λ c q ctv fc fq ne=>?_⟩
  have np:p ≠ c:=λ z=>by rw [<- z,hP] at fc; cases fc
  have nq:p ≠ q:=λ z=>by rw [<- z,hP] at fq; cases fq
  have K2:upd (upd (upd H p (.lJ #[rawInt pos.line,rawInt pos.col,.ref c])) c (iT c qual)) q (mD q (mk c ctv)) p=some (.lJ #[rawInt pos.line,rawInt pos.col,.ref c]):=by rw [aP nq,aP np,cE]
  have hc':upd (upd (upd H p (.lJ #[rawInt pos.line,rawInt pos.col,.ref c])) c (iT c qual)) q (mD q (mk c ctv)) c=some (iT c qual):=by rw [aP ne,cE]
  refine h c q ctv _ (λ b o hb e=>?_) cE hc' (.inr ⟨c,K2,hc'⟩)
  rw [aP (aV e fq),aP (aV e fc),aP hb]
  exact e
 ·refine .inr ⟨c,hP,λ q ctv fq=>?_⟩
  have s:=Bp fq (mD q (mk c ctv))
  exact h c q ctv _ (λ b o _ e=>s b o e) cE (s _ _ hc) (.inr ⟨c,s _ _ hP,s _ _ hc⟩)
where
 Bp {H:Hp} {q:Addr} (fq:H q=none) (o:HO):aG H (upd H q o):=λ b u e=>by rw [aP (aV e fq)]; exact e
end
section
variable {X:Cx}{e:Expr}{p kp pos Ey:Pos}{t:TA}{te:TE}
theorem Hs{clos:List (Str × Addr)}{cc pt:Addr}(hcd:X.env.code=.ref cc)(ch:codeHdIn X.K cc pt=true)(U8:X.base.BuiltinsAt X.mg pt)(hcl:closureFor scope X.env=pure clos)(hdef:defaultsOf params X.env=([],[]))
  (O:o9 X scope clos y fr ix)(hr:X.A.in1.depth < recursionLimit)(hbind:∀ (c':Addr) (ctv z:Value),bindArgs (kla_fn "<lambda>" (X.env.qual ++ "<lambda>") params body scope clos ((X.mg "__name__").getD .none) (.ref c') ctv) ⟨[z],[]⟩=pure [(y,z)])
  (he:∀ q c' L s H,PE (NF X (y :: fr) (envX (X.env.qual ++ "<lambda>") scope L q (.ref c') clos) s H) body te)(hg:Gl X "max")(hm:X.mg "max" = none)(ha:PA X [e] t)(hb:backTo pos (starEach [e] X.env)=(false,eval e X.env) :: backTo pos (starEach [] X.env):=by rfl)
  (hpl:(backTo pos (starEach [e] X.env)).any (·.1)=false:=by rfl)(hal:(backToKw pos (keywordEach [⟨some "key", .Lambda params body scope Ey,kp⟩] X.env)).all (·.1.isSome)=true:=by rfl)(hkw:(backToKw pos (keywordEach [⟨some "key", .Lambda params body scope Ey,kp⟩] X.env)).any (·.1.isNone)=false:=by rfl)
  (hfm:(backToKw pos (keywordEach [⟨some "key", .Lambda params body scope Ey,kp⟩] X.env)).filterMap (·.1)=[("key" : Str)]:=by rfl):
  PE X (.Call (.Name "max" p) [e] [⟨some "key", .Lambda params body scope Ey,kp⟩] pos) (Ew X.K (X.env.qual ++ "<lambda>") (λ c ctv=>kla_obj "<lambda>" (X.env.qual ++ "<lambda>") params body scope clos ((X.mg "__name__").getD .none) c ctv) te ix t (Ms pt (X.env.qual ++ "<lambda>") Ey λ c ctv=>kla_obj "<lambda>" (X.env.qual ++ "<lambda>") params body scope clos ((X.mg "__name__").getD .none) c ctv)) :=
 Hq O hr hbind he hg hm ha (Mt hcd ch U8 hcl hdef) hb hpl hal hkw hfm
end
open Classical in
def Xl(h:Heap)(q:HM.aR)(v:Value):Bool:=decide (∃ a,v=.ref a /\ HM.bh h q a)
open Classical in
theorem U9{k q:HM.aR}(x:HM.bh h k a):Xl h q (.ref a)=decide (k=q):=by
 unfold Xl
 by_cases e:k=q
 ·subst e
  rw [decide_eq_true (show ∃ b,Value.ref a=.ref b /\ HM.bh h k b from ⟨a,rfl,x⟩),decide_eq_true rfl]
 ·rw [decide_eq_false e,decide_eq_false]
  rintro ⟨b,eb,y⟩
  cases eb
  exact e (HM.bh.inj x y)
section
variable {X:Cx}{pins:List (Addr × Obj)}{σ:St}{H:Hp}{s:Shared}{Q:VK}
end
end L2
namespace L2
open PySem PySem.Spec PyProof.Rows
variable {a b:Int}{ta:TA}
set_option genInjectivity false in
set_option genSizeOf false in
set_option genSizeOfSpec false in
structure DD (K:ay) (mg:Str->Option Value) (n:Str) (st:Stmt) (ps:List Str) where
 f:Addr
 d:FuncData
 F:Jf K n n st f d
 b:Binds K d ps []
 m:mg n=some (.ref f)
set_option genInjectivity false in
set_option genSizeOf false in
set_option genSizeOfSpec false in
structure DL (K:ay) (mg:Str->Option Value) (n:Str) (st:Stmt) (ps:List Str) (pp:Addr) extends DD K mg n st ps where
 cc:Addr
 cq:d.code=.ref cc
 ch:PySem.W.codeHdIn K cc pp=true
set_option genInjectivity false in
set_option genSizeOf false in
set_option genSizeOfSpec false in
structure CI (mg:Str->Option Value) (n:Str) (i:Int) where
 t:Tok
 c:mg n=some (.int i t)
set_option genInjectivity false in
set_option genSizeOf false in
set_option genSizeOfSpec false in
structure CT (K:ay) (mg:Str->Option Value) (n:Str) (vs:List V) where
 a:Addr
 c:mg n=some (.ref a)
 q:fN K a vs
section
variable {K:ay}{mg:Str->Option Value}{n:Str}{st:Stmt}{ps:List Str}{h:Heap}{f a:Addr}{oc:Value}{od an:Option Addr}{sl:Array (Option Value)}{kV dc pm cd ct:Value}
abbrev ye(n:Str)(st:Stmt)(ps:List Str):Prop:=∀ (kV doc pm:Value) (an:Option Addr) (cdv ct:Value) (us:List Value),us.length=ps.length->bindArgs (PySem.W.fnOf n n (gI st) (eS st) (aF st) .none kV doc pm an cdv ct) ⟨us,[]⟩=pure (ps.zip us)
def JF(X:K.In h)(G:h.Ns mainGlobals mg)(hb:ye n st ps)(e:PySem.W.nsIn K mainGlobals n=some (some (.ref f)))(l:K.lookup f=some ⟨oc,od,.func (PySem.W.fnOf n n (gI st) (eS st) (aF st) .none kV dc pm an cd ct),sl⟩)
  (c:PySem.W.codeIn K cd n=true)(k:PySem.W.keepIn K (.ref f)=true):DD K mg n st ps:=⟨f,_,CY l c k,(CY l c k).binds hb,PySem.W.mg_of X G e⟩
def Qa{cc pp:Addr}(X:K.In h)(G:h.Ns mainGlobals mg)(hb:ye n st ps)(e:PySem.W.nsIn K mainGlobals n=some (some (.ref f)))(l:K.lookup f=some ⟨oc,od,.func (PySem.W.fnOf n n (gI st) (eS st) (aF st) .none kV dc pm an (.ref cc) ct),sl⟩)
  (c:PySem.W.codeIn K (.ref cc) n=true)(k:PySem.W.keepIn K (.ref f)=true)(ch:PySem.W.codeHdIn K cc pp=true):DL K mg n st ps pp:={ JF X G hb e l c k with cc:=cc,cq:=rfl,ch:=ch }
def Qc{i:Int}{t:Tok}(X:K.In h)(G:h.Ns mainGlobals mg)(e:PySem.W.nsIn K mainGlobals n=some (some (.int i t))):CI mg n i:=⟨t,PySem.W.mg_of X G e⟩
def Qd{vs:List V}{its:Array Value}{j:Nat}(X:K.In h)(G:h.Ns mainGlobals mg)(e:PySem.W.nsIn K mainGlobals n=some (some (.ref a)))(l:K.lookup a=some ⟨.type "tuple", od,.seq its j,sl⟩)(r:Vals vs its.toList)(hz:its.size <= 1000):CT K mg n vs:=⟨a,PySem.W.mg_of X G e,fN.mk' l r hz⟩
theorem DD.bind1{x:Str}{st:Stmt}(D:DD K mg n st [x])(hb:ye n st [x])(s:Shared)(v:Value):BindsTo s D.d ⟨[v],[]⟩ [(x,v)]:=by
 obtain ⟨_,_,kV,dc,pm,an,cd,ct,_,e,_,_⟩:=D.F.ex
 rw [e]
 exact .of_eq (hb kV dc pm an cd ct [v] rfl)
end
section
variable {X:Cx}{n:Str}{st:Stmt}{ps:List Str}{sp:Sp}{k j:Nat}{e:Expr}{es:List Expr}{p pos:Pos}{t:TA}
theorem bO(D:DD X.K X.mg n st ps)(F:cJ X.prog X.w X.K X.mg X.base ji k D.f D.d ps sp)(r:fE j X.A)(ha:PA X (e :: es) t)(hk:k <= j:=by first | decide | omega)(hg:Gl X n:=by rfl)(hdb:(n == ("__debug__" : Str))=false:=by decide)
  (he:starEach (e :: es) X.env=(false,eval e X.env) :: starEach es X.env:=by rfl)(hpl:(backTo pos (starEach es X.env)).any (·.1)=false:=by rfl):PE X (.Call (.Name n p) (e :: es) [] pos) (CB sp [] E0 t) :=
 Gb F (r.mono hk) hg D.m D.F.kp D.b .nil Ox ha hdb he hpl
end
def Ht(a:Int)(n:Nat):It:=⟨λ i _=>i < n,λ i H x H'=>H'=H /\ x=.int (a - i),λ i _=>n <= i⟩
theorem uO{P:Program}{w:World}{K:ay}{tg:Expr}(it:Addr)(a:Int)(n:Nat):Turn P w K tg (Ht a n) [it] it (λ i h=>IsRangeIter h it (a + (i:Nat) * (-1)) ((n:Int) - (i:Nat)) (-1)) where
 mem:=by simp
 obj:=λ i h st b hb=>by
  have e:b=it:=by simpa using hb
  subst e
  exact ⟨_,st,λ v z=>by
   have z':Data.fields _=Data.cell v:=z
   cases z'⟩
 keep:=λ i h h' st k=>k it (by simp) _ st
 item:=by
  intro X hP hw hK hc i pins s σ H E I hf st hg
  subst hP hw hK
  obtain ⟨f0,f1,f2,f3,f4,f5⟩:=hf it (by simp)
  have W:=Walks.range (prog:=X.prog) (w:=X.w) (I.ok.hd hc) it a (-1) n
  refine W.item i s _ _ hg st λ v h' tk hv st' kk=>?_
  obtain ⟨t,rfl⟩:=hv
  have I1:Inv X pins σ H { s with heap:=h',toks:=tk }:=I.turned (λ b o hb e=>kk b o (by simpa using hb) e) f0 f1 f3 f4 f5
  refine ⟨_,rfl,tM (s:={ s with heap:=h',toks:=tk }) (n := "range_iterator") st' rfl rfl (by decide) ⟨.int (a - i),H,I1,⟨t,?_⟩,⟨rfl,rfl⟩,st',λ b hb=>(hf b hb).1⟩⟩
  rw [show a + (i:Int) * (-1)=a - i by omega]
 done:=by
  intro X hP hw hK hc i pins s σ H E I hf st hg
  subst hP hw hK
  obtain ⟨f0,f1,f2,f3,f4,f5⟩:=hf it (by simp)
  exact wpAny_pyNext_range_end (I.ok.hd hc) st (by have:n <= i:=hg; omega) λ h' eb=>⟨rfl,I.turned (t':=s.toks) (λ b o hb e=>eb b o hb e) f0 f1 f3 f4 f5⟩
 self:=λ _ _ _ _ _ st h=>wpAny_pyIter_rangeiter st h
section
variable {X:Cx}{tg:Expr}
def Ez(R:It->Hp->Prop):List V->Hp->Prop:=λ vs H=>∃ a b:Int,vs=[.int a,.int b,.int (-1)] /\ -1000000 <= b /\ b <= a /\ a <= 1000000 /\ R (Ht a (a - b).toNat) H
def JG(ta:TA):TI:=λ σ H R=>ta σ H (Ez R)
theorem qQ(h:b <= a):Builtin.Range.rangeSize a b (-1)=a - b:=by
 unfold Builtin.Range.rangeSize
 rw [if_neg (by decide)]
 split
 ·rw [show -(-1:Int)=1 by decide,Int.ediv_one]
  omega
 ·omega
theorem EA(h1:-1000000 <= b)(h2:b <= a)(h3:a <= 1000000):Builtin.Range.small a b (-1)=true:=by
 have e:=qQ h2
 have f:∀ i:Int,-3000000 <= i->i <= 3000000->Builtin.Range.rangeFitsLong i=true:=λ i g1 g2=>by
  simp only [Builtin.Range.rangeFitsLong,mJ,decide_eq_true_eq]
  omega
 unfold Builtin.Range.small
 rw [e,f a (by omega) (by omega),f b (by omega) (by omega),f (-1) (by omega) (by omega),f (a - b) (by omega) (by omega),if_neg (by decide),f (b + (-1 + 1)) (by omega) (by omega)]
 simp
theorem Bq{a b c:Expr}{p pos:Pos}(hg:Gl X "range")(hm:X.mg "range" = none)(ha:PA X [a,b,c] ta)(hs:starEach [a,b,c] X.env=[(false,eval a X.env),(false,eval b X.env),(false,eval c X.env)]:=by rfl)
  (hs2:starEach [b,c] X.env=[(false,eval b X.env),(false,eval c X.env)]:=by rfl):PI X tg (.Call (.Name "range" p) [a,b,c] [] pos) (JG ta):=by
 intro pins s σ H R I h
 refine Call_ (gu I hg hm boot_range (iJ (cA (ha pos pins s σ H _ I h) λ us s1 ⟨vs,H1,I1,r1,q1⟩=>?_) (by rw [hs,hs2]) (by rw [hs2]; rfl)))
 obtain ⟨i,j,e,b1,b2,b3,q⟩:=q1
 subst e
 cases r1 with
 | cons r rr =>
  cases rr with
  | cons r' rr =>
   cases rr with
   | cons r'' rr =>
    cases rr
    obtain ⟨t,rfl⟩:=r
    obtain ⟨t',rfl⟩:=r'
    obtain ⟨t'',rfl⟩:=r''
    refine call_range_3 (by decide) ?_ (av (PyProof.noPylong_small (by omega)))
    have I2:Inv X pins σ H1 { s1 with heap:=s1.heap.push { cls:=.type "range", data:=.fields #[.int i t,.int j t',.int (-1) t''] },toks:=s1.toks }:=I1.kept λ b o e=>bS _ e
    refine wpAny_pyIter_range (IsRange.new ..) (EA b1 b2 b3) ?_
    refine ⟨(s1.heap.push { cls:=.type "range", data:=.fields #[.int i t,.int j t',.int (-1) t''] }).objs.size,[_],_,_,H1,rfl,I2.kept (t':=s1.toks) λ b o e=>bS _ e,uO _ i (i - j).toNat,?_,λ b hb=>?_,q⟩
    ·show IsRangeIter _ _ (i + ((0:Nat):Int) * (-1)) ((((i - j).toNat:Nat):Int) - ((0:Nat):Int)) (-1)
     rw [show i + ((0:Nat):Int) * (-1)=i by omega,show (((i - j).toNat:Nat):Int) - ((0:Nat):Int)=i - j by omega,<- qQ b2]
     exact fJ _ rfl
    ·obtain rfl:=au.mp hb
     exact I2.jJ (ak _) (I2.hok.fresh (ak _))
end
section
variable {K:ay}{nx bk ct:St->Hp->Prop}{rt:VK}{σ:St}{H:Hp}{Q:VK}{te:TE}
theorem Hu{R:It->Hp->Prop}(h:ta σ H (Ez R)):JG ta σ H R:=h
theorem Mv{R:It->Hp->Prop}(h1:-1000000 <= b)(h2:b <= a)(h3:a <= 1000000)(h:R (Ht a (a - b).toNat) H):Ez R [.int a,.int b,.int (-1)] H:=⟨a,b,rfl,h1,h2,h3,h⟩
theorem EB{n:Nat}{g:TG}{tb:TS}(Pv:Nat->St->Hp->Prop)(h0:Pv 0 σ H)
  (hs:∀ i σ H,i < n->Pv i σ H->g (.int (a - i)) σ H λ σ2 H2=>tb ⟨Pv (i + 1),rt,nx,Pv (i + 1)⟩ σ2 H2)(hd:∀ σ H,Pv n σ H->nx σ H):Jg (Ht a n) g tb nx rt σ H :=
 ⟨λ i m σ H=>m=n - i /\ i <= n /\ Pv i σ H,⟨n,by omega,by omega,h0⟩,λ i m σ' H' ⟨e,hi,p⟩=>by
  rcases bG i n with hlt | hge
  ·refine .inr ⟨hlt,Pv (i + 1),λ σ2 H2 q=>⟨n - (i + 1),by omega,rfl,hlt,q⟩,?_⟩
   rintro x H2 ⟨rfl,rfl⟩
   exact hs i σ' _ hlt p
  ·have:i=n:=by omega
   subst this
   exact .inl ⟨hge,hd _ _ p⟩⟩
end
section
variable {X:Cx}{o e:Expr}{td ty:TE}{apos cpos:Pos}
def Qe(P:Program)(w:World)(ty:TE)(σ:St)(Q:VK):V->Hp->Prop:=λ x H1=>∃ d ep kvs,x=.ref d /\ H1 d=some (.ext (bR P w d ep kvs)) /\ ty σ H1 λ y H2=>∃ b ep kvs k,y=.ref b /\ DH P w H2 d ep kvs /\ aJ H2 (.ref b) k /\ Q ((fO kvs k).getD .cP) H2
def Qf(P:Program)(w:World)(td ty:TE):TE:=λ σ H Q=>td σ H (Qe P w ty σ Q)
theorem qR(hu:X.A.units + 64 < cLine)(ho:PE X o td)(he:PE X e ty)(m:M1 X o "get" apos e cpos):PE X (.Call (.Attribute o "get" apos) [e] [] cpos) (Qf X.prog X.w td ty):=by
 intro pins s σ H Q I h
 refine wpAny_Call_method m.base m.few m.line PySem.F.plainAttrs_dict PySem.F.slot_dict_get PySem.F.type_dict_get (cA (ho pins s σ H _ I h) λ u s1 ⟨x,H1,I1,rx,d,ep,kvs,ex,hd,q1⟩=>?_)
 subst ex
 obtain rfl:u=Value.ref d:=rx
 obtain ⟨t1,t2,lo⟩:=Ej I1 hd
 refine ⟨t1,t2,?_⟩
 rw [m.trees]
 refine nT rfl (Calls.evalArgs_plain (nU (cA (he pins s1 σ H1 _ I1 q1) λ iv s3 ⟨y,H3,I3,ry,b,P5,U0,k,ey,Cj,hb,q3⟩=>Calls.spliced_nil ?_)))
 subst ey
 obtain rfl:iv=Value.ref b:=ry
 obtain ⟨_,_,xs,rel,dd⟩:=I3.dh Cj
 refine call_meetsIn PySem.F.slot_dict_get dd.typeIs PySem.F.entry_dict_get (PySem.F.args_dict_get_2 _ _) (meetsH_dict_get (HM.cF X.prog X.w) d b lo) ⟨nB (X:=X) hu,k,xs,I3.hrm hb,dd,?_⟩
 exact ⟨_,H3,I3.tok _,(rel.val k).getD (show RelV .cP .none from rfl),q3⟩
theorem JH{P:Program}{w:World}{σ:St}{H:Hp}{Q:VK}(h:td σ H (Qe P w ty σ Q)):Qf P w td ty σ H Q:=h
end
section
variable {X:Cx}{K:ay}{σ:St}{H:Hp}{Q:VK}{t:TA}
def qS(ta:TA):TE:=λ σ H Q=>ta σ H λ vs H1=>∃ j:Int,vs=[.int j] /\ 0 <= j /\ j <= 1000000 /\ ∀ p,H1 p=none->Q (.ref p) (upd H1 p (.lst (qo 0 j.toNat)))
theorem qw{b:Expr}{p1 p2 p3 p4:Pos}(GN:Gl X "list")(hm1:X.mg "list" = none)(Sf:Gl X "range")(hm2:X.mg "range" = none)(ha:PA X [b] ta)(hc:X.calm=true:=by rfl)
  (hs2:starEach [b] X.env=[(false,eval b X.env)]:=by rfl)
  (Xm:starEach [Expr.Call (.Name "range" p2) [b] [] p3] X.env=[(false,eval (Expr.Call (.Name "range" p2) [b] [] p3) X.env)]:=by rfl):
  PE X (.Call (.Name "list" p1) [.Call (.Name "range" p2) [b] [] p3] [] p4) (qS ta):=by
 intro pins s σ H Q I h
 refine wpAny_Call_Name_kw (gu I GN hm1 BT.wY ?_)
 refine iJ ?_ Xm rfl
 rw [Xm]
 show wpAny _ _ (spliced [(false,eval (Expr.Call (.Name "range" p2) [b] [] p3) X.env)]) _ _ s
 refine nU ?_
 refine Call_ (gu I Sf hm2 boot_range (iJ (cA (ha p3 pins s σ H _ I h) λ us s1 ⟨vs,H1,I1,r1,q1⟩=>?_) hs2 rfl))
 obtain ⟨j,e,q1,q2,q⟩:=q1
 subst e
 cases r1 with
 | cons r rr =>
  cases rr
  obtain ⟨t',rfl⟩:=r
  refine call_range_1 (Calls.spliced_nil ?_)
  have hA:X.A.in1.in1.handled=none:=I1.ok.hd hc
  refine call_list_range (n:=j.toNat) hA (IsRange.new ..) (small_one (by omega) (by omega) (by omega) (by omega)) (by rw [rangeSize_one]; split <;> omega) (br (show j.toNat <= 1000000 by omega) (by decide)) λ h' tk acc' c' hk hS hacc=>?_
  have hk':∀ b o,s1.heap.get? b=some o->h'.get? b=some o:=λ b o e=>hk b o (bS _ e)
  refine ⟨.ref _,_,I1.laid (t':=tk) hk' (by rw [cU]; exact gT _) (o:=.lst (qo 0 j.toNat)) ⟨by rw [Dy]; exact br (show j.toNat <= 1000000 by omega) (by decide),acc'.toList,c',AU hacc,?_⟩,rfl,q _ (I1.hok.fresh (by rw [cU]; exact gT _))⟩
  rw [hS]
theorem uP(h:t σ H λ vs H1=>∃ j:Int,vs=[.int j] /\ 0 <= j /\ j <= 1000000 /\ ∀ p,H1 p=none->Q (.ref p) (upd H1 p (.lst (qo 0 j.toNat)))):qS t σ H Q:=h
end
end L2
set_option compiler.extract_closed false
local macro_rules | `(tactic| walk_at "look") => `(tactic| first | assumption | exact L2.eT.self (by assumption) | exact L2.eT.keep (by assumption) (by walk_at "look") | exact L2.kh.self (by assumption) | exact L2.kh.keep (by assumption) (by walk_at "neq") (by walk_at "look") | exact (by assumption : L2.aG _ _) _ _ (by walk_at "look"))
local macro_rules | `(tactic| walk_at "neq") => `(tactic| first | assumption | exact aZ (by assumption) | exact L2.eT.ne (by assumption) (by walk_at "look") | exact aZ (L2.eT.ne (by assumption) (by walk_at "look")) | exact L2.qA (by walk_at "look") (by walk_at "look") (by intro z; cases z))
local macro_rules | `(tactic| walk_at "sq") => `(tactic| first | assumption | exact L2.fN.sq (by assumption) | exact L2.bI.of (by walk_at "look") | exact L2.gm.of (by walk_at "look") | exact L2.aG.seq (by assumption) (by walk_at "sq") | exact L2.aG.seq (L2.eT.same (by assumption)) (by walk_at "sq"))
local macro_rules | `(tactic| walk_at "same") => `(tactic| first | exact L2.aG.refl _ | assumption | (refine L2.aG.trans ?_ (L2.eT.same (by assumption)); walk_at "same") | (refine L2.aG.trans ?_ (by assumption); walk_at "same") | (refine L2.kh.same (by assumption) ?_ ?_ <;> first | walk_at "same" | walk_at "free"))
local macro_rules | `(tactic| walk_at "free") => `(tactic| first | assumption | exact L2.eT.none (by assumption) (by walk_at "free") | exact L2.aG.free (by assumption) (by walk_at "free") | exact (by assumption : L2.eT _ _ _ _).1 | exact L2.aG.free (by walk_at "same") (by assumption : L2.eT _ _ _ _).1)
local macro_rules | `(tactic| walk_at "cond") => `(tactic| first | omega | decide | exact ⟨by omega, by omega⟩ | exact av ⟨by omega, by omega⟩ | exact cC ⟨by omega, by omega⟩ | exact ⟨by omega, by omega, by decide⟩)
local macro_rules | `(tactic| walk_at "len") => `(tactic| first | omega | (simp only [aq, aN, dI, List.length_nil, L2.tV] at *; omega) | exact Nat.le_of_ble_eq_true rfl)
local macro_rules | `(tactic| walk_at "fld") => `(tactic| first | exact L2.Sl | exact L2.Sm | exact L2.Sn | exact L2.So | exact L2.Sq | exact L2.Ss | exact L2.Su | exact L2.Sv | exact L2.Sw | exact L2.Sx | exact L2.Sy | exact L2.Sz)
local macro_rules | `(tactic| walk_at "flp") => `(tactic| first | exact L2.SA | exact L2.SD | exact L2.SE | exact L2.Qg | exact L2.Qh | exact L2.Qi | exact L2.Qj | exact L2.SH | exact L2.SJ | exact L2.SK | exact L2.SM | exact L2.SO | exact L2.SQ | exact L2.SR | exact L2.SS | exact L2.Qk | exact L2.Ql | exact L2.Qm | exact L2.Qn | exact L2.Qo | exact L2.Qp | exact L2.Qq | exact L2.Qs)
local macro_rules | `(tactic| walk_at "fln") => `(tactic| first | exact L2.SV | exact L2.SW | exact L2.SX | exact L2.SY | exact L2.S0 | exact L2.S1 | exact L2.S2 | exact L2.S3 | exact L2.S4 | exact L2.S5 | exact L2.S6 | exact L2.S7 | exact Nat.zero_lt_succ _)
local macro_rules | `(tactic| walk_at "flm") => `(tactic| first | exact L2.Va | exact L2.Vb | exact L2.Vc | exact L2.Vd | exact L2.Ve | exact L2.Vf | exact L2.Vg | exact L2.Vh | exact L2.Vi)
set_option hygiene false in
local macro_rules | `(tactic| walk_at "nx") => `(tactic| first | ((fail_if_success clear uQ); intro Vj uQ) | ((fail_if_success clear Mw); intro Y0 Mw) | ((fail_if_success clear Mx); intro Y3 Mx) | ((fail_if_success clear My); intro Y4 My) | intro Y5 Qt)
set_option hygiene false in
local macro_rules | `(tactic| walk_at "ni") => `(tactic| (try clear uR qx Qu Qv); intro Qu Qv uR qx)
set_option hygiene false in
local macro_rules | `(tactic| walk_at "nl") => `(tactic| first | ((fail_if_success clear EC); intro no0 Y6 Y7 EC Vk Vl) | ((fail_if_success clear Qw); intro no1 Y8 Y9 Qw Vm Vn) | intro no2 Za Zb Vo Vp Vq)
set_option hygiene false in
local macro_rules | `(tactic| walk_at "sq1") => `(tactic| first | ((with_reducible refine L2.LV ?_); walk_at "nx") | ((with_reducible refine L2.xw (bk := Za) (ct := Zb) ?_); walk_at "nx") | ((with_reducible refine L2.xw (bk := Y8) (ct := Y9) ?_); walk_at "nx") | ((with_reducible refine L2.xw (bk := Y6) (ct := Y7) ?_); walk_at "nx") | ((with_reducible refine L2.LW ?_); walk_at "nl"; walk_at "nx"))
set_option hygiene false in
local macro_rules | `(tactic| walk_at "nxd") => `(tactic| first | ((with_reducible refine uR _ ?_); try clear uR qx Qu Qv) | ((with_reducible refine qx _ ?_); try clear uR qx Qu Qv) | ((with_reducible refine uQ _ _ ?_); try clear uQ Vj) | ((with_reducible refine Mw _ _ ?_); try clear Mw Y0) | ((with_reducible refine Mx _ _ ?_); try clear Mx Y3) | ((with_reducible refine My _ _ ?_); try clear My Y4) | ((with_reducible refine Qt _ _ ?_); try clear Qt Y5) | with_reducible refine EC _ _ ?_ | with_reducible refine Vl _ _ ?_ | with_reducible refine Vk _ _ ?_ | with_reducible refine Qw _ _ ?_ | with_reducible refine Vn _ _ ?_ | with_reducible refine Vm _ _ ?_ | with_reducible refine Vo _ _ ?_ | with_reducible refine Vq _ _ ?_ | with_reducible refine Vp _ _ ?_)
local macro_rules | `(tactic| walk_at "go1") => `(tactic| first
  | ((with_reducible refine L2.LU ?_); walk_at "sq1") | with_reducible (first | apply L2.OR | apply L2.Um | apply L2.Yi)
  | ((with_reducible refine L2.Jp ?_); walk_at "ni") | with_reducible (first | apply L2.K5 | apply L2.Yk | apply L2.OI | apply L2.Li | apply L2.Lj | apply L2.Lk | apply L2.Ll | apply L2.Lm | apply L2.Ln | apply L2.Lo | apply L2.Lp | apply L2.Lq | apply L2.Lr | apply L2.Gs | apply L2.Gu | apply L2.Uw | apply L2.Ux | apply L2.Uy | apply L2.O8 | apply L2.Uz | apply L2.UA | apply L2.UB | apply L2.UC | apply L2.UD | apply L2.UE | apply L2.O9 | apply L2.Pa | apply L2.Pb | apply L2.Ur)
  | ((with_reducible refine L2.Yl ?hc ?_); (case hc => walk_at "cond")) | with_reducible (first | apply L2.ON | apply L2.OO | apply L2.OP)
  | with_reducible exact ⟨rfl, rfl⟩ | with_reducible exact ⟨rfl, L2.aG.refl _⟩ | (with_reducible refine L2.Lg ?_ ?_) | ((with_reducible refine L2.Lh ?_ ?_); rotate_left; intro _ _; rotate_left)
  | walk_at "nxd"
  | with_reducible (first | apply L2.OH | apply L2.K3 | apply L2.K4 | apply L2.Uo | apply L2.Yj | apply L2.OJ | apply L2.Uq | apply L2.OL | apply L2.OM | apply L2.s_call | apply L2.OQ | apply L2.K6 | apply L2.Us | apply L2.OW | apply L2.OX)
  | ((with_reducible refine L2.K9 ?hz ?_); (case hz => exact Nat.le_of_ble_eq_true rfl); intro _ _ _) | ((with_reducible refine L2.La ?hz ?_); (case hz => exact Nat.le_of_ble_eq_true rfl); intro _ _ _)
  | ((with_reducible refine L2.fj (xs := ?xs) (v := ?v) ?hS ?hv ?_); (case hS => walk_at "sq"); (case hv => rfl)) | ((with_reducible refine L2.C6 (xs := ?xs) (v := ?v) ?hS ?hv ?_); (case hS => walk_at "sq"); (case hv => first | rfl | exact L2.Du _ _)) | ((with_reducible refine L2.Ut (xs := ?xs) ?hS ?h1 ?h2 ?_); (case hS => first | exact av (by walk_at "sq") | exact cC (by walk_at "sq")); (case h1 => rfl); (case h2 => rfl)) | ((with_reducible refine L2.OY (xs := ?xs) ?hS ?h1 ?h2 ?_); (case hS => first | exact av (by walk_at "sq") | exact cC (by walk_at "sq")); (case h1 => rfl); (case h2 => rfl))
  | with_reducible (first | apply L2.O6 | apply L2.C9)
  | ((with_reducible refine L2.O5 ?ha ?hb ?_); (case ha => omega); (case hb => omega)) | with_reducible (first | apply L2.Lb | apply L2.Gp)
  | ((with_reducible refine L2.Gr (xs := ?xs) ?hS ?_); (case hS => walk_at "sq")) | ((with_reducible refine L2.Lf (xs := ?xs) ?hS ?_); (case hS => walk_at "sq"))
  | ((with_reducible refine L2.Ld (xs := ?xs) ?hS ?hn ?_); (case hS => walk_at "sq"); (case hn => rfl)) | with_reducible (first | apply L2.Gq | apply L2.Le | apply L2.Uv)
  | ((with_reducible refine L2.O2 (ys := ?ys) ?hS ?_); (case hS => first | exact av (by walk_at "sq") | exact cC (by walk_at "sq"))) | ((with_reducible refine L2.C8 (ys := ?ys) ?hS ?_); (case hS => first | exact av (by walk_at "sq") | exact cC (by walk_at "sq")); intro _ _ _) | ((with_reducible refine L2.O7 (xs := ?xs) ?hS ?_); (case hS => walk_at "sq")) | ((with_reducible refine L2.C7 (xs := ?xs) ?hl ?hz ?_); (case hl => walk_at "look"); (case hz => walk_at "len"); intro _ _)
  | with_reducible (first | apply L2.Lz | apply L2.LA)
  | ((with_reducible refine L2.Pf (xs := ?xs) (zs := ?zs) ?ha ?hb ?hz ?_); (case ha => walk_at "look"); (case hb => walk_at "look"); (case hz => walk_at "len"); intro _ _ _)
  | ((with_reducible refine L2.Di (xs := ?xs) (zs := ?zs) ?ha ?hb ?hz ?_); (case ha => walk_at "look"); (case hb => walk_at "look"); (case hz => walk_at "len"); intro _ _)
  | with_reducible refine L2.Pj ?_ | ((with_reducible refine L2.LB (xs := ?xs) ?hS ?_); (case hS => walk_at "sq")) | with_reducible refine L2.UM ?_ | ((with_reducible refine L2.Pk (xs := ?xs) ?hS ?_); (case hS => walk_at "sq"); intro _ _ _) | with_reducible (first | apply L2.LD | apply L2.Pn | apply L2.LF)
  | ((with_reducible refine L2.LC (v := ?v) ?e ?_); (case e => exact rfl))
  | with_reducible (first | apply L2.Lx | apply L2.Gz | apply L2.Dh | apply L2.Uu | apply L2.OZ | apply L2.LO | apply L2.Qx)
  | ((with_reducible refine L2.Vr (xs := ?xs) ?hS ?_); (case hS => walk_at "sq")) | ((with_reducible refine L2.s_split ?hy ?hz ?_); (case hy => decide); (case hz => walk_at "len"); intro _ _ _) | with_reducible (first | apply L2.G6 | apply L2.G7 | apply L2.Ef | apply L2.Hj | apply L2.Mm | apply L2.JB)
  | ((with_reducible refine L2.G5 ?_); intro _ _ _ _) | ((with_reducible refine L2.P1 (ep := ?ep) (kvs := ?kvs) ?hd ?_); (case hd => walk_at "look")) | ((with_reducible refine L2.Mk (ep := ?ep) (kvs := ?kvs) ?hd ?_); (case hd => walk_at "look")) | ((with_reducible refine L2.G9 (ep := ?ep) (kvs := ?kvs) ?hd ?_); (case hd => walk_at "look"); intro _ _ _)
  | with_reducible refine L2.LP ?_ | ((with_reducible refine L2.PB (kvs := ?kvs) ?hd ?hz ?_); (case hd => walk_at "look"); (case hz => walk_at "len"); intro _ _)
  | ((with_reducible refine L2.GW ?_); intro _ _ _) | ((with_reducible refine L2.Ma (kvs := ?kvs) ?hd ?_); (case hd => walk_at "look"))
  | ((with_reducible refine L2.LQ ?_); intro _ _ _) | ((with_reducible refine L2.zg (xs := ?xs) (k := ?k) (y := ?y) ?hl ?h0 ?hk ?hy ?hz ?_); (case hl => walk_at "look"); (case h0 => decide); (case hk => rfl); (case hy => rfl); (case hz => walk_at "len"); intro _ _)
  | with_reducible refine L2.GG ?_ | ((with_reducible refine L2.Py (v := ?v) ?hv ?_); (case hv => rfl)) | ((with_reducible refine L2.Pu (xs := ?xs) ?hS ?hw ?_); (case hS => walk_at "sq"); (case hw => first | exact (λ h => absurd (show (1 : Nat) = 0 from h.1) (by decide)) | (intro h; simp only [L2.HT.e8] at h; omega)); intro _ _ _)
  | with_reducible (first | apply L2.GD | apply L2.LL | apply L2.GC)
  | ((with_reducible refine L2.Pw (xs := ?xs) ?hS ?_); (case hS => walk_at "sq"))
  | ((with_reducible refine L2.zd (t1 := true) (t2 := true) (xs := ?xs) (ys := ?ys) ?h1 ?h2 ?_); (case h1 => exact (show L2.gm _ _ _ _ from (by walk_at "sq"))); (case h2 => exact (show L2.gm _ _ _ _ from (by walk_at "sq"))))
  | ((with_reducible refine L2.zd (t1 := true) (t2 := false) (xs := ?xs) (ys := ?ys) ?h1 ?h2 ?_); (case h1 => exact (show L2.gm _ _ _ _ from (by walk_at "sq"))); (case h2 => exact (show L2.bI _ _ _ _ from (by walk_at "sq"))))
  | ((with_reducible refine L2.zd (t1 := false) (t2 := true) (xs := ?xs) (ys := ?ys) ?h1 ?h2 ?_); (case h1 => exact (show L2.bI _ _ _ _ from (by walk_at "sq"))); (case h2 => exact (show L2.gm _ _ _ _ from (by walk_at "sq"))))
  | ((with_reducible refine L2.zd (t1 := false) (t2 := false) (xs := ?xs) (ys := ?ys) ?h1 ?h2 ?_); (case h1 => exact (show L2.bI _ _ _ _ from (by walk_at "sq"))); (case h2 => exact (show L2.bI _ _ _ _ from (by walk_at "sq"))))
  | with_reducible (first | apply L2.OA | apply L2.Oz | apply L2.OS | apply L2.OT)
  | ((with_reducible refine L2.K7 ?_ ?_) <;> intro _)
  | ((with_reducible refine L2.K8 ?hp ?_); (case hp => first | assumption | decide | omega)) | ((with_reducible refine L2.C5 ?_ ?_) <;> intro _)
  | ((with_reducible refine L2.xh ?hb ?_); (case hb => rfl)) | ((with_reducible refine L2.xj ?hb ?_); (case hb => rfl)) | fail)
local macro_rules | `(tactic| walk_at "go") => `(tactic| repeat' walk_at "go1")
local macro_rules | `(tactic| walk_at "goq") => `(tactic| repeat' (first | with_reducible refine L2.Vs ?_ | with_reducible refine L2.S8 ?_ | with_reducible refine L2.S9 ?_ | walk_at "go1"))
local macro_rules | `(tactic| walk_at "start") => `(tactic| try dsimp only [L2.rS, L2.Cx.Az, L2.Cx.lV])
namespace TG
open PySem L2 PySem.Spec PyProof.Rows
variable {H H':Hp}{n b s x n0:Int}{r:Row}{K:ay}{v:V}{vs:List V}{rs:List Row}{i j p k m:Nat}{ps:List (Int × Int)}{bs:List Int}{o:HO}{t:HM.dw}{f a:Addr}{φ:Heap->Prop}{kvs:cZ}{ks way:List HM.aR}{L:HM.aR->List HM.aR}{F:List (HM.aR × Int)}{us:List Value}
set_option maxHeartbeats 4000000
def top(i:Nat):Stmt:=PySem.Challenge.pw_turnguard_k55_long_ways.main.body.getD i (.Pass ⟨0,0,0,0⟩)
abbrev qT:Stmt:=top 5
abbrev kQ:Stmt:=top 6
abbrev zN:Stmt:=top 7
abbrev zO:Stmt:=top 8
abbrev zP:Stmt:=top 9
abbrev ED:Stmt:=top 10
abbrev mT:Stmt:=top 11
abbrev qU:Stmt:=top 12
abbrev pq:Stmt:=top 16
abbrev qV:Stmt:=top 17
abbrev iU:Stmt:=top 18
abbrev qW:Stmt:=top 19
abbrev uS:Stmt:=top 20
abbrev qX:Stmt:=top 21
abbrev zQ:Stmt:=top 22
abbrev uT:Stmt:=top 23
abbrev zR:Stmt:=top 24
abbrev qY:Stmt:=top 25
abbrev pA:Stmt:=top 26
abbrev qZ:Stmt:=top 28
abbrev zS:Stmt:=top 29
abbrev zT:Stmt:=top 30
abbrev EE:Stmt:=top 31
abbrev JI:Stmt:=top 32
theorem yf:aY ["row"] ["row"] (aF qT):=by walk_at "sc"
theorem qy:aY ["row", "part"] ["row", "part"] (aF kQ):=by walk_at "sc"
theorem uU:aY ["row", "boxes"] ["row"] (aF zN):=by walk_at "sc"
theorem EF:aY ["row"] ["row"] (aF zO):=by walk_at "sc"
theorem pB:aY ["row", "boxes", "found", "side"] ["row", "boxes"] (aF zP):=by walk_at "sc"
theorem gc:aY ["code", "reading", "giving", "ahead", "found", "spot", "coming", "seen", "place"] ["code"] (aF ED):=by walk_at "sc"
theorem gf:aY ["lists", "found", "some", "thing"] ["lists"] (aF mT):=by walk_at "sc"
theorem gB:aY ["code", "found", "place", "row", "way"] ["code"] (aF qU):=by walk_at "sc"
theorem gJ:aY ["row", "things", "lively", "taken", "given", "onward"] ["row", "things", "lively"] (aF pq):=by walk_at "sc"
theorem j5:aY ["onward", "things", "lively", "found", "way"] ["onward", "things", "lively"] (aF qV):=by walk_at "sc"
theorem ir:aY ["row", "thing", "taken", "given", "found"] ["row", "thing", "taken", "given"] (aF iU):=by walk_at "sc"
theorem di:aY ["code", "lively", "found", "place", "row", "things", "thing", "later"] ["code"] (aF qW):=by walk_at "sc"
theorem Br:aY ["code"] ["code"] (aF uS):=by walk_at "sc"
theorem pC:aY ["later", "found"] ["later"] (aF qX):=by walk_at "sc"
theorem gC:aY ["later", "earlier", "waiting", "ready", "found", "harm", "other"] ["later"] (aF zQ):=by walk_at "sc"
theorem jC:aY ["later", "found", "harm", "other"] ["later"] (aF uT):=by walk_at "sc"
theorem uV:aY ["code", "found"] ["code"] (aF zR):=by walk_at "sc"
theorem j6:aY ["code", "later", "found"] ["code"] (aF qY):=by walk_at "sc"
theorem iu:aY ["later", "found", "most", "coming", "way", "harm"] ["later", "found", "most"] (aF pA):=by walk_at "sc"
theorem yg:aY ["_law_script", "_law_k"] ["_law_script", "_law_k"] (aF qZ):=by walk_at "sc"
theorem uW:aY ["_law_cell", "_law_k", "_law_number"] ["_law_cell", "_law_k"] (aF zS):=by walk_at "sc"
theorem kR:aY ["_law_script", "_law_left", "_law_found", "_law_k"] ["_law_script"] (aF zT):=by walk_at "sc"
theorem sL:aY ["_law_many", "_law_boxes_here", "_law_number", "_law_code_here", "_law_k"] ["_law_many", "_law_boxes_here", "_law_number"] (aF EE):=by walk_at "sc"
theorem eU:aY ["_law_script", "_law_cell", "_law_many", "_law_boxes_here", "_law_code_here", "_law_rounds", "_law_handed", "_law_table", "_law_side", "_law_way", "_law_gone", "_law_place", "_law_thing"] ["_law_script"] (aF JI):=by walk_at "sc"
abbrev bz:Addr:=137
set_option genInjectivity false in
set_option genSizeOf false in
set_option genSizeOfSpec false in
structure zU (w:World) (K:ay) (mg:Str->Option Value) where
 nC:Addr
 zV:mg "PARTS" = some (.ref nC)
 kT:Addr
 uX:fN K kT [.str "side", .str "box", .str "value", .str "place"]
 kU:Addr
 uY:fN K kU [.str "side", .str "box", .str "box", .str "place"]
 kW:Addr
 uZ:fN K kW [.str "side", .str "sign", .str "box", .str "box", .str "box", .str "place"]
 kX:Addr
 u0:fN K kX [.str "box", .str "place"]
 kY:Addr
 u5:fN K kY [.str "box", .str "place", .str "place"]
 kZ:Addr
 u7:fN K kZ [.str "box", .str "place"]
 k6:Addr
 u9:fN K k6 [.str "place"]
 k7:Addr
 vc:fN K k7 [.str "box"]
 zW:tY w K nC [(.inr "num", .ref kT),(.inr "copy", .ref kU),(.inr "op", .ref kW),(.inr "out", .ref kX),(.inr "fork", .ref kY),(.inr "look", .ref kZ),(.inr "mark", .ref k6),(.inr "back", .ref k7)]
set_option genInjectivity false in
set_option genSizeOf false in
set_option genSizeOfSpec false in
structure Txt (w:World) (K:ay) (mg:Str->Option Value) where
 lg:DD K mg "ways_of" qT ["row"]
 fH:DD K mg "numbers_of" kQ ["row", "part"]
 reads:DD K mg "reads" zN ["row"]
 gives:DD K mg "gives" zO ["row"]
 vd:DD K mg "spots" zP ["row", "boxes"]
 live:DD K mg "live" ED ["code"]
 jD:DD K mg "each_once" mT ["lists"]
 leading:DD K mg "leading" qU ["code"]
 lq:DD K mg "lasts_by" pq ["row", "things", "lively"]
 nD:DD K mg "at_ways" qV ["onward", "things", "lively"]
 fL:DD K mg "things_behind" iU ["row", "thing", "taken", "given"]
 lu:DD K mg "lasting" qW ["code"]
 pF:DD K mg "delays" uS ["code"]
 ly:DD K mg "lengths" qX ["later"]
 ended:DD K mg "ended" zQ ["later"]
 turned:DD K mg "turned" uT ["later"]
 delay:DD K mg "delay" zR ["code"]
 longest:DD K mg "longest" qY ["code"]
 mF:DL K mg "way_of" pA ["later", "found", "most"] bz
 jE:DD K mg "_law_cell_at" qZ ["_law_script", "_law_k"]
 mixed:DD K mg "_law_mixed" zS ["_law_cell", "_law_k"]
 zX:DD K mg "_law_boxes" zT ["_law_script"]
 code:DD K mg "_law_code" EE ["_law_many", "_law_boxes_here", "_law_number"]
 law:DD K mg "law" JI ["_law_script"]
 Xn:mg "all" = none
 Vt:mg "bool" = none
 yh:mg "dict" = none
 jm:mg "enumerate" = none
 Xo:mg "int" = none
 sM:mg "isinstance" = none
 fZ:mg "len" = none
 yi:mg "list" = none
 EG:mg "max" = none
 Xp:mg "min" = none
 lz:mg "range" = none
 Mz:mg "reversed" = none
 JJ:mg "set" = none
 pG:mg "sorted" = none
 Xq:mg "str" = none
 Tc:mg "tuple" = none
 JK:mg "zip" = none
 Vu:CI mg "BOTH" 2
 lA:CT K mg "DEEDS" [.str "num", .str "copy", .str "op"]
 gZ:CT K mg "ENDS_OF_MARKS" [.str "mark", .str "out", .str "back"]
 g7:CT K mg "ENDS_OF_SPOTS" [.str "look", .str "out", .str "back"]
 eV:zU w K mg
 EH:CT K mg "SIDES" [.int 0,.int 1]
def fP(H H':Hp):Prop:=∀ b xs,H b=some (.tup xs)->H' b=some (.tup xs)
theorem sT(e:aG H H'):fP H H':=λ b xs h=>e b _ h
theorem fP.refl(H:Hp):fP H H:=λ _ _ h=>h
theorem fP.trans{H1 H2:Hp}(a:fP H H1)(b:fP H1 H2):fP H H2:=λ c o h=>b c o (a c o h)
theorem cY{n:Nat}(h:n < 100000):n < sizeLine:=bN h (by decide)
theorem MA{α:Type}{xs:List α}{i:Int}(h0:0 <= i)(h1:i < xs.length):∃ v,rW xs i=some v /\ v∈xs:=by
 have e:i=((i.toNat:Nat):Int):=by omega
 have h2:i.toNat < xs.length:=by omega
 refine ⟨xs[i.toNat],?_,fS h2⟩
 have q:rW xs ((i.toNat:Nat):Int)=some xs[i.toNat]:=fK (by simp [h2])
 rw [<- e] at q
 exact q
theorem Hv{ns:List Int}{i:Int}(h0:0 <= i)(h1:i < ns.length):∃ v,rW (ns.map V.int) i=some (.int v):=by
 obtain ⟨v,e,m⟩:=MA (xs:=ns.map V.int) h0 (by simpa using h1)
 obtain ⟨n,_,rfl⟩:=aA.mp m
 exact ⟨n,e⟩
theorem iw{a:Int}(h:0 < b):0 <= a % b /\ a % b < b:=⟨Int.emod_nonneg _ (by omega),Int.emod_lt_of_pos _ h⟩
def Qy(K:ay):Sp:=λ vs H Q _=>∃ (a:Addr) (ns:List Int),vs=[.ref a] /\ bI K H a (ns.map V.int) /\ ns.length <= 63 /\ ∀ H',Q (.bl true) H'
inductive Row where
 | num (d k v q:Int) | copy (d k i q:Int) | op (d:Int) (s:Str) (k i j q:Int) | out (i q:Int) | fork (i q p:Int) | look (i q:Int) | mark (q:Int) | back (i:Int)
def Row.key:Row->Str
 | .num .. => "num" | .copy .. => "copy" | .op .. => "op" | .out .. => "out" | .fork .. => "fork" | .look .. => "look" | .mark .. => "mark" | .back .. => "back"
def Row.parts:Row->List Str
 | .num ..=>["side", "box", "value", "place"] | .copy ..=>["side", "box", "box", "place"] | .op ..=>["side", "sign", "box", "box", "box", "place"] | .out ..=>["box", "place"]
 | .fork ..=>["box", "place", "place"] | .look ..=>["box", "place"] | .mark ..=>["place"] | .back ..=>["box"]
def Row.rest:Row->List V
 | .num d k v q=>[.int d,.int k,.int v,.int q] | .copy d k i q=>[.int d,.int k,.int i,.int q] | .op d s k i j q=>[.int d,.str s,.int k,.int i,.int j,.int q]
 | .out i q=>[.int i,.int q] | .fork i q p=>[.int i,.int q,.int p] | .look i q=>[.int i,.int q] | .mark q=>[.int q] | .back i=>[.int i]
def Row.zY:Row->List PyData
 | .num d k v q=>[.int d,.int k,.int v,.int q] | .copy d k i q=>[.int d,.int k,.int i,.int q] | .op d s k i j q=>[.int d,.str s,.int k,.int i,.int j,.int q]
 | .out i q=>[.int i,.int q] | .fork i q p=>[.int i,.int q,.int p] | .look i q=>[.int i,.int q] | .mark q=>[.int q] | .back i=>[.int i]
def Row.vals(r:Row):List V:=.str r.key :: r.rest
def Row.data(r:Row):PyData:=.tuple (.str r.key :: r.zY)
def Row.ways:Row->List Int
 | .num _ _ _ q=>[q] | .copy _ _ _ q=>[q] | .op _ _ _ _ _ q=>[q] | .out _ q=>[q] | .fork _ q p=>[q,p] | .look _ q=>[q] | .mark q=>[q] | .back _=>[]
def signs:List Str:=["+", "-", "*", "/", "<", "=", "&", "|", "^"]
def yj(d:Int):Prop:=0 <= d /\ d < 3
def jP(d:Int):Prop:=0 <= d /\ d < 8
def isVal(d:Int):Prop:=0 <= d /\ d < 281474976710656
def ve(n d:Int):Prop:=0 <= d /\ d < n
def Row.ok(n:Int):Row->Prop
 | .num d k v q=>yj d /\ jP k /\ isVal v /\ ve n q
 | .copy d k i q=>yj d /\ jP k /\ jP i /\ ve n q
 | .op d s k i j q=>yj d /\ s∈signs /\ jP k /\ jP i /\ jP j /\ ve n q
 | .out i q=>jP i /\ ve n q
 | .fork i q p=>jP i /\ ve n q /\ ve n p
 | .look i q=>jP i /\ ve n q
 | .mark q=>ve n q
 | .back i=>jP i
theorem Row.jF(h:r.ok n):∀ q∈r.ways,0 <= q /\ q < n:=by
 cases r <;> simp only [Row.ok] at h <;> simp only [Row.ways,aB,eK,or_false] <;> intro q hq
 ·rw [hq]; exact h.2.2.2
 ·rw [hq]; exact h.2.2.2
 ·rw [hq]; exact h.2.2.2.2.2
 ·rw [hq]; exact h.2
 ·rcases hq with e | e <;> rw [e]
  ·exact h.2.1
  ·exact h.2.2
 ·rw [hq]; exact h.2
 ·rw [hq]; exact h
 ·exact hq.elim
theorem Row.pH(r:Row):r.ways.length <= 2:=by cases r <;> simp [Row.ways]
theorem Hw:∀ s∈(["num", "copy", "op", "out", "fork", "look", "mark", "back"]:List Str),PyData.strOk s=true:=by decide +kernel
theorem Row.MB(r:Row):PyData.strOk r.key=true:=by cases r <;> exact Hw _ (by simp [Row.key])
theorem EI:∀ s∈signs,PyData.strOk s=true:=by decide +kernel
theorem Row.Hx(h:r.ok n):Sh 1 r.data:=by
 refine Sh.tup λ d hd=>?_
 rcases aB.mp hd with e | hd
 ·rw [e]; exact .str r.MB
 ·cases r <;> simp only [Row.zY,aB,eK,or_false] at hd
  case op d s k i j q =>
   rcases hd with e | e | e | e | e | e <;> rw [e]
   ·exact .int _
   ·exact .str (EI _ h.2.1)
   all_goals exact .int _
  case mark q=>rw [hd]; exact .int _
  case back q=>rw [hd]; exact .int _
  case out q=>rcases hd with e | e <;> rw [e] <;> exact .int _
  case look q=>rcases hd with e | e <;> rw [e] <;> exact .int _
  case fork q=>rcases hd with e | e | e <;> rw [e] <;> exact .int _
  all_goals rcases hd with e | e | e | e <;> rw [e] <;> exact .int _
theorem Row.Hy(r:Row):kF K H r.vals (.str r.key :: r.zY):=by
 refine .cons (.str _) ?_
 cases r <;> simp only [Row.rest,Row.zY] <;> repeat (first | exact kF.nil | refine kF.cons (by first | exact .int _ | exact .str _) ?_)
def pI(H:Hp)(v:V)(r:Row):Prop:=∃ a,v=.ref a /\ H a=some (.tup r.vals)
abbrev Rows(H:Hp):List V->List Row->Prop:=Paired (pI H)
theorem pI.same(e:aG H H')(h:pI H v r):pI H' v r:=let ⟨a,e1,e2⟩:=h; ⟨a,e1,e _ _ e2⟩
theorem pI.lB(e:fP H H')(h:pI H v r):pI H' v r:=let ⟨a,e1,e2⟩:=h; ⟨a,e1,e _ _ e2⟩
theorem Rows.same(e:aG H H')(h:Rows H vs rs):Rows H' vs rs:=cg (λ _ _ q=>q.same e) h
theorem Rows.lB(e:fP H H')(h:Rows H vs rs):Rows H' vs rs:=cg (λ _ _ q=>q.lB e) h
theorem aX{α β:Type}{F:α->β->Prop}:∀ {xs:List α} {ys:List β},Paired F xs ys->∀ {i:Nat} {x:α},xs[i]? = some x->∃ y,ys[i]? = some y /\ F x y
 | _,_,.nil,i,x,h=>by simp at h
 | _,_,.cons a t,0,x,h=>by simp at h; subst h; exact ⟨_,rfl,a⟩
 | _,_,.cons a t,i + 1,x,h=>by
  obtain ⟨y,h1,h2⟩:=aX t (i:=i) (x:=x) (by simpa using h)
  exact ⟨y,by simpa using h1,h2⟩
theorem Rows.rd:∀ {vs:List V} {rs:List Row},Rows H vs rs->kF K H vs (rs.map Row.data)
 | _,_,.nil=>.nil
 | _,_,.cons h t=>by
  obtain ⟨a,rfl,e⟩:=h
  exact .cons (.tup (gm.of e) (Row.Hy _)) (Rows.rd t)
theorem Hz(h:∀ r∈rs,r.ok n):Sh 2 (.list (rs.map Row.data)):=Sh.list λ d hd=>by
 obtain ⟨r,hr,rfl⟩:=aA.mp hd
 exact Row.Hx (h r hr)
theorem rf{α:Type}{xs:List α}(hn:xs.Nodup){a:α}(hi:xs[i]? = some a)(hj:xs[j]? = some a):i=j:=by
 obtain ⟨h1,e1⟩:=e9 hi
 obtain ⟨h2,e2⟩:=e9 hj
 have q:=i9.mp hn
 rcases Nat.lt_trichotomy i j with h | h | h
 ·exact absurd (e1.trans e2.symm) (q i j h1 h2 h)
 ·exact h
 ·exact absurd (e2.trans e1.symm) (q j i h2 h1 h)
section
variable {P:Program}{w:World}{K:ay}{mg:Str->Option Value}{base:Heap}
def picks(part:Str)(xs:List Str)(ys:List V):List V:=((xs.zip ys).filter λ x=>decide (x.1=part)).map (·.2)
theorem yk{part x:Str}{y:V}{xs:List Str}{ys:List V}(hx:xs[i]? = some x)(hy:ys[i]? = some y):picks part (xs.take (i + 1)) (ys.take (i + 1))=picks part (xs.take i) (ys.take i)++if x=part then [y] else []:=by
 have h1:i < xs.length:=(e9 hx).1
 have h2:i < ys.length:=(e9 hy).1
 unfold picks
 rw [bW,bW,hx,hy,List.zip_append (by rw [bV,bV]; omega),iE,bM]
 congr 1
 by_cases e:x=part
 ·simp [e]
 ·simp [e]
theorem vf(r:Row):picks "place" r.parts r.rest=r.ways.map V.int:=by cases r <;> rfl
theorem HA(r:Row):r.rest.length=r.parts.length:=by cases r <;> rfl
theorem Bs(r:Row):r.rest.length <= 6:=by cases r <;> simp [Row.rest]
theorem Vv(x:V)(xs:List V):lZ (x :: xs) (some 1) none=xs:=by
 unfold lZ
 have e:HT.e8 (x :: xs).length 0 (some 1)=1:=by
  rw [show (some (1:Int))=some ((1:Nat):Int) from rfl,HT.Gd]
  simp
 rw [e,HT.CD]
 simp
theorem EJ(T:Txt w K mg)(r:Row):∃ p,ie [(.inr "num", .ref T.eV.kT),(.inr "copy", .ref T.eV.kU),(.inr "op", .ref T.eV.kW),(.inr "out", .ref T.eV.kX),(.inr "fork", .ref T.eV.kY),(.inr "look", .ref T.eV.kZ),(.inr "mark", .ref T.eV.k6),(.inr "back", .ref T.eV.k7)] (.inr r.key:Key)=some (V.ref p) /\ fN K p (r.parts.map V.str):=by
 cases r
 ·exact ⟨_,rfl,T.eV.uX⟩
 ·exact ⟨_,rfl,T.eV.uY⟩
 ·exact ⟨_,rfl,T.eV.uZ⟩
 ·exact ⟨_,rfl,T.eV.u0⟩
 ·exact ⟨_,rfl,T.eV.u5⟩
 ·exact ⟨_,rfl,T.eV.u7⟩
 ·exact ⟨_,rfl,T.eV.u9⟩
 ·exact ⟨_,rfl,T.eV.vc⟩
def Bt(K:ay):Sp:=λ vs H Q _=>∃ (a:Addr) (r:Row) (part:Str),vs=[.ref a,.str part] /\ H a=some (.tup r.vals) /\ ∀ p H',aG H H'->H p=none->H' p=some (.lst (picks part r.parts r.rest))->Q (.ref p) H'
theorem g8(T:Txt w K mg):cJ P w K mg base ji 1 T.fH.f T.fH.d ["row", "part"] (Bt K):=by
 refine T.fH.F.ok qy (λ vs H Q E h=>?_) (λ cdv A outer s H vs Q E hr h=>?_)
 ·obtain ⟨a,r,part,rfl,_⟩:=h
  rfl
 obtain ⟨a,r,part,rfl,ha,q⟩:=h
 refine ⟨_,(aC (bB (Dj (iK.of (xs:=["own", "number"]) (bY.caps (x := "own") (fr:=["part"]) (ix:=[1]) (nm:=["part"]) rfl rfl (by decide +kernel) rfl (by decide +kernel) rfl (by decide +kernel) ⟨rfl,trivial⟩ rfl (by decide +kernel) rfl ⟨⟨rfl,rfl,rfl⟩,trivial⟩) (by decide +kernel)) (Dm rfl T.JK (aa (Dt T.eV.zW (gH (v:=.ref T.eV.nC) rfl T.eV.zV rfl) (b8 fF (pv 0) az (λ _ _=>rfl)) (λ _ _=>rfl)) (aa (oK KR (pv 0) (rV az) rT) ai))) (λ _ _ _ _=>(zf (K:=K) rfl (n:=2) rfl (cS (bE (i:=0) (show (["own", "number", "part"]:List Str).Nodup from by decide +kernel) rfl (av rfl)) (cS (bE (i:=1) (show (["own", "number", "part"]:List Str).Nodup from by decide +kernel) rfl (av rfl)) jv)))) (λ _ _ _ _=>(l5 (aW oF (pv 0) (pv 2) (cI _)))) (λ _ _ _ _=>(pv 1))))),?_⟩
 obtain ⟨pp,hpp,cp⟩:=EJ T r
 show (_:TS) (Ends.mk _ _ _ _) [_,_] H
 walk_at "start"
 walk_at "go"
 refine Py hpp ?_
 walk_at "go"
 rename_i t H1 n1
 have et:lZ r.vals (some 1) none=r.rest:=Vv _ _
 rw [et] at n1 ⊢
 have hlen:=HA r
 have hsm:=Bs r
 refine LM (λ i zs τ H'=>aG H1 H' /\ zs=picks part (r.parts.take i) (r.rest.take i) /\ ∃ x y,τ=[x,y,some (.str part)]) ?_ ?_ ?_ ?_ ?_
 ·exact ⟨aG.refl _,by simp [picks],_,_,rfl⟩
 ·rintro i zs τ H' hi ⟨sm,rfl,x,y,rfl⟩
  refine ⟨fN.sq cp,gm.of (sm _ _ n1.self),?_⟩
  unfold picks
  rw [aq]
  refine br (iG _ _) ?_
  rw [List.length_zip,bV]
  omega
 ·rw [aq]; omega
 ·rintro i x y p zs τ H' H2 hx hy ⟨sm,rfl,x0,y0,rfl⟩ n2
  rw [aS] at hx
  obtain ⟨x',hx',rfl⟩:=fB.mp hx
  have e:=yk (part:=part) hx' hy
  walk_at "go"
  ·rename_i he
   rw [if_pos he] at e
   exact ⟨by walk_at "same", e.symm,_,_,rfl⟩
  ·rename_i he
   rw [if_neg he,eE] at e
   exact ⟨by walk_at "same", e.symm,_,_,rfl⟩
 ·rintro zs τ H' ⟨sm,rfl,x,y,rfl⟩ p H2 n2
  refine q p H2 (by walk_at "same") (by walk_at "free") ?_
  rw [n2.self,aq,hlen,Nat.min_self,cz,<- hlen,cz]
def MC(K:ay):Sp:=λ vs H Q _=>∃ (a:Addr) (r:Row),vs=[.ref a] /\ H a=some (.tup r.vals) /\ ∀ p H',aG H H'->H p=none->H' p=some (.lst (r.ways.map V.int))->Q (.ref p) H'
theorem pJ(T:Txt w K mg):cJ P w K mg base ji 2 T.lg.f T.lg.d ["row"] (MC K):=by
 refine T.lg.F.ok yf (λ vs H Q E h=>?_) (λ cdv A outer s H vs Q E hr h=>?_)
 ·obtain ⟨a,r,rfl,_⟩:=h
  rfl
 obtain ⟨a,r,rfl,ha,q⟩:=h
 refine ⟨_,(aC (bB (bO T.fH (g8 T) hr (aa (pv 0) (aa fU ai))))),?_⟩
 show (_:TS) (Ends.mk _ _ _ _) [_] H
 walk_at "start"
 walk_at "go"
 refine ⟨a,r, "place", rfl,ha,λ p H' sm hp e=>?_⟩
 rw [vf] at e
 exact q p H' sm hp e
end
def Row.pK:Row->List Int
 | .num _ k _ _=>[k] | .copy _ k i _=>[k,i] | .op _ _ k i j _=>[k,i,j] | .out i _=>[i] | .fork i _ _=>[i] | .look i _=>[i] | .mark _=>[] | .back i=>[i]
def Row.jK:Row->Bool
 | .num ..=>true | .copy ..=>true | .op ..=>true | _=>false
def Row.sd:Row->Int
 | .num d _ _ _=>d | .copy d _ _ _=>d | .op d _ _ _ _ _=>d | _=>2
theorem rg(r:Row):picks "box" r.parts r.rest=r.pK.map V.int:=by cases r <;> rfl
theorem jn(h:r.ok n):∀ b∈r.pK,0 <= b /\ b < 8:=by
 cases r <;> simp only [Row.ok] at h <;> simp only [Row.pK,aB,eK,or_false] <;> intro b hb
 ·rw [hb]; exact h.2.1
 ·rcases hb with e | e <;> rw [e]
  ·exact h.2.1
  ·exact h.2.2.1
 ·rcases hb with e | e | e <;> rw [e]
  ·exact h.2.2.1
  ·exact h.2.2.2.1
  ·exact h.2.2.2.2.1
 ·rw [hb]; exact h.1
 ·rw [hb]; exact h.1
 ·rw [hb]; exact h.1
 ·exact hb.elim
 ·rw [hb]; exact h
theorem HB(r:Row):r.pK.length <= 3:=by cases r <;> simp [Row.pK]
abbrev bf(H:Hp):List V->List (Int × Int)->Prop:=Paired λ v p=>∃ a,v=.ref a /\ H a=some (.tup [.int p.1,.int p.2])
theorem bf.same(e:aG H H')(h:bf H vs ps):bf H' vs ps:=cg (λ _ _ ⟨a,h1,h2⟩=>⟨a,h1,e _ _ h2⟩) h
theorem bf.lB(e:fP H H')(h:bf H vs ps):bf H' vs ps:=cg (λ _ _ ⟨a,h1,h2⟩=>⟨a,h1,e _ _ h2⟩) h
def eW(r:Row)(s:Int):Bool:=!r.jK || decide (r.sd=s) || decide (r.sd=2)
def iO(r:Row)(bs:List Int):List (Int × Int):=[0,1].flatMap λ s=>if eW r s then (SN.dF bs).map λ b=>(s,b) else []
theorem sN(r:Row):tF (.str r.key) [.str "num", .str "copy", .str "op"]=r.jK:=by
 have k:∀ x∈(["num", "copy", "op"]:List Str),tF (.str x) [.str "num", .str "copy", .str "op"]=true:=by decide +kernel
 have n:∀ x∈(["out", "fork", "look", "mark", "back"]:List Str),tF (.str x) [.str "num", .str "copy", .str "op"]=false:=by decide +kernel
 cases r <;> first | exact k _ (by simp [Row.key]) | exact n _ (by simp [Row.key])
theorem HC(h:r.jK=true):rW r.vals 1=some (.int r.sd):=by cases r <;> first | rfl | cases h
theorem HD(d s:Int):tF (.int d) [.int s,.int 2]=(decide (d=s) || decide (d=2)):=by
 simp only [tF,gP,List.any_nil,Bool.or_false,Gg]
 rw [show (s == d)=decide (d=s) from by rw [Bool.beq_comm]; rfl,show ((2:Int) == d)=decide (d=2) from by rw [Bool.beq_comm]; rfl]
theorem yl(r:Row)(bs:List Int)(h:([0,1]:List Int)[i]? = some s):(([0,1]:List Int).take (i + 1)).flatMap (λ s=>if eW r s then (SN.dF bs).map λ b=>(s,b) else [])=(([0,1]:List Int).take i).flatMap (λ s=>if eW r s then (SN.dF bs).map λ b=>(s,b) else [])++if eW r s then (SN.dF bs).map λ b=>(s,b) else []:=by
 rw [bW,h,List.flatMap_append]
 simp
theorem jG(ns:List Int):(SN.dF ns).length <= 8:=by
 unfold SN.dF
 rw [aq]
 exact br (iG ..) (by simp)
theorem gD{α β:Type}{F:α->β->Prop}:∀ {xs:List α} {ys:List β} {xs':List α} {ys':List β},Paired F xs ys->Paired F xs' ys'->Paired F (xs++xs') (ys++ys')
 | _,_,_,_,.nil,h=>h
 | _,_,_,_,.cons a t,h=>.cons a (gD t h)
section
variable {P:Program}{w:World}{K:ay}{mg:Str->Option Value}{base:Heap}
def zZ:Sp:=λ vs H Q _=>∃ (a b:Addr) (r:Row) (bs:List Int),vs=[.ref a,.ref b] /\ H a=some (.tup r.vals) /\ H b=some (.lst (bs.map V.int)) /\ (∀ n∈bs,0 <= n /\ n < 8) /\ bs.length <= 3 /\
 ∀ (l:Addr) (us:List V) (H':Hp),aG H H'->H l=none->H' l=some (.lst us)->bf H' us (iO r bs)->Q (.ref l) H'
theorem vg(T:Txt w K mg):cJ P w K mg base ji 1 T.vd.f T.vd.d ["row", "boxes"] zZ:=by
 refine T.vd.F.ok pB (λ vs H Q E h=>?_) (λ cdv A outer s H vs Q E hr h=>?_)
 ·obtain ⟨a,b,r,bs,rfl,_⟩:=h
  rfl
 obtain ⟨a,b,r,bs,rfl,ha,hb,Ck,EK,q⟩:=h
 refine ⟨_,(ao (aT (i:=2) pB.nd rfl (av rfl) (dZ ai))
 (ao (dM bX rfl (Kz (gH (v:=.ref T.EH.a) rfl T.EH.c rfl)) (bE (i:=3) pB.nd rfl (cC rfl))
 (aC (ia (PW.pt (tL (aW rY (b8 fF (pv 0) az (λ _ _=>rfl)) (gH (v:=.ref T.lA.a) rfl T.lA.c rfl) (by with_unfolding_all rfl)) (rP (aW ic (b8 fF (pv 0) az (λ _ _=>rfl)) (dY (aa (pv 3) (aa (gH (v:=.int 2) rfl T.Vu.c ⟨_,rfl⟩) ai))) (by with_unfolding_all rfl)))))
 (aC (cQ (fW cj m8 m9 jw (pv 2) (aa (f9 (bY.caps (x := "box") (fr:=["side"]) (ix:=[3]) (nm:=["side"]) rfl rfl (by decide +kernel) rfl (by decide +kernel) rfl (by decide +kernel) ⟨rfl,trivial⟩ rfl (by decide +kernel) rfl ⟨⟨rfl,rfl,rfl⟩,trivial⟩) (ck (bA (xD rfl) rfl T.pG BT.oV (aa (gn (A1 rfl) rfl T.JJ BT.C0 (aa (pv 1) ai)) ai))) (λ _ _ _ _=>gW) (λ _ _ _ _=>(dY (aa (pv 1) (aa (pv 0) ai))))) ai))))
 dj)))
 (aC (bB (pv 2))))),?_⟩
 show (_:TS) (Ends.mk _ _ _ _) [_,_,_,_] H
 have cd:=T.lA.q
 have cs:=T.EH.q
 walk_at "start"
 walk_at "go"
 rename_i fo H1 n1
 have Xr:=n1.1
 have Qz:=n1.self
 have s1:=n1.same
 clear n1
 refine f_tup (xs:=[.int 0,.int 1]) (λ i σ' H'=>∃ x us,σ'=[some (.ref a),some (.ref b),some (.ref fo),x] /\ aG H H' /\ H' fo=some (.lst us) /\ bf H' us ((([0,1]:List Int).take i).flatMap λ s=>if eW r s then (SN.dF bs).map λ b=>(s,b) else [])) ?_ ?_ ?_ ?_
 ·exact ⟨none,[],rfl,s1,Qz,.nil⟩
 ·rintro i σ' H' _ ⟨x,us,rfl,s',_⟩
  exact fN.sq cs
 ·rintro i x σ' H2 hx ⟨x0,us,rfl,s2,EL,jy⟩
  obtain ⟨s,hs,rfl⟩:∃ s,([0,1]:List Int)[i]? = some s /\ x=.int s:=by
   match i,hx with
   | 0,hx=>cases hx; exact ⟨0,rfl,rfl⟩
   | 1,hx=>cases hx; exact ⟨1,rfl,rfl⟩
  have step:=yl r bs hs
  have HE:us.length <= 16:=by
   have h1:=jy.length
   rw [h1]
   have h8:=jG bs
   match i,hs with
   | 0,_=>exact aL _
   | 1,_ =>
    show (([0]:List Int).flatMap _).length <= 16
    rw [List.flatMap_singleton]
    split
    ·rw [aq]; omega
    ·exact aL _
  clear Qz s1
  refine O8 ?_
  refine Jp ?_
  intro Qu Qv uR qx
  have hK:∀ H',aG H2 H'->H' fo=some (.lst us)->eW r s=true->Qu H':=λ H3 s3 EM QA=>by
   refine uR _ ?_
   clear uR qx
   rw [QA,if_pos rfl] at step
   have Td:=s3 _ _ (s2 _ _ hb)
   have Bu:=jy.same s3
   walk_at "go"
   refine L3 (bI.of Td) Ck (by omega) ?_
   intro p4 H4 n4
   walk_at "go"
   refine GR n4.self Ck ?_
   intro p5 H5 n5
   walk_at "go"
   refine gX (xs:=(SN.dF bs).map V.int) (λ j ys H'=>aG H5 H' /\ bf H' ys (((SN.dF bs).take j).map λ b=>(s,b))) ⟨aG.refl _,.nil⟩ ?_ ?_ ?_
   ·rintro j ys H' _ ⟨s',_⟩
    exact bI.of (s' _ _ n5.self)
   ·rintro j x ys H6 hx ⟨s6,hys⟩
    rw [aS] at hx
    obtain ⟨y,hy,rfl⟩:=fB.mp hx
    have hyl:=hys.length
    rw [aq,bV] at hyl
    have h8:=jG bs
    refine ⟨cY (by omega),?_⟩
    walk_at "go"
    rename_i t7 H7 n7
    refine ⟨s6.trans n7.same,?_⟩
    rw [bW,hy,bM]
    exact bQ (hys.same n7.same) ⟨t7,rfl,n7.self⟩
   rintro ys H6 ⟨s6,hys⟩ p7 H7 n7
   rw [aq,cz] at hys
   have hyl:=hys.length
   rw [aq] at hyl
   have h8:=jG bs
   have Vw:=n7.keep (s6 _ _ (n5.keep (n4.keep EM)))
   have Vx:=((n4.same.trans n5.same).trans s6).trans n7.same
   have Vy:=Bu.same Vx
   have MD:=hys.same n7.same
   have hp7:=n7.self
   have npf:fo ≠ p7:=aV (s6 _ _ (n5.keep (n4.keep EM))) n7.1
   have Zc:=(s2.trans s3).trans Vx
   clear n4 n5 s6 n7 hys Bu EM Td Vx
   walk_at "go"
   rename_i H8 p8
   have tt:fP H7 H8:=λ b xs e=>p8.keep (qA e Vw (by intro z; cases z)) e
   refine ⟨_,_,rfl,p8.same Zc Xr,p8.self,?_⟩
   rw [step]
   exact gD (Vy.lB tt) (MD.lB tt)
  clear uR
  have hN:∀ H',aG H2 H'->H' fo=some (.lst us)->eW r s=false->Qv H':=λ H3 s3 EM QA=>by
   refine qx _ ?_
   clear qx
   rw [QA] at step
   walk_at "go"
   refine ⟨_,_,rfl,s2.trans s3,EM,?_⟩
   rw [step]
   simpa using jy.same s3
  clear qx jy step
  have ha2:=s2 _ _ ha
  have hdi:=sN r
  walk_at "go"
  rw [hdi]
  cases qi:r.jK with
  | false =>
   simp only [Bool.not_false,if_true]
   exact hK H2 (aG.refl _) EL (by unfold eW; rw [qi]; rfl)
  | true =>
   simp only [dU,bu,if_false]
   walk_at "go"
   refine C6 (gm.of ha2) (HC qi) ?_
   walk_at "go"
   rename_i t4 H4 n4
   have Zd:tF (.int r.sd) [.int s,.int 2]=eW r s:=by rw [HD]; unfold eW; rw [qi]; rfl
   rw [Zd]
   cases Xs:eW r s with
   | true=>rw [if_pos rfl]; exact hK H4 n4.same (n4.keep EL) Xs
   | false=>rw [if_neg (by decide)]; exact hN H4 n4.same (n4.keep EL) Xs
 ·rintro σ' H2 ⟨x0,us,rfl,s2,EL,jy⟩
  walk_at "go"
  exact q fo us H2 s2 Xr EL jy
def Row.EN(r:Row):List Int:=if r.jK then r.pK.drop 1 else r.pK
def cB(r:Row):List (Int × Int):=iO r r.EN
def aU(r:Row):List (Int × Int):=if r.jK then iO r (r.pK.take 1) else []
theorem nE:∀ b∈r.EN,b∈r.pK:=λ b hb=>by
 unfold Row.EN at hb
 split at hb
 ·exact List.mem_of_mem_drop hb
 ·exact hb
theorem HF(r:Row):r.EN.length <= 3:=by
 have:=HB r
 unfold Row.EN
 split
 ·rw [List.length_drop]; omega
 ·exact this
def HG:Sp:=λ vs H Q _=>∃ (a:Addr) (r:Row) (n:Int),vs=[.ref a] /\ H a=some (.tup r.vals) /\ r.ok n /\ ∀ (l:Addr) (us:List V) (H':Hp),aG H H'->H l=none->H' l=some (.lst us)->bf H' us (cB r)->Q (.ref l) H'
theorem vh(T:Txt w K mg):cJ P w K mg base ji 2 T.reads.f T.reads.d ["row"] HG:=by
 refine T.reads.F.ok uU (λ vs H Q E h=>?_) (λ cdv A outer s H vs Q E hr h=>?_)
 ·obtain ⟨a,r,n,rfl,_⟩:=h
  rfl
 obtain ⟨a,r,n,rfl,ha,hok,q⟩:=h
 refine ⟨_,(ao (aT (i:=1) uU.nd rfl (av rfl) (bO T.fH (g8 T) hr (aa (pv 0) (aa fU ai))))
 (aC (bB (bO T.vd (vg T) hr (aa (pv 0) (aa (gw (aW ic (b8 fF (pv 0) az (λ _ _=>rfl)) (gH (v:=.ref T.lA.a) rfl T.lA.c rfl) (by with_unfolding_all rfl)) (oK yS (pv 1) (rV az) rT) (pv 1)) ai)))))),?_⟩
 show (_:TS) (Ends.mk _ _ _ _) [_,_] H
 have cd:=T.lA.q
 have hdi:=sN r
 walk_at "start"
 walk_at "go"
 refine ⟨a,r, "box", rfl,ha,λ p H1 s1 fp hp=>?_⟩
 rw [rg] at hp
 have ha1:=s1 _ _ ha
 have fin:∀ (c:Addr) (H2:Hp),aG H H2->H2 a=some (.tup r.vals)->H2 c=some (.lst (r.EN.map V.int))->zZ [.ref a,.ref c] H2 Q E0:=λ c H2 s2 ha2 hc=>⟨a,c,r,r.EN,rfl,ha2,hc,λ b hb=>jn hok b (nE b hb),HF r,λ l us H3 s3 fl hl jy=>q l us H3 (s2.trans s3) (s2.free fl) hl jy⟩
 walk_at "go"
 rw [hdi]
 cases qi:r.jK with
 | true =>
  rw [if_pos rfl]
  walk_at "go"
  rename_i c H2 n2
  have ec:lZ (r.pK.map V.int) (some 1) none=r.EN.map V.int:=by
   unfold Row.EN
   rw [qi,if_pos rfl]
   cases r <;> first | rfl | cases qi
  rw [ec] at n2
  exact fin c H2 (s1.trans n2.same) (n2.keep ha1) n2.self
 | false =>
  rw [if_neg (by decide)]
  walk_at "go"
  exact fin p H1 s1 ha1 (by unfold Row.EN; rw [qi]; exact hp)
def HH:Sp:=λ vs H Q _=>∃ (a:Addr) (r:Row) (n:Int),vs=[.ref a] /\ H a=some (.tup r.vals) /\ r.ok n /\ ∀ (l:Addr) (us:List V) (H':Hp),aG H H'->H l=none->H' l=some (.lst us)->bf H' us (aU r)->Q (.ref l) H'
theorem vm(T:Txt w K mg):cJ P w K mg base ji 2 T.gives.f T.gives.d ["row"] HH:=by
 refine T.gives.F.ok EF (λ vs H Q E h=>?_) (λ cdv A outer s H vs Q E hr h=>?_)
 ·obtain ⟨a,r,n,rfl,_⟩:=h
  rfl
 obtain ⟨a,r,n,rfl,ha,hok,q⟩:=h
 refine ⟨_,(aC (bB (gw (aW ic (b8 fF (pv 0) az (λ _ _=>rfl)) (gH (v:=.ref T.lA.a) rfl T.lA.c rfl) (by with_unfolding_all rfl)) (bO T.vd (vg T) hr (aa (pv 0) (aa (oK yS (bO T.fH (g8 T) hr (aa (pv 0) (aa fU ai))) rT (rV az)) ai))) (dZ ai)))),?_⟩
 show (_:TS) (Ends.mk _ _ _ _) [_] H
 have cd:=T.lA.q
 have hdi:=sN r
 walk_at "start"
 walk_at "go"
 rw [hdi]
 cases qi:r.jK with
 | true =>
  rw [if_pos rfl]
  walk_at "go"
  refine ⟨a,r, "box", rfl,ha,λ p H1 s1 fp hp=>?_⟩
  rw [rg] at hp
  have ha1:=s1 _ _ ha
  walk_at "go"
  rename_i c H2 n2
  have ec:lZ (r.pK.map V.int) none (some 1)=(r.pK.take 1).map V.int:=by cases r <;> rfl
  rw [ec] at n2
  refine ⟨a,c,r,r.pK.take 1,rfl,n2.keep ha1,n2.self,λ b hb=>jn hok b (List.mem_of_mem_take hb),by rw [bV]; omega,λ l us H3 s3 fl hl jy=>q l us H3 ((s1.trans n2.same).trans s3) ((s1.trans n2.same).free fl) hl ?_⟩
  unfold aU
  rw [qi]
  exact jy
 | false =>
  rw [if_neg (by decide)]
  walk_at "go"
  rename_i l H1 n1
  refine q l [] H1 n1.same n1.1 n1.self ?_
  unfold aU
  rw [qi]
  exact .nil
end
inductive bK (rs:List Row) (p:Int × Int):Nat->Prop
 | here {k:Nat} {r:Row} (h:rs[k]? = some r) (m:p∈cB r):bK rs p k
 | on {k q:Nat} {r:Row} (h:rs[k]? = some r) (m:p ∉ aU r) (w:((q:Nat):Int)∈r.ways) (l:bK rs p q):bK rs p k
theorem bK.lt{rs:List Row}{p:Int × Int}{k:Nat}(h:bK rs p k):k < rs.length:=by
 cases h with
 | here h _=>exact (e9 h).1
 | on h _ _ _=>exact (e9 h).1
theorem bK.read{p:Int × Int}(h:bK rs p k):∃ r∈rs,p∈cB r:=by
 induction h with
 | here h m=>exact ⟨_,fm h,m⟩
 | on _ _ _ _ ih=>exact ih
theorem jo{p:Int × Int}{S:Nat->Prop}(h1:∀ k r,rs[k]? = some r->p∈cB r->S k)(h2:∀ (k q:Nat) r,rs[k]? = some r->p ∉ aU r->((q:Nat):Int)∈r.ways->S q->S k):∀ k,bK rs p k->S k:=by
 intro k h
 induction h with
 | here h m=>exact h1 _ _ h m
 | on h m w _ ih=>exact h2 _ _ _ h m w ih
def isLive(rs:List Row)(k:Nat)(p:Int × Int):Bool:=@decide (bK rs p k) (Classical.propDecidable _)
theorem iP{p:Int × Int}:isLive rs k p=true ↔ bK rs p k:=by unfold isLive; exact @decide_eq_true_iff _ (Classical.propDecidable _)
def cO:List (Int × Int):=[(0,0),(0,1),(0,2),(0,3),(0,4),(0,5),(0,6),(0,7),(1,0),(1,1),(1,2),(1,3),(1,4),(1,5),(1,6),(1,7)]
def iV(rs:List Row)(k:Nat):List (Int × Int):=cO.filter (isLive rs k)
theorem vn:cO.Pairwise (λ p q=>SN.rk p < SN.rk q):=by decide
theorem mU{p:Int × Int}(h1:p.1=0 \/ p.1=1)(h2:0 <= p.2 /\ p.2 < 8):p∈cO:=by
 obtain ⟨a,b⟩:=p
 dsimp only at h1 h2
 have hb:b=0 \/ b=1 \/ b=2 \/ b=3 \/ b=4 \/ b=5 \/ b=6 \/ b=7:=by omega
 rcases h1 with rfl | rfl <;> rcases hb with rfl | rfl | rfl | rfl | rfl | rfl | rfl | rfl <;> decide
theorem vo(hb:∀ b∈bs,0 <= b /\ b < 8){p:Int × Int}(h:p∈iO r bs):p∈cO:=by
 unfold iO at h
 obtain ⟨s,hs,h⟩:=jU.mp h
 split at h
 ·obtain ⟨b,hb1,rfl⟩:=aA.mp h
  refine mU ?_ (hb b ((SN.jB hb b).mp hb1))
  simp only [aB,eK,or_false] at hs
  exact hs
 ·exact nomatch h
theorem reads_in{n:Int}(h:r.ok n){p:Int × Int}(hp:p∈cB r):p∈cO:=vo (λ b hb=>jn h b (nE b hb)) hp
theorem z6:∀ {xs ys:List (Int × Int)},xs.Pairwise (λ p q=>SN.rk p < SN.rk q)->ys.Pairwise (λ p q=>SN.rk p < SN.rk q)->(∀ p,p∈xs ↔ p∈ys)->xs=ys
 | [],[],_,_,_=>rfl
 | [],y :: ys,_,_,h=>absurd ((h y).mpr (by simp)) (by simp)
 | x :: xs,[],_,_,h=>absurd ((h x).mp (by simp)) (by simp)
 | x :: xs,y :: ys,hx,hy,h=>by
  rw [lQ] at hx hy
  have e:x=y:=by
   rcases aB.mp ((h x).mp (by simp)) with e | h1
   ·exact e
   rcases aB.mp ((h y).mpr (by simp)) with e | h2
   ·exact e.symm
   have a1:=hy.1 x h1
   have a2:=hx.1 y h2
   omega
  subst e
  congr 1
  refine z6 hx.2 hy.2 λ p=>⟨λ hp=>?_,λ hp=>?_⟩
  ·rcases aB.mp ((h p).mp (by simp [hp])) with e | h1
   ·have:=hx.1 p hp
    rw [e] at this
    omega
   ·exact h1
  ·rcases aB.mp ((h p).mpr (by simp [hp])) with e | h1
   ·have:=hy.1 p hp
    rw [e] at this
    omega
   ·exact h1
theorem HJ{n:Int}(hok:∀ r∈rs,r.ok n){qs:List (Int × Int)}(hup:qs.Pairwise (λ p q=>SN.rk p < SN.rk q))(hm:∀ p,p∈qs ↔ ∃ r∈rs,p∈cB r)(k:Nat):qs.filter (isLive rs k)=iV rs k:=by
 refine z6 (hup.sublist List.filter_sublist) (vn.sublist List.filter_sublist) λ p=>?_
 rw [eG]
 unfold iV
 rw [eG]
 refine ⟨λ ⟨h1,h2⟩=>⟨?_,h2⟩,λ ⟨h1,h2⟩=>⟨(hm p).mpr (iP.mp h2).read,h2⟩⟩
 obtain ⟨r,hr,hp⟩:=(hm p).mp h1
 exact reads_in (hok r hr) hp
theorem vp(rs:List Row)(k:Nat):(iV rs k).length <= 16:=br (iG _ _) (by decide)
theorem iy{α:Type}[DecidableEq α]:∀ {xs ys:List α},xs.Nodup->(∀ x∈xs,x∈ys)->xs.length <= ys.length
 | [],_,_,_=>aL _
 | x :: xs,ys,h,q=>by
  rw [fz] at h
  have hx:=q x (by simp)
  have:=iy (ys:=ys.erase x) h.2 λ y hy=>(List.mem_erase_of_ne (λ (e:y=x)=>h.1 (by rw [<- e]; exact hy))).mpr (q y (by simp [hy]))
  rw [List.length_erase_of_mem hx] at this
  have hp:=List.length_pos_of_mem hx
  rw [dI]
  omega
theorem QB{p q:Int × Int}(h:SN.rk p < SN.rk q):p ≠ q:=λ e=>by rw [e] at h; omega
theorem EO(p:Int × Int):putK (ps.map λ p=>(qj p,V.bl true)) (qj p) (.bl true)=(if p∈ps then ps else ps++[p]).map λ p=>(qj p,V.bl true):=by
 have hany:((ps.map λ p=>(qj p,V.bl true)).any λ kv=>decide (kv.1=qj p))=decide (p∈ps):=by
  induction ps with
  | nil=>rfl
  | cons x ps ih =>
   rw [bq,gP,ih]
   by_cases e:x=p
   ·simp [e]
   ·have e1:¬ qj x=qj p:=λ z=>e (GU z)
    have e2:¬ p=x:=λ z=>e z.symm
    simp [e1,e2]
 unfold putK
 rw [hany]
 by_cases h:p∈ps
 ·rw [if_pos (decide_eq_true h),if_pos h,eF]
  refine List.map_congr_left λ x _=>?_
  show (if qj x=qj p then (qj x,V.bl true) else (qj x,V.bl true))=_
  split <;> rfl
 ·rw [if_neg (by simpa using h),if_neg h,bM]
  rfl
def Led(rs:List Row)(i j:Nat)(x:Int):Prop:=∃ k r,k < i /\ x=((k:Nat):Int) /\ rs[k]? = some r /\ ((j:Nat):Int)∈r.ways
theorem Led.succ(h:rs[i]? = some r):Led rs (i + 1) j x ↔ Led rs i j x \/ (x=((i:Nat):Int) /\ ((j:Nat):Int)∈r.ways):=by
 constructor
 ·rintro ⟨k,r',h1,h2,h3,h4⟩
  by_cases e:k=i
  ·subst e
   rw [h] at h3
   cases h3
   exact .inr ⟨h2,h4⟩
  ·exact .inl ⟨k,r',by omega,h2,h3,h4⟩
 ·rintro (⟨k,r',h1,h2,h3,h4⟩ | ⟨h1,h2⟩)
  ·exact ⟨k,r',by omega,h2,h3,h4⟩
  ·exact ⟨i,r,by omega,h1,h,h2⟩
def sO(H:Hp)(rs:List Row)(as:List Addr):Prop:=∀ (j:Nat) a,as[j]? = some a->∃ l:List Int,H a=some (.lst (l.map V.int)) /\ l.length <= 2 * rs.length /\ ∀ x,x∈l ↔ Led rs rs.length j x
theorem sO.same{as:List Addr}(e:aG H H')(h:sO H rs as):sO H' rs as:=λ j a ha=>by
 obtain ⟨l,h1,h2⟩:=h j a ha
 exact ⟨l,e _ _ h1,h2⟩
section
variable {P:Program}{w:World}{K:ay}{mg:Str->Option Value}{base:Heap}
def ME(K:ay):Sp:=λ vs H Q _=>∃ (p:Addr) (us:List V) (rs:List Row),vs=[.ref p] /\ H p=some (.lst us) /\ Rows H us rs /\ (∀ r∈rs,r.ok rs.length) /\ rs.length <= 1000 /\
 ∀ f H' (as:List Addr),aG H H'->H' f=some (.lst (as.map V.ref))->as.length=rs.length->sO H' rs as->Q (.ref f) H'
theorem ym(T:Txt w K mg):cJ P w K mg base ji 3 T.leading.f T.leading.d ["code"] (ME K):=by
 refine T.leading.F.ok gB (λ vs H Q E h=>?_) (λ cdv A outer s H vs Q E hr h=>?_)
 ·obtain ⟨p,us,rs,rfl,_⟩:=h
  rfl
 obtain ⟨p,us,rs,rfl,hp,hrs,hok,hl,q⟩:=h
 refine ⟨_,(ao (kD (i:=1) gB.nd rfl (av rfl) (bY.plain rfl (by decide +kernel) (by decide +kernel) rfl (by decide +kernel) rfl) (ck (pv 0)) (λ _ _ _ _=>gW) (λ _ _ _ _=>(dZ ai)))
 (ao (dM bX rfl (sy rfl T.jm (aa (pv 0) ai)) (ou (n:=2) rfl (cS (bE (i:=2) gB.nd rfl (av rfl)) (cS (bE (i:=3) gB.nd rfl (av rfl)) jv)))
 (aC (dM bX rfl (ck (bO T.lg (pJ T) hr (aa (pv 3) ai))) (bE (i:=4) gB.nd rfl (av rfl))
 (aC (cQ (fW cj eL eN cN (b8 cK (pv 1) (pv 4) (λ _ _=>rfl)) (aa (pv 2) ai)))))))
 (aC (bB (pv 1))))),?_⟩
 have HE:=hrs.length
 show (_:TS) (Ends.mk _ _ _ _) [_,_,_,_,_] H
 walk_at "start"
 walk_at "go"
 refine gX (xs:=us) (λ i ys H'=>aG H H' /\ ∃ as:List Addr,ys=as.map V.ref /\ as.length=i /\ as.Nodup /\ ∀ a∈as,H a=none /\ H' a=some (.lst [])) ?_ ?_ ?_ ?_
 ·exact ⟨aG.refl _,[],rfl,rfl,iH,λ a h=>nomatch h⟩
 ·rintro i ys H' hi ⟨sm,as,rfl,_⟩
  exact bI.of (sm _ _ hp)
 ·rintro i x ys H' hx ⟨sm,as,rfl,ha,hn,hh⟩
  have hi:i < us.length:=(e9 hx).1
  refine ⟨cY (by rw [aq]; omega),?_⟩
  walk_at "go"
  rename_i b H2 n2
  refine ⟨sm.trans n2.same,as++[b],by simp,by simp [ha],?_,λ a h=>?_⟩
  ·rw [dJ]
   refine ⟨hn,by simp,λ a h c hc=>?_⟩
   rw [au.mp hc]
   intro e
   rw [e] at h
   have:=(hh b h).2
   rw [n2.1] at this
   cases this
  ·rcases aK.mp h with h | h
   ·exact ⟨(hh a h).1,n2.keep (hh a h).2⟩
   ·rw [au.mp h]
    exact ⟨sm.free n2.1,n2.self⟩
 rintro ys H1 ⟨Xu,as,rfl,hal,hnd,has⟩ f H2 n2
 walk_at "go"
 have Vz:f ∉ as:=λ h=>by
  have:=(has f h).2
  rw [n2.1] at this
  cases this
 have hHf:H f=none:=Xu.free n2.1
 refine Dq (xs:=us) (λ i σ' H'=>aG H H' /\ H' f=some (.lst (as.map V.ref)) /\ (∃ x y z,σ'=[some (.ref p),some (.ref f),x,y,z]) /\ ∀ (j:Nat) a,as[j]? = some a->∃ l:List Int,H' a=some (.lst (l.map V.int)) /\ l.length <= 2 * i /\ ∀ x,x∈l ↔ Led rs i j x) ?_ ?_ ?_ ?_
 ·refine ⟨Xu.trans n2.same,n2.self,⟨_,_,_,rfl⟩,λ j a h=>⟨[],n2.keep (has a (fm h)).2,aL _,λ x=>⟨λ h=>(nomatch h),λ ⟨k,_,hk,_⟩=>absurd hk (by omega)⟩⟩⟩
 ·rintro i σ' H' hi ⟨sm,_⟩
  exact bI.of (sm _ _ hp)
 ·rintro i x t σ' H' H3 hx ⟨sm,hf,⟨x0,y0,z0,rfl⟩,hL⟩ n3
  have hi:i < us.length:=(e9 hx).1
  obtain ⟨r,hr',⟨ra,rfl,Ze⟩⟩:=aX hrs hx
  have VA:H3 ra=some (.tup r.vals):=n3.keep (sm _ _ Ze)
  walk_at "go"
  refine ⟨ra,r,rfl,VA,λ pw H4 s4 Xv e4=>?_⟩
  walk_at "go"
  have QC:=Row.jF (hok r (fm hr'))
  have hwl:=Row.pH r
  refine f_list (xs:=r.ways.map V.int) (λ k σ' H'=>aG H H' /\ H' pw=some (.lst (r.ways.map V.int)) /\ H' f=some (.lst (as.map V.ref)) /\ (∃ z,σ'=[some (.ref p),some (.ref f),some (.int i),some (.ref ra),z]) /\
   ∀ (j:Nat) a,as[j]? = some a->∃ l:List Int,H' a=some (.lst (l.map V.int)) /\ l.length <= 2 * i + k /\ ∀ x,x∈l ↔ Led rs i j x \/ (x=((i:Nat):Int) /\ ((j:Nat):Int)∈r.ways.take k)) ?_ ?_ ?_ ?_
  ·refine ⟨(sm.trans n3.same).trans s4,e4,s4 _ _ (n3.keep hf),⟨_,rfl⟩,λ j a h=>?_⟩
   obtain ⟨l,e,hl,hm⟩:=hL j a h
   exact ⟨l,s4 _ _ (n3.keep e),by omega,λ x=>by rw [hm x]; simp⟩
  ·rintro k σ' H' hk ⟨_,e,_⟩
   exact bI.of e
  ·rintro k x σ' H5 hx ⟨VB,Xw,ER,⟨z1,rfl⟩,Te⟩
   have hk:k < (r.ways.map V.int).length:=(e9 hx).1
   rw [aq] at hk
   rw [aS] at hx
   obtain ⟨y,hy,rfl⟩:=fB.mp hx
   have hyb:=QC y (fm hy)
   have ey:y=((y.toNat:Nat):Int):=by omega
   have hj:y.toNat < as.length:=by omega
   have yo:as[y.toNat]? = some as[y.toNat]:=by simp [hj]
   generalize as[y.toNat]'hj=a at yo
   obtain ⟨l,el,NG,hm⟩:=Te _ a yo
   walk_at "go"
   refine fj (bI.of ER) (v:=.ref a) (by rw [ey]; exact fK (by rw [aS,yo]; rfl)) ?_
   have hml:(l.map V.int).length=l.length:=aq _
   walk_at "go"
   rename_i H6 n6
   have VC:pw ≠ a:=λ e=>by
    rw [e] at Xv
    have h2:H3 a=none:=Xv
    obtain ⟨l',e',_⟩:=hL _ a yo
    rw [n3.keep e'] at h2
    cases h2
   have VD:f ≠ a:=λ e=>Vz (e ▸ fm yo)
   refine ⟨n6.same VB (has a (fm yo)).1,n6.keep VC Xw,n6.keep VD ER,⟨_,rfl⟩,λ j b hb=>?_⟩
   rw [bW,hy]
   by_cases e:j=y.toNat
   ·subst e
    rw [yo] at hb
    cases hb
    refine ⟨l++[((i:Nat):Int)],by rw [bM]; exact n6.self,by rw [aN]; simp; omega,λ x=>?_⟩
    rw [aK,hm x,au,aK,<- ey]
    simp only [jt,au,or_true,and_true]
    constructor
    ·rintro ((h | h) | h)
     ·exact .inl h
     ·exact .inr h.1
     ·exact .inr h
    ·rintro (h | h)
     ·exact .inl (.inl h)
     ·exact .inr h
   ·obtain ⟨l',e',hl',hm'⟩:=Te j b hb
    have hba:b ≠ a:=λ eb=>by
     subst eb
     exact e (rf hnd hb yo)
    refine ⟨l',n6.keep hba e',by omega,λ x=>?_⟩
    have hne:¬ ((j:Nat):Int)=y:=by omega
    rw [hm' x,aK]
    simp only [jt,au,hne,or_false]
  ·rintro σ' H5 ⟨VB,Xw,ER,⟨z1,rfl⟩,Te⟩
   refine ⟨VB,ER,⟨_,_,_,rfl⟩,λ j a h=>?_⟩
   obtain ⟨l,e,hl,hm⟩:=Te j a h
   rw [aq] at hl
   refine ⟨l,e,by omega,λ x=>?_⟩
   rw [hm x,Led.succ hr',aq,cz]
 ·rintro σ' H' ⟨sm,hf,⟨x0,y0,z0,rfl⟩,hL⟩
  walk_at "go"
  refine q f H' as sm hf (by omega) λ j a h=>?_
  obtain ⟨l,e,hl,hm⟩:=hL j a h
  rw [HE] at hl hm
  exact ⟨l,e,hl,hm⟩
end
abbrev jq(H:Hp):List V->List (List (Int × Int))->Prop:=Paired λ v ps=>∃ a us,v=.ref a /\ H a=some (.lst us) /\ bf H us ps
theorem jq.same{FU:List (List (Int × Int))}(e:aG H H')(h:jq H vs FU):jq H' vs FU:=cg (λ _ _ ⟨a,us,h1,h2,h3⟩=>⟨a,us,h1,e _ _ h2,h3.same e⟩) h
section
variable {P:Program}{w:World}{K:ay}{mg:Str->Option Value}{base:Heap}
def MF:Sp:=λ vs H Q _=>∃ (p:Addr) (zs:List V) (FU:List (List (Int × Int))),vs=[.ref p] /\ H p=some (.lst zs) /\ jq H zs FU /\ (∀ ps∈FU,∀ q∈ps,q∈cO) /\
 ∀ (l:Addr) (us:List V) (qs:List (Int × Int)) (H':Hp),aG H H'->H l=none->H' l=some (.lst us)->bf H' us qs->qs.Pairwise (λ p q=>SN.rk p < SN.rk q)->(∀ q,q∈qs ↔ ∃ ps∈FU,q∈ps)->Q (.ref l) H'
theorem sP(T:Txt w K mg):cJ P w K mg base ji 1 T.jD.f T.jD.d ["lists"] MF:=by
 refine T.jD.F.ok gf (λ vs H Q E h=>?_) (λ cdv A outer s H vs Q E hr h=>?_)
 ·obtain ⟨p,zs,FU,rfl,_⟩:=h
  rfl
 obtain ⟨p,zs,FU,rfl,hp,hzs,hin,q⟩:=h
 refine ⟨_,(ao (aT (i:=1) gf.nd rfl (av rfl) CV)
 (ao (dM bX rfl (ck (pv 0)) (bE (i:=2) gf.nd rfl (av rfl))
 (aC (dM bX rfl (ck (pv 2)) (bE (i:=3) gf.nd rfl (av rfl))
 (aC (yX (CZ hr) (pv 1) (pv 3) qC rfl)))))
 (aC (bB (bA (xN rfl) rfl T.pG BT.oV (aa (pv 1) ai)))))),?_⟩
 show (_:TS) (Ends.mk _ _ _ _) [_,_,_,_] H
 walk_at "start"
 walk_at "go"
 rename_i d H1 n1
 have fd:=n1.1
 have s1:=n1.same
 have hd1:=n1.self
 clear n1
 refine f_list (xs:=zs) (λ i σ' H'=>(∃ x y,σ'=[some (.ref p),some (.ref d),x,y]) /\ aG H H' /\ ∃ ps:List (Int × Int),H' d=some (.dT (ps.map λ p=>(qj p,V.bl true))) /\ ps.Nodup /\ (∀ q∈ps,q∈cO) /\ ∀ q,q∈ps ↔ ∃ qs∈FU.take i,q∈qs) ?_ ?_ ?_ ?_
 ·exact ⟨⟨_,_,rfl⟩,s1,[],hd1,iH,(λ q h=>nomatch h),λ q=>by simp⟩
 ·rintro i σ' H' _ ⟨_,s',_⟩
  exact bI.of (s' _ _ hp)
 ·rintro i x σ' H2 hx ⟨⟨x0,y0,rfl⟩,s2,ps,hd2,nd,hall,hmem⟩
  obtain ⟨qs,NH,a,us,rfl,ha,jy⟩:=aX hzs hx
  have ha2:=s2 _ _ ha
  have QD:=jy.same s2
  have Zf:=hin qs (fm NH)
  walk_at "go"
  refine f_list (xs:=us) (λ j σ' H'=>(∃ y,σ'=[some (.ref p),some (.ref d),some (.ref a),y]) /\ aG H H' /\ ∃ ps:List (Int × Int),H' d=some (.dT (ps.map λ p=>(qj p,V.bl true))) /\ ps.Nodup /\ (∀ q∈ps,q∈cO) /\ ∀ q,q∈ps ↔ (∃ qs∈FU.take i,q∈qs) \/ q∈qs.take j) ?_ ?_ ?_ ?_
  ·exact ⟨⟨_,rfl⟩,s2,ps,hd2,nd,hall,λ q=>by rw [hmem q]; simp⟩
  ·rintro j σ' H' _ ⟨_,s',_⟩
   exact bI.of (s' _ _ ha)
  ·rintro j x σ' H3 hx ⟨⟨y0,rfl⟩,s3,ps,Cj,nd,hall,hmem⟩
   obtain ⟨t,htj,b,rfl,hb⟩:=aX jy hx
   have Td:=s3 _ _ hb
   have hpl:ps.length <= 16:=iy nd hall
   walk_at "go"
   refine PV (k:=qj t) Cj Td (by rw [aq]; omega) ?_
   intro H4 p4
   rw [EO] at p4
   walk_at "go"
   refine ⟨⟨_,rfl⟩,p4.same s3 fd,_,p4.self,?_,?_,λ q=>?_⟩
   ·by_cases h:t∈ps
    ·rw [if_pos h]; exact nd
    ·rw [if_neg h,dJ]
     exact ⟨nd,by simp,λ x hx y hy e=>h (by rw [<- au.mp hy,<- e]; exact hx)⟩
   ·intro q hq
    by_cases h:t∈ps
    ·rw [if_pos h] at hq; exact hall q hq
    ·rw [if_neg h] at hq
     rcases aK.mp hq with hq | hq
     ·exact hall q hq
     ·rw [au.mp hq]; exact Zf t (fm htj)
   ·rw [bW,htj,aK]
    simp only [jt,au]
    by_cases h:t∈ps
    ·rw [if_pos h,hmem q]
     constructor
     ·rintro (h1 | h1)
      ·exact .inl h1
      ·exact .inr (.inl h1)
     ·rintro (h1 | h1 | h1)
      ·exact .inl h1
      ·exact .inr h1
      ·rw [h1]; exact (hmem t).mp h
    ·rw [if_neg h,aK,hmem q,au,or_assoc]
  ·rintro σ' H3 ⟨⟨y0,rfl⟩,s3,ps,Cj,nd,hall,hmem⟩
   refine ⟨⟨_,_,rfl⟩,s3,ps,Cj,nd,hall,λ q=>?_⟩
   rw [hmem q,jy.length,cz,bW,NH]
   simp only [aK,jt,au]
   constructor
   ·rintro (⟨VE,h1,h2⟩ | h1)
    ·exact ⟨VE,.inl h1,h2⟩
    ·exact ⟨qs,.inr rfl,h1⟩
   ·rintro ⟨VE,h1 | h1,h2⟩
    ·exact .inl ⟨VE,h1,h2⟩
    ·subst h1; exact .inr h2
 ·rintro σ' H2 ⟨⟨x0,y0,rfl⟩,s2,ps,hd2,nd,hall,hmem⟩
  have hpl:ps.length <= 16:=iy nd hall
  walk_at "go"
  refine GV (f:=λ _=>.bl true) hd2 (λ q hq=>?_) (by omega) λ l us qs H3 n3 jy zo hup=>?_
  ·have all:∀ q∈cO,0 <= q.2 /\ q.2 < 1000:=by decide
   exact all q (hall q hq)
  ·refine q l us qs H3 (s2.trans n3.same) (s2.free n3.1) n3.self (bf.same n3.same jy) hup λ q=>?_
   rw [zo.mem_iff,hmem q,hzs.length,cz]
end
theorem pL(x:Int):∀ ss:List Int,(ie (ss.map λ k=>((.inl k:Key),V.bl true)) (.inl x)).isSome=decide (x∈ss):=λ ss=>by
 rw [<- kB]
 induction ss with
 | nil=>rfl
 | cons y ss ih =>
  rw [bq,gP,ih]
  by_cases e:y=x
  ·simp [e]
  ·have e1:¬ (Sum.inl y:Key)=Sum.inl x:=λ z=>e (Sum.inl.inj z)
   have e2:¬ x=y:=λ z=>e z.symm
   simp [e1,e2]
theorem ES{ss:List Int}(h:x ∉ ss):putK (ss.map λ k=>((.inl k:Key),V.bl true)) (.inl x) (.bl true)=(ss++[x]).map λ k=>((.inl k:Key),V.bl true):=by
 unfold putK
 rw [kB,pL,decide_eq_false h,if_neg (by decide),bM]
 rfl
structure Apart (H5:Hp) (f l cm sn:Addr) (as:List Addr):Prop where
 c5:H5 cm=none
 n5:H5 sn=none
 a5:∀ a∈as,H5 a=none
 fc:f ≠ cm
 fs:f ≠ sn
 lc:l ≠ cm
 ls:l ≠ sn
 cs:cm ≠ sn
 ca:cm ∉ as
 sa:sn ∉ as
 fa:f ∉ as
 la:l ∉ as
 nd:as.Nodup
structure tG (H5 H6:Hp) (f l cm sn:Addr) (as:List Addr) (us:List V) (cs ss:List Int) (g:Nat->List (Int × Int)) (H:Hp):Prop where
 s5:aG H5 H
 t6:fP H6 H
 hf:H f=some (.lst (as.map V.ref))
 hl:H l=some (.lst us)
 hc:H cm=some (.lst (cs.map V.int))
 hs:H sn=some (.dK (ss.map λ k=>(.inl k,.bl true)))
 ha:∀ (k:Nat) a,as[k]? = some a->∃ vs,H a=some (.lst vs) /\ bf H vs (g k)
section
variable {H5 H6 H H':Hp}{f l cm sn:Addr}{as:List Addr}{us:List V}{cs cs' ss:List Int}{g g':Nat->List (Int × Int)}
theorem tG.new{p:Addr}(x:tG H5 H6 f l cm sn as us cs ss g H)(n:eT H p o H'):tG H5 H6 f l cm sn as us cs ss g H' :=
 ⟨x.s5.trans n.same,x.t6.trans (sT n.same),n.keep x.hf,n.keep x.hl,n.keep x.hc,n.keep x.hs,λ k a e=>let ⟨vs,h1,h2⟩:=x.ha k a e; ⟨vs,n.keep h1,h2.same n.same⟩⟩
theorem tG.same(x:tG H5 H6 f l cm sn as us cs ss g H)(n:aG H H'):tG H5 H6 f l cm sn as us cs ss g H' :=
 ⟨x.s5.trans n,x.t6.trans (sT n),n _ _ x.hf,n _ _ x.hl,n _ _ x.hc,n _ _ x.hs,λ k a e=>let ⟨vs,h1,h2⟩:=x.ha k a e; ⟨vs,n _ _ h1,h2.same n⟩⟩
theorem tG.QE(A:Apart H5 f l cm sn as)(x:tG H5 H6 f l cm sn as us cs ss g H)(p:kh H cm (.lst (cs'.map V.int)) H'):tG H5 H6 f l cm sn as us cs' ss g H':=by
 have tt:fP H H':=λ b xs e=>p.keep (qA e x.hc (by intro z; cases z)) e
 exact ⟨p.same x.s5 A.c5,x.t6.trans tt,p.keep A.fc x.hf,p.keep A.lc x.hl,p.self,p.keep A.cs.symm x.hs,λ k a e=>let ⟨vs,h1,h2⟩:=x.ha k a e; ⟨vs,p.keep (λ z=>A.ca (by rw [<- z]; exact fm e)) h1,h2.lB tt⟩⟩
theorem tG.VF(A:Apart H5 f l cm sn as){ss':List Int}(x:tG H5 H6 f l cm sn as us cs ss g H)(p:kh H sn (.dK (ss'.map λ k=>(.inl k,.bl true))) H'):tG H5 H6 f l cm sn as us cs ss' g H':=by
 have tt:fP H H':=λ b xs e=>p.keep (qA e x.hs (by intro z; cases z)) e
 exact ⟨p.same x.s5 A.n5,x.t6.trans tt,p.keep A.fs x.hf,p.keep A.ls x.hl,p.keep A.cs x.hc,p.self,λ k a e=>let ⟨vs,h1,h2⟩:=x.ha k a e; ⟨vs,p.keep (λ z=>A.sa (by rw [<- z]; exact fm e)) h1,h2.lB tt⟩⟩
theorem tG.VG(A:Apart H5 f l cm sn as){aj:Addr}{vj:List V}(x:tG H5 H6 f l cm sn as us cs ss g H)(hj:as[j]? = some aj){w:List V}(hold:H aj=some (.lst w))(p:kh H aj (.lst vj) H')(hv:bf H vj (g' j))(hg:∀ k,k ≠ j->k < as.length->g' k=g k):tG H5 H6 f l cm sn as us cs ss g' H':=by
 have mj:=fm hj
 have tt:fP H H':=λ b xs e=>p.keep (qA e hold (by intro z; cases z)) e
 refine ⟨p.same x.s5 (A.a5 aj mj),x.t6.trans tt,p.keep (λ z=>A.fa (by rw [z]; exact mj)) x.hf,p.keep (λ z=>A.la (by rw [z]; exact mj)) x.hl,p.keep (λ z=>A.ca (by rw [z]; exact mj)) x.hc,p.keep (λ z=>A.sa (by rw [z]; exact mj)) x.hs,λ k a e=>?_⟩
 by_cases ek:k=j
 ·subst ek
  rw [hj] at e
  cases e
  exact ⟨vj,p.self,hv.lB tt⟩
 ·obtain ⟨vs,h1,h2⟩:=x.ha k a e
  refine ⟨vs,p.keep (λ z=>ek (rf A.nd e (by rw [z]; exact hj))) h1,?_⟩
  rw [hg k ek (e9 e).1]
  exact h2.lB tt
end
structure z8 (rs:List Row) (t:Int × Int) (cs ss:List Int):Prop where
 c1:∀ x∈cs,∃ k:Nat,x=((k:Nat):Int) /\ bK rs t k
 s1:∀ x∈ss,∃ k:Nat,x=((k:Nat):Int) /\ bK rs t k
 nd:ss.Nodup
 rd:∀ (k:Nat) r,rs[k]? = some r->t∈cB r->((k:Nat):Int)∈ss \/ ((k:Nat):Int)∈cs
 cl:∀ (k q:Nat) r,rs[k]? = some r->t ∉ aU r->((q:Nat):Int)∈r.ways->((q:Nat):Int)∈ss->((k:Nat):Int)∈ss \/ ((k:Nat):Int)∈cs
 ln:cs.length <= rs.length + ss.length * (2 * rs.length)
section
variable {rs:List Row}{t:Int × Int}{cs ss:List Int}
theorem Bv{ss:List Int}(nd:ss.Nodup){n:Nat}(h:∀ x∈ss,∃ k:Nat,x=((k:Nat):Int) /\ k < n):ss.length <= n:=by
 have:=iy nd (ys:=(List.range n).map λ k:Nat=>(k:Int)) λ x hx=>by
  obtain ⟨k,rfl,hk⟩:=h x hx
  exact aA.mpr ⟨k,fT.mpr hk,rfl⟩
 rw [aq,List.length_range] at this
 exact this
theorem z8.few(d:z8 rs t cs ss):ss.length <= rs.length:=Bv d.nd λ x hx=>by
 obtain ⟨k,e,h⟩:=d.s1 x hx
 exact ⟨k,e,h.lt⟩
theorem z8.short(d:z8 rs t cs ss)(h:rs.length <= 200):cs.length <= 81000:=by
 have h1:=d.few
 have h2:=d.ln
 have h3:ss.length * (2 * rs.length) <= 200 * 400:=Nat.mul_le_mul (by omega) (by omega)
 omega
theorem z8.skip(d:z8 rs t (cs++[x]) ss)(h:x∈ss):z8 rs t cs ss where
 c1:=λ y hy=>d.c1 y (by simp [hy])
 s1:=d.s1
 nd:=d.nd
 rd:=λ k r h1 h2=>by
  rcases d.rd k r h1 h2 with a | a
  ·exact .inl a
  ·rcases aK.mp a with a | a
   ·exact .inr a
   ·rw [au.mp a]; exact .inl h
 cl:=λ k q r h1 h2 h3 h4=>by
  rcases d.cl k q r h1 h2 h3 h4 with a | a
  ·exact .inl a
  ·rcases aK.mp a with a | a
   ·exact .inr a
   ·rw [au.mp a]; exact .inl h
 ln:=by have:=d.ln; rw [aN] at this; simp at this; omega
theorem z8.step{es:List Int}(d:z8 rs t (cs++[x]) ss)(h:x ∉ ss)(h1:∀ y,y∈es ↔ ∃ (k j:Nat) (r:Row),y=((k:Nat):Int) /\ x=((j:Nat):Int) /\ rs[k]? = some r /\ ((j:Nat):Int)∈r.ways /\ t ∉ aU r)(h2:es.length <= 2 * rs.length):z8 rs t (cs++es) (ss++[x]) where
 c1:=λ y hy=>by
  rcases aK.mp hy with a | a
  ·exact d.c1 y (by simp [a])
  ·obtain ⟨k,j,r,rfl,ej,hr,hw,hg⟩:=(h1 y).mp a
   obtain ⟨j',ej',hj⟩:=d.c1 x (by simp)
   have e:j=j':=by omega
   subst e
   exact ⟨k,rfl,.on hr hg hw hj⟩
 s1:=λ y hy=>by
  rcases aK.mp hy with a | a
  ·exact d.s1 y a
  ·rw [au.mp a]; exact d.c1 x (by simp)
 nd:=by
  rw [dJ]
  exact ⟨d.nd,by simp,λ a ha b hb e=>h (by rw [<- au.mp hb,<- e]; exact ha)⟩
 rd:=λ k r a b=>by
  rcases d.rd k r a b with c | c
  ·exact .inl (by simp [c])
  ·rcases aK.mp c with c | c
   ·exact .inr (by simp [c])
   ·exact .inl (by simp [au.mp c])
 cl:=λ k q r a b c e=>by
  rcases aK.mp e with e | e
  ·rcases d.cl k q r a b c e with z | z
   ·exact .inl (by simp [z])
   ·rcases aK.mp z with z | z
    ·exact .inr (by simp [z])
    ·exact .inl (by simp [au.mp z])
  ·have e:=au.mp e
   exact .inr (aK.mpr (.inr ((h1 _).mpr ⟨k,q,r,rfl,e.symm,a,c,b⟩)))
 ln:=by
  have:=d.ln
  rw [aN] at this
  simp only [aN,dW] at this ⊢
  rw [Nat.add_mul]
  omega
theorem z8.done(d:z8 rs t [] ss)(k:Nat):((k:Nat):Int)∈ss ↔ bK rs t k:=by
 constructor
 ·intro h
  obtain ⟨j,e,hj⟩:=d.s1 _ h
  have:k=j:=by omega
  rw [this]
  exact hj
 ·intro h
  refine jo (S:=λ k=>((k:Nat):Int)∈ss) (λ k r a b=>?_) (λ k q r a b c e=>?_) k h
  ·rcases d.rd k r a b with z | z
   ·exact z
   ·exact nomatch z
  ·rcases d.cl k q r a b c e with z | z
   ·exact z
   ·exact nomatch z
def QF(n s c:Nat):Nat:=(n - s) * (2 * n + 1) + c
theorem MG{n s c e:Nat}(hs:s < n)(he:e <= 2 * n):QF n (s + 1) (c + e) < QF n s (c + 1):=by
 unfold QF
 obtain ⟨d,hd⟩:∃ d,n - s=d + 1:=⟨n - s - 1,by omega⟩
 have h2:n - (s + 1)=d:=by omega
 rw [hd,h2,Nat.add_mul]
 omega
theorem Bw{qs:List (Int × Int)}{t:Int × Int}(hi:qs[i]? = some t){ss:List Int}(h:((k:Nat):Int)∈ss ↔ bK rs t k):(qs.take (i + 1)).filter (isLive rs k)=(qs.take i).filter (isLive rs k)++if ((k:Nat):Int)∈ss then [t] else []:=by
 rw [bW,hi,iE]
 congr 1
 show [t].filter (isLive rs k)=_
 by_cases e:bK rs t k
 ·rw [if_pos (h.mpr e),nX (iP.mpr e)]
  rfl
 ·rw [if_neg (λ z=>e (h.mp z)),nW (λ z=>e (iP.mp z))]
  rfl
end
def vq(H:Hp)(as:List Addr)(rs:List Row):Prop:=∀ (k:Nat) a,as[k]? = some a->∃ us,H a=some (.lst us) /\ bf H us (iV rs k)
theorem jq.at{H:Hp}{vs:List V}{rs:List Row}{f:Row->List (Int × Int)}(h:jq H vs (rs.map f)){k:Nat}{r:Row}(e:rs[k]? = some r):∃ a us,vs[k]? = some (.ref a) /\ H a=some (.lst us) /\ bf H us (f r):=by
 have hl:=h.length
 rw [aq] at hl
 have hk:k < vs.length:=by rw [hl]; exact (e9 e).1
 have hv:vs[k]? = some vs[k]:=dB hk
 obtain ⟨ps,h1,a,us,h2,h3,h4⟩:=aX h hv
 rw [aS,e] at h1
 cases h1
 exact ⟨a,us,by rw [hv,h2],h3,h4⟩
section
variable {P:Program}{w:World}{K:ay}{mg:Str->Option Value}{base:Heap}
def MH:Sp:=λ vs H Q _=>∃ (p:Addr) (us:List V) (rs:List Row),vs=[.ref p] /\ H p=some (.lst us) /\ Rows H us rs /\ (∀ r∈rs,r.ok rs.length) /\ rs.length <= 200 /\
 ∀ (f:Addr) (as:List Addr) (H':Hp),aG H H'->H f=none->H' f=some (.lst (as.map V.ref))->as.length=rs.length->as.Nodup->(∀ a∈as,H a=none)->f ∉ as->vq H' as rs->Q (.ref f) H'
theorem HK(T:Txt w K mg):cJ P w K mg base ji 4 T.live.f T.live.d ["code"] MH:=by
 refine T.live.F.ok gc (λ vs H Q E h=>?_) (λ cdv A outer s H vs Q E hr h=>?_)
 ·obtain ⟨p,us,rs,rfl,_⟩:=h
  rfl
 obtain ⟨p,us,rs,rfl,hp,hrs,hok,hn,q⟩:=h
 refine ⟨_,(ao (kD (i:=1) gc.nd rfl (av rfl) (bY.plain rfl (by decide +kernel) (by decide +kernel) rfl (by decide +kernel) rfl) (ck (pv 0)) (λ _ _ _ _=>gW) (λ _ _ _ _=>(bO T.reads (vh T) hr (aa (pv 0) ai))))
 (ao (aT (i:=2) gc.nd rfl (cC rfl) (f9 (bY.plain rfl (by decide +kernel) (by decide +kernel) rfl (by decide +kernel) rfl) (ck (pv 0)) (λ _ _ _ _=>gW) (λ _ _ _ _=>(bO T.gives (vm T) hr (aa (pv 0) ai)))))
 (ao (aT (i:=3) gc.nd rfl (av rfl) (bO T.leading (ym T) hr (aa (pv 0) ai)))
 (ao (kD (i:=4) gc.nd rfl (av rfl) (bY.plain rfl (by decide +kernel) (by decide +kernel) rfl (by decide +kernel) rfl) (ck (pv 0)) (λ _ _ _ _=>gW) (λ _ _ _ _=>(dZ ai)))
 (ao (dM bX rfl (ck (bO T.jD (sP T) hr (aa (pv 1) ai))) (bE (i:=5) gc.nd rfl (cC rfl))
 (ao (Dw (i:=6) gc.nd rfl (av rfl) (iK.of (xs:=["place", "some"]) (bY.caps (x := "place") (fr:=["spot"]) (ix:=[5]) (nm:=["spot"]) rfl rfl (by decide +kernel) rfl (by decide +kernel) rfl (by decide +kernel) ⟨rfl,trivial⟩ rfl (by decide +kernel) rfl ⟨⟨rfl,rfl,rfl⟩,trivial⟩) (by decide +kernel)) (sy rfl T.jm (aa (pv 1) ai)) (λ _ _ _ _=>(zf (K:=K) rfl (n:=2) rfl (cS (bE (i:=0) (show (["place", "some", "spot"]:List Str).Nodup from by decide +kernel) rfl (av rfl)) (cS (bE (i:=1) (show (["place", "some", "spot"]:List Str).Nodup from by decide +kernel) rfl (av rfl)) jv)))) (λ _ _ _ _=>(l5 (aW ((zB (K:=K) rfl) hr.units) (pv 2) (pv 1) (by with_unfolding_all rfl)))) (λ _ _ _ _=>(pv 0)))
 (ao (aT (i:=7) gc.nd rfl (av rfl) CU)
 (aC (oz bX (l6 (pv 6) (λ _=>rfl))
 (ao (aT (i:=8) gc.nd rfl (av rfl) (CJ cj PySem.F.slot_list_pop PySem.F.type_list_pop CL (pv 6)))
 (aC (ia (Ku (AH (CZ hr) (pv 8) (pv 7)))
 (ao (yX (CZ hr) (pv 7) (pv 8) qC rfl)
 (ao (cQ (fW cj eL eN cN (b8 cK (pv 4) (pv 8) (λ _ _=>rfl)) (aa (pv 5) ai)))
 (aC (cQ (fW cj m8 m9 jw (pv 6) (aa (f9 (bY.caps (x := "other") (fr:=["giving", "spot"]) (ix:=[2,5]) (nm:=["spot", "giving"]) rfl rfl (by decide +kernel) rfl (by decide +kernel) rfl (by decide +kernel) ⟨rfl,⟨rfl,trivial⟩⟩ rfl (by decide +kernel) rfl ⟨⟨rfl,rfl,rfl⟩,⟨⟨rfl,rfl,rfl⟩,trivial⟩⟩) (ck (b8 cK (pv 3) (pv 8) (λ _ _=>rfl))) (λ _ _ _ _=>(l5 (aW ((xM (K:=K) rfl) hr.units) (pv 2) (b8 (tZ (K:=K) rfl) (pv 1) (pv 0) (λ _ _=>rfl)) (by with_unfolding_all rfl)))) (λ _ _ _ _=>(pv 0))) ai))))))
 dj))))))))
 (aC (bB (pv 4)))))))),?_⟩
 have HE:=hrs.length
 show (_:TS) (Ends.mk _ _ _ _) [_,_,_,_,_,_,_,_,_] H
 walk_at "start"
 walk_at "go"
 refine gX (xs:=us) (λ i ys H'=>aG H H' /\ jq H' ys ((rs.take i).map cB)) ⟨aG.refl _,.nil⟩ ?_ ?_ ?_
 ·rintro i ys H' _ ⟨s',_⟩
  exact bI.of (s' _ _ hp)
 ·rintro i x ys H1 hx ⟨s1,hys⟩
  obtain ⟨r,HL,a,rfl,ha⟩:=aX hrs hx
  have hyl:=hys.length
  rw [aq,bV] at hyl
  refine ⟨cY (by omega),?_⟩
  walk_at "go"
  refine ⟨a,r,rs.length,rfl,s1 _ _ ha,hok r (fm HL),λ l ws H2 s2 _ hl hws=>⟨s1.trans s2,?_⟩⟩
  rw [bW,HL,bM]
  exact bQ (hys.same s2) ⟨l,ws,rfl,hl,hws⟩
 rintro Zg H1 ⟨s1,VH⟩ rd H2 n2
 rw [HE,cz] at VH
 have QG:=n2.self
 have QH:=VH.same n2.same
 have s2:=s1.trans n2.same
 clear n2 s1 VH
 have hp2:=s2 _ _ hp
 have yp:=hrs.same s2
 walk_at "go"
 refine gX (xs:=us) (λ i ys H'=>aG H2 H' /\ jq H' ys ((rs.take i).map aU)) ⟨aG.refl _,.nil⟩ ?_ ?_ ?_
 ·rintro i ys H' _ ⟨s',_⟩
  exact bI.of (s' _ _ hp2)
 ·rintro i x ys H3 hx ⟨s3,hys⟩
  obtain ⟨r,HL,a,rfl,ha⟩:=aX yp hx
  have hyl:=hys.length
  rw [aq,bV] at hyl
  refine ⟨cY (by omega),?_⟩
  walk_at "go"
  refine ⟨a,r,rs.length,rfl,s3 _ _ ha,hok r (fm HL),λ l ws H4 s4 _ hl hws=>⟨s3.trans s4,?_⟩⟩
  rw [bW,HL,bM]
  exact bQ (hys.same s4) ⟨l,ws,rfl,hl,hws⟩
 rintro gzs H3 ⟨s3,VI⟩ gv H4 n4
 rw [HE,cz] at VI
 have QI:=n4.self
 have QJ:=VI.same n4.same
 have NI:=s3.trans n4.same
 clear n4 s3 VI
 have VJ:=NI _ _ hp2
 have QK:=yp.same NI
 have QL:=NI _ _ QG
 have QM:=QH.same NI
 have s4:=s2.trans NI
 clear NI hp2 yp QG QH s2
 walk_at "go"
 refine ⟨p,us,rs,rfl,VJ,QK,hok,by omega,λ ah H5 Tf MI MJ hal VL=>?_⟩
 have Zh:=MI _ _ VJ
 have QN:=MI _ _ QL
 have QO:=QM.same MI
 have VM:=MI _ _ QI
 have VN:=QJ.same MI
 have s5:=s4.trans MI
 clear MI VJ QK QL QM QI QJ s4
 walk_at "go"
 refine gX (xs:=us) (λ i ys H'=>aG H5 H' /\ ∃ as:List Addr,ys=as.map V.ref /\ as.length=i /\ as.Nodup /\ ∀ a∈as,H5 a=none /\ H' a=some (.lst [])) ⟨aG.refl _,[],rfl,rfl,iH,λ a h=>nomatch h⟩ ?_ ?_ ?_
 ·rintro i ys H' _ ⟨s',_⟩
  exact bI.of (s' _ _ Zh)
 ·rintro i x ys H6 hx ⟨s6,as,rfl,ha,nd,hh⟩
  have hi:i < us.length:=(e9 hx).1
  refine ⟨cY (by rw [aq]; omega),?_⟩
  walk_at "go"
  rename_i b H7 n7
  refine ⟨s6.trans n7.same,as++[b],by simp,by simp [ha],?_,λ a h=>?_⟩
  ·rw [dJ]
   refine ⟨nd,by simp,λ a h c hc e=>?_⟩
   rw [au.mp hc] at e
   subst e
   have:=(hh a h).2
   rw [n7.1] at this
   cases this
  ·rcases aK.mp h with h | h
   ·exact ⟨(hh a h).1,n7.keep (hh a h).2⟩
   ·rw [au.mp h]
    exact ⟨s6.free n7.1,n7.self⟩
 rintro ys H6 ⟨JL,as,rfl,uz,nd,has⟩ f H7 n7
 have QS:=n7.self
 have f5:H5 f=none:=JL.free n7.1
 have fa:f ∉ as:=λ h=>by
  have:=(has f h).2
  rw [n7.1] at this
  cases this
 have HN:∀ a∈as,H5 a=none /\ H7 a=some (.lst []):=λ a h=>⟨(has a h).1,n7.keep (has a h).2⟩
 have Tg:=JL.trans n7.same
 clear n7 JL has
 have HP:=Tg _ _ QN
 have QT:=QO.same Tg
 walk_at "go"
 refine ⟨rd,Zg,rs.map cB,rfl,HP,QT,?_,λ l ws qs H8 Th fl Zi QU hup hmem=>?_⟩
 ·intro ps hps t ht
  obtain ⟨r,hr,rfl⟩:=aA.mp hps
  exact reads_in (hok r hr) ht
 have QV:=Th _ _ QS
 have Zj:=Tg.trans Th
 have la:l ∉ as:=λ h=>by
  have:=(HN l h).2
  rw [fl] at this
  cases this
 have lf:l ≠ f:=λ e=>by rw [e,QS] at fl; cases fl
 have YD:qs.length <= 16:=iy (hup.imp λ h=>QB h) (ys:=cO) λ t ht=>by
  obtain ⟨ps,hps,hq⟩:=(hmem t).mp ht
  obtain ⟨r,hr,rfl⟩:=aA.mp hps
  exact reads_in (hok r hr) hq
 have ML:∀ a∈as,H5 a=none /\ H8 a=some (.lst []):=λ a h=>⟨(HN a h).1,Th _ _ (HN a h).2⟩
 clear Th QS HP QT HN fl Tg
 walk_at "go"
 refine f_list (xs:=ws) (λ i σ' H'=>(∃ x y z u,σ'=[some (.ref p),some (.ref rd),some (.ref gv),some (.ref ah),some (.ref f),x,y,z,u]) /\ aG H5 H' /\ fP H8 H' /\ H' f=some (.lst (as.map V.ref)) /\ H' l=some (.lst ws) /\ ∀ (k:Nat) a,as[k]? = some a->∃ vs,H' a=some (.lst vs) /\ bf H' vs ((qs.take i).filter (isLive rs k))) ?_ ?_ ?_ ?_
 ·exact ⟨⟨_,_,_,_,rfl⟩,Zj,fP.refl _,QV,Zi,λ k a e=>⟨[],(ML a (fm e)).2,.nil⟩⟩
 ·rintro i σ' H' _ ⟨_,_,_,_,h,_⟩
  exact bI.of h
 ·rintro i x σ' H9 hx ⟨⟨x5,x6,x7,x8,rfl⟩,s9,t9,FW,QW,MM⟩
  obtain ⟨t,hti,b,rfl,Ck⟩:=aX QU hx
  have Xx:=t9 _ _ Ck
  have ET:=s9 _ _ QN
  have MN:=QO.same s9
  walk_at "go"
  have hrl:=MN.length
  rw [aq] at hrl
  refine GF (λ j zs τ H'=>aG H9 H' /\ (∃ ns:List Int,zs=ns.map V.int /\ ns.length <= j /\ ∀ y,y∈ns ↔ ∃ (k:Nat) (r:Row),k < j /\ y=((k:Nat):Int) /\ rs[k]? = some r /\ t∈cB r) /\ ∃ x y,τ=[x,y,some (.ref b)]) ?_ ?_ ?_ ?_ ?_
  ·exact ⟨aG.refl _,⟨[],rfl,aL _,λ y=>⟨λ h=>(nomatch h),λ ⟨k,_,h,_⟩=>absurd h (by omega)⟩⟩,_,_,rfl⟩
  ·rintro j zs τ H' _ ⟨s',⟨ns,rfl,hl,_⟩,_⟩
   exact ⟨bI.of (s' _ _ ET),by rw [aq]; exact hl⟩
  ·omega
  ·rintro j x pp zs τ HQ QX hx ⟨pM,⟨ns,rfl,hnl,hns⟩,x0,y0,rfl⟩ qk
   obtain ⟨ps,hps,a,vs,rfl,ha,hvs⟩:=aX MN hx
   rw [aS] at hps
   obtain ⟨r,Xy,rfl⟩:=fB.mp hps
   have JM:=pM.trans qk.same
   have VO:=JM _ _ ha
   have z9:=hvs.same JM
   have VP:=JM _ _ Xx
   have hpp:=qk.self
   clear qk pM
   walk_at "go"
   refine zC VP (bI.of VO) z9 ?_
   have split:∀ y,(∃ (k:Nat) (r:Row),k < j + 1 /\ y=((k:Nat):Int) /\ rs[k]? = some r /\ t∈cB r) ↔ (∃ (k:Nat) (r:Row),k < j /\ y=((k:Nat):Int) /\ rs[k]? = some r /\ t∈cB r) \/ (y=((j:Nat):Int) /\ t∈cB r):=λ y=>by
    constructor
    ·rintro ⟨k,r',h1,h2,h3,h4⟩
     by_cases e:k=j
     ·subst e
      rw [Xy] at h3
      cases h3
      exact .inr ⟨h2,h4⟩
     ·exact .inl ⟨k,r',by omega,h2,h3,h4⟩
    ·rintro (⟨k,r',h1,h2,h3,h4⟩ | ⟨h1,h2⟩)
     ·exact ⟨k,r',by omega,h2,h3,h4⟩
     ·exact ⟨j,r,by omega,h1,Xy,h2⟩
   by_cases hm:t∈cB r
   ·rw [decide_eq_true hm]
    walk_at "go"
    refine ⟨JM,⟨ns++[((j:Nat):Int)],by simp,by simp; omega,λ y=>?_⟩,_,_,rfl⟩
    rw [aK,hns y,au,split y]
    simp only [hm,and_true]
   ·rw [decide_eq_false hm]
    walk_at "go"
    refine ⟨JM,⟨ns,rfl,by omega,λ y=>?_⟩,_,_,rfl⟩
    rw [hns y,split y]
    simp only [hm,and_false,or_false]
  rintro zs τ HQ ⟨pM,⟨ns,rfl,hnl,hns⟩,x0,y0,rfl⟩ cm QX qk
  rw [hrl] at hnl hns
  walk_at "go"
  rename_i sn QY EU
  have MO:∀ (k:Nat) a,as[k]? = some a->∃ vs,QY a=some (.lst vs) /\ bf QY vs ((qs.take i).filter (isLive rs k)) /\ HQ a=some (.lst vs) /\ QX a=some (.lst vs):=λ k a e=>by
   obtain ⟨vs,h1,h2⟩:=MM k a e
   exact ⟨vs,EU.keep (qk.keep (pM _ _ h1)),h2.same ((pM.trans qk.same).trans EU.same),pM _ _ h1,qk.keep (pM _ _ h1)⟩
  have s12:=(pM.trans qk.same).trans EU.same
  have AP:Apart H5 f l cm sn as:=by
   have Ti:∀ a∈as,∃ vs,HQ a=some (HO.lst vs) /\ QX a=some (HO.lst vs):=λ a h=>by
    obtain ⟨k,hk⟩:=dX.mp h
    obtain ⟨vs,_,_,h1,h2⟩:=MO k a hk
    exact ⟨vs,h1,h2⟩
   refine ⟨s9.free (pM.free qk.1),s9.free (pM.free (qk.same.free EU.1)),λ a h=>(ML a h).1,aV (pM _ _ FW) qk.1,aV (qk.keep (pM _ _ FW)) EU.1,aV (pM _ _ QW) qk.1,aV (qk.keep (pM _ _ QW)) EU.1,aV qk.self EU.1,λ h=>?_,λ h=>?_,fa,la,nd⟩
   ·obtain ⟨vs,h1,_⟩:=Ti cm h
    rw [qk.1] at h1
    cases h1
   ·obtain ⟨vs,_,h1⟩:=Ti sn h
    rw [EU.1] at h1
    cases h1
  have L0:tG H5 H8 f l cm sn as ws ns [] (λ k=>(qs.take i).filter (isLive rs k)++if ((k:Nat):Int)∈([]:List Int) then [t] else []) QY :=
   ⟨s9.trans s12,t9.trans (sT s12),s12 _ _ FW,s12 _ _ QW,EU.keep qk.self,EU.self,λ k a e=>by
    obtain ⟨vs,h1,h2,_⟩:=MO k a e
    exact ⟨vs,h1,by simpa using h2⟩⟩
  have D0:z8 rs t ns []:=by
   refine ⟨λ x hx=>?_,(λ x h=>nomatch h),iH,λ k r h1 h2=>.inr ((hns _).mpr ⟨k,r,(e9 h1).1,rfl,h1,h2⟩),(λ k q r _ _ _ h=>nomatch h),by simp; omega⟩
   obtain ⟨k,r,_,rfl,h1,h2⟩:=(hns x).mp hx
   exact ⟨k,rfl,.here h1 h2⟩
  clear qk EU pM s12 hns hnl MM MO FW QW s9 t9 ET MN Xx
  refine su (λ m σ' H'=>∃ (cs ss:List Int) (x:Option V),σ'=[some (.ref p),some (.ref rd),some (.ref gv),some (.ref ah),some (.ref f),some (.ref b),some (.ref cm),some (.ref sn),x] /\ tG H5 H8 f l cm sn as ws cs ss (λ k=>(qs.take i).filter (isLive rs k)++if ((k:Nat):Int)∈ss then [t] else []) H' /\ z8 rs t cs ss /\ m=QF rs.length ss.length cs.length) ⟨_,ns,[],_,rfl,L0,D0,rfl⟩ ?_
  clear L0 D0
  rintro m σ' Xz ⟨cs,ss,x,rfl,L,D,rfl⟩
  have QZ:=L.hc
  walk_at "go"
  rcases List.eq_nil_or_concat cs with e | ⟨cs',y,e⟩
  ·subst e
   rw [if_neg (by decide)]
   walk_at "nxd"
   refine ⟨⟨_,_,_,_,rfl⟩,L.s5,L.t6,L.hf,L.hl,λ k a e=>?_⟩
   obtain ⟨vs,h1,h2⟩:=L.ha k a e
   refine ⟨vs,h1,?_⟩
   rw [Bw hti (D.done k)]
   exact h2
  rw [List.concat_eq_append] at e
  subst e
  rw [if_pos (by simp)]
  obtain ⟨ky,NJ,XA⟩:=D.c1 y (by simp)
  have hss:=D.few
  have hsh:=D.short hn
  rw [aN,dW] at hsh
  walk_at "go"
  refine s_pop QZ (y:=.int y) (by simp) ?_
  intro Zk FY
  have ed:(List.map V.int (cs'++[y])).dropLast=cs'.map V.int:=by simp
  rw [ed] at FY
  have Q0:=L.QE AP FY
  clear FY QZ L ed
  have VQ:=Q0.hs
  by_cases hy:y∈ss
  ·have hv:(!(ie (ss.map λ k=>((.inl k:Key),V.bl true)) (.inl y)).isSome)=false:=by rw [pL,decide_eq_true hy]; rfl
   walk_at "go"
   rw [hv,if_neg (by decide)]
   walk_at "go"
   refine ⟨_,?_,cs',ss,_,rfl,Q0,D.skip hy,rfl⟩
   rw [aN,dW]
   unfold QF
   omega
  have hv:(!(ie (ss.map λ k=>((.inl k:Key),V.bl true)) (.inl y)).isSome)=true:=by rw [pL,decide_eq_false hy]; rfl
  have hsl:(ss.map λ k=>((.inl k:Key),V.bl true)).length <= 200:=by rw [aq]; omega
  have ey:=ES hy
  have HR:=Q0.hf
  have OE:=AP.fs
  walk_at "go"
  rw [hv,if_pos rfl]
  walk_at "go"
  rename_i XC HS
  rw [ey] at HS
  have MP:=Q0.VF AP HS
  clear HS Q0 VQ ey hv HR OE
  have Cm:ky < as.length:=by have:=XA.lt; omega
  have yo:as[ky]? = some as[ky]:=dB Cm
  generalize as[ky]'Cm=a at yo
  obtain ⟨vs,hvs,hps⟩:=MP.ha ky a yo
  have Q2:¬ ((ky:Nat):Int)∈ss:=by rw [<- NJ]; exact hy
  rw [if_neg Q2,eE] at hps
  have hvl:vs.length <= 16:=by
   rw [hps.length]
   refine br (iG _ _) ?_
   rw [bV]
   omega
  have VR:=MP.hc
  have hca:cm ≠ a:=λ z=>AP.ca (by rw [z]; exact fm yo)
  have Q3:=MP.s5 _ _ MJ
  have haa:ah ≠ a:=aV MJ (AP.a5 a (fm yo))
  refine fj (bI.of MP.hf) (v:=.ref a) (by rw [NJ]; exact fK (by rw [aS,yo]; rfl)) ?_
  walk_at "go"
  rename_i XD XE
  have MQ:tG H5 H8 f l cm sn as ws cs' (ss++[y]) (λ k=>(qs.take i).filter (isLive rs k)++if ((k:Nat):Int)∈ss++[y] then [t] else []) XD:=by
   have x:=MP.VG AP (g':=λ k=>(qs.take i).filter (isLive rs k)++if ((k:Nat):Int)∈ss++[y] then [t] else []) yo hvs XE ?_ λ k hk _=>?_
   ·exact x
   ·show bf XC _ ((qs.take i).filter (isLive rs ky)++if ((ky:Nat):Int)∈ss++[y] then [t] else [])
    rw [if_pos (by rw [<- NJ]; simp)]
    exact bQ hps ⟨b,rfl,MP.t6 _ _ Ck⟩
   ·have hne:¬ ((k:Nat):Int)=y:=by omega
    simp only [aK,au,hne,or_false]
  clear XE MP hvs hps VR Q3
  have JN:=MQ.s5 _ _ MJ
  have JO:=MQ.s5 _ _ VM
  have JP:=VN.same MQ.s5
  have Q4:=MQ.t6 _ _ Ck
  have Q5:ky < Tf.length:=by have:=XA.lt; omega
  have MR:Tf[ky]? = some Tf[ky]:=dB Q5
  generalize Tf[ky]'Q5=al at MR
  obtain ⟨le,hle,Zl,EV⟩:=VL.same MQ.s5 ky al MR
  refine fj (bI.of JN) (v:=.ref al) (by rw [NJ]; exact fK (by rw [aS,MR]; rfl)) ?_
  walk_at "go"
  refine gX (xs:=le.map V.int) (λ j ys H'=>aG XD H' /\ ∃ es:List Int,ys=es.map V.int /\ es.length <= j /\ ∀ z,z∈es ↔ ∃ (k:Nat) (r:Row),z=((k:Nat):Int) /\ z∈le.take j /\ rs[k]? = some r /\ t ∉ aU r) ⟨aG.refl _,[],rfl,aL _,λ z=>⟨λ h=>(nomatch h),λ ⟨k,r,_,h,_⟩=>by simp at h⟩⟩ ?_ ?_ ?_
  ·rintro j ys H' _ ⟨s',_⟩
   exact bI.of (s' _ _ hle)
  ·rintro j x ys Zm hx ⟨JQ,es,rfl,hel,hes⟩
   have hjl:j < (le.map V.int).length:=(e9 hx).1
   rw [aq] at hjl
   rw [aS] at hx
   obtain ⟨z,hz,rfl⟩:=fB.mp hx
   obtain ⟨k,r,hk,ez,hr,hw⟩:=(EV z).mp (fm hz)
   obtain ⟨ga,gus,hga,Tj,Zn⟩:=(JP.same JQ).at hr
   refine ⟨cY (by rw [aq]; omega),?_⟩
   have Q6:=JQ _ _ JO
   have VS:=JQ _ _ Q4
   walk_at "go"
   refine fj (bI.of Q6) (v:=.ref ga) (by rw [ez]; exact fK hga) ?_
   walk_at "go"
   refine DQ VS (bI.of Tj) Zn ?_
   have split:∀ y,(∃ (k:Nat) (r:Row),y=((k:Nat):Int) /\ y∈le.take (j + 1) /\ rs[k]? = some r /\ t ∉ aU r) ↔ (∃ (k:Nat) (r:Row),y=((k:Nat):Int) /\ y∈le.take j /\ rs[k]? = some r /\ t ∉ aU r) \/ (y=z /\ t ∉ aU r):=λ y=>by
    rw [bW,hz]
    simp only [jt,aK,au]
    constructor
    ·rintro ⟨k',r',h1,h2 | h2,h3,h4⟩
     ·exact .inl ⟨k',r',h1,h2,h3,h4⟩
     ·have e:k'=k:=by omega
      subst e
      rw [hr] at h3
      cases h3
      exact .inr ⟨h2,h4⟩
    ·rintro (⟨k',r',h1,h2,h3,h4⟩ | ⟨h1,h2⟩)
     ·exact ⟨k',r',h1,.inl h2,h3,h4⟩
     ·exact ⟨k,r,by rw [h1,ez],.inr h1,hr,h2⟩
   by_cases hm:t∈aU r
   ·rw [decide_eq_true hm]
    walk_at "go"
    refine ⟨JQ,es,rfl,by omega,λ y=>?_⟩
    rw [hes y,split y]
    simp only [hm,not_true,and_false,or_false]
   ·rw [decide_eq_false hm]
    walk_at "go"
    refine ⟨JQ,es++[z],by simp,by simp; omega,λ y=>?_⟩
    rw [aK,hes y,au,split y]
    simp only [hm,not_false_eq_true,and_true]
  rintro ys Zm ⟨JQ,es,rfl,hel,hes⟩ ex H18 VT
  rw [aq] at hel hes
  rw [cz] at hes
  have XF:=(MQ.same JQ).new VT
  have hex:=VT.self
  have Zo:=XF.hc
  have hcl:(cs'.map V.int).length <= 81000:=by rw [aq]; omega
  have Zp:(es.map V.int).length <= 400:=by rw [aq]; omega
  clear VT JQ MQ JN JO JP Q4 hle
  walk_at "go"
  rename_i H19 XG
  rw [<- bM] at XG
  have Zq:=XF.QE AP XG
  refine ⟨_,?_,cs'++es,ss++[y],_,rfl,Zq,D.step hy (λ z=>?_) (by omega),rfl⟩
  ·have hlt:ss.length < rs.length:=by
    have d2:=(D.step (es:=es) hy (λ z=>?_) (by omega)).few
    ·rw [aN] at d2
     simp at d2
     omega
    ·rw [hes z]
     constructor
     ·rintro ⟨k,r,h1,h2,h3,h4⟩
      obtain ⟨k',r',_,e1,e2,e3⟩:=(EV z).mp h2
      have e:k'=k:=by omega
      subst e
      rw [h3] at e2
      cases e2
      exact ⟨k',ky,r,h1,NJ,h3,e3,h4⟩
     ·rintro ⟨k,j,r,h1,h2,h3,h4,h5⟩
      have e:j=ky:=by omega
      subst e
      exact ⟨k,r,h1,(EV z).mpr ⟨k,r,(e9 h3).1,h1,h3,h4⟩,h3,h5⟩
   rw [aN,aN,aN,dW]
   exact MG hlt (by omega)
  ·rw [hes z]
   constructor
   ·rintro ⟨k,r,h1,h2,h3,h4⟩
    obtain ⟨k',r',_,e1,e2,e3⟩:=(EV z).mp h2
    have e:k'=k:=by omega
    subst e
    rw [h3] at e2
    cases e2
    exact ⟨k',ky,r,h1,NJ,h3,e3,h4⟩
   ·rintro ⟨k,j,r,h1,h2,h3,h4,h5⟩
    have e:j=ky:=by omega
    subst e
    exact ⟨k,r,h1,(EV z).mpr ⟨k,r,(e9 h3).1,h1,h3,h4⟩,h3,h5⟩
 ·rintro σ' H9 ⟨⟨x5,x6,x7,x8,rfl⟩,s9,t9,FW,QW,MM⟩
  walk_at "go"
  refine q f as H9 (s5.trans s9) (s5.free f5) FW (by omega) nd (λ a h=>s5.free (ML a h).1) fa λ k a e=>?_
  obtain ⟨vs,h1,h2⟩:=MM k a e
  refine ⟨vs,h1,?_⟩
  rw [QU.length,cz,HJ hok hup (λ q=>?_) k] at h2
  ·exact h2
  ·rw [hmem q]
   constructor
   ·rintro ⟨ps,hps,hq⟩
    obtain ⟨r,hr,rfl⟩:=aA.mp hps
    exact ⟨r,hr,hq⟩
   ·rintro ⟨r,hr,hq⟩
    exact ⟨_,aA.mpr ⟨r,hr,rfl⟩,hq⟩
end
def Row.gv(r:Row)(s:Int):Int:=if r.jK && (decide (r.sd=s) || decide (r.sd=2)) then r.pK.headD 0 else -1
def Row.rd(r:Row)(s:Int):List Int:=if r.jK && !(decide (r.sd=s) || decide (r.sd=2)) then [] else r.EN
theorem rj(hb:∀ b∈bs,0 <= b /\ b < 8)(hs:s=0 \/ s=1):(s,b)∈iO r bs ↔ eW r s=true /\ b∈bs:=by
 unfold iO
 rw [jU]
 constructor
 ·rintro ⟨s',_,h⟩
  split at h
  ·rename_i QA
   obtain ⟨b',hb1,e⟩:=aA.mp h
   cases e
   exact ⟨QA,(SN.jB hb b).mp hb1⟩
  ·exact nomatch h
 ·rintro ⟨h1,h2⟩
  refine ⟨s,by simpa using hs,?_⟩
  rw [if_pos h1]
  exact aA.mpr ⟨b,(SN.jB hb b).mpr h2,rfl⟩
theorem iz{n:Int}(h:r.ok n)(hs:s=0 \/ s=1):(s,b)∈cB r ↔ b∈r.rd s:=by
 unfold cB Row.rd
 rw [rj (λ b hb=>jn h b (nE b hb)) hs]
 unfold eW
 cases r.jK <;> cases decide (r.sd=s) <;> cases decide (r.sd=2) <;> simp
theorem pN(h:r.jK=true):r.pK.take 1=[r.pK.headD 0]:=by cases r <;> first | rfl | cases h
theorem d9{n:Int}(h:r.ok n)(hs:s=0 \/ s=1)(hb:0 <= b):(s,b)∈aU r ↔ r.gv s=b:=by
 unfold aU Row.gv
 by_cases hd:r.jK=true
 ·rw [if_pos hd,rj (λ b hb=>jn h b (List.take_subset _ _ hb)) hs,pN hd,au]
  unfold eW
  rw [hd]
  cases decide (r.sd=s) <;> cases decide (r.sd=2) <;> simp <;> first | omega | exact ⟨λ e=>e.symm,λ e=>e.symm⟩
 ·rw [if_neg hd]
  have:r.jK=false:=by simpa using hd
  rw [this]
  simp
  omega
theorem JR{n:Int}(h:r.ok n)(s:Int):r.gv s < 8:=by
 unfold Row.gv
 split
 ·rename_i e
  have hd:r.jK=true:=by cases hr:r.jK <;> simp [hr] at e ⊢
  exact (jn h (r.pK.headD 0) (List.take_subset 1 _ (by rw [pN hd]; simp))).2
 ·omega
theorem JS{n:Int}(h:r.ok n)(s:Int):∀ b∈r.rd s,0 <= b /\ b < 8:=λ b hb=>by
 unfold Row.rd at hb
 split at hb
 ·exact nomatch hb
 ·exact jn h b (nE b hb)
def Q7(ms:List Nat)(r:Row):Nat:=r.ways.foldl (λ m q=>m ||| ms.getD q.toNat 0) 0
def yq(m:Nat)(g:Int):Nat:=if 0 <= g then m &&& (255 - 2 ^ g.toNat) else m
def f6(ms:List Nat)(r:Row)(s:Int):Nat:=(r.rd s).foldl (λ m b=>m ||| 2 ^ b.toNat) (yq (Q7 ms r) (r.gv s))
theorem nF{α:Type}(f:α->Nat)(b:Nat):∀ (l:List α) (m0:Nat),(l.foldl (λ m x=>m ||| f x) m0).testBit b=(m0.testBit b || l.any λ x=>(f x).testBit b)
 | [],m0=>by simp
 | x :: l,m0=>by
  rw [List.foldl_cons,nF f b l,Nat.testBit_or,gP,Bool.or_assoc]
theorem Aa(ms:List Nat)(r:Row)(b:Nat):(Q7 ms r).testBit b=r.ways.any λ q=>(ms.getD q.toNat 0).testBit b:=by
 unfold Q7
 rw [nF]
 simp
theorem EW:∀ (g b:Fin 8),(255 - 2 ^ g.val:Nat).testBit b.val = !decide (b=g):=by decide
theorem EX{g:Int}(hg:g < 8){b:Nat}(hb:b < 8):(yq m g).testBit b=(m.testBit b && !decide ((b:Int)=g)):=by
 unfold yq
 split
 ·rename_i h0
  have:=EW ⟨g.toNat,by omega⟩ ⟨b,hb⟩
  rw [Nat.testBit_and]
  dsimp only at this
  rw [this]
  congr 2
  simp only [Fin.mk.injEq,decide_eq_decide]
  omega
 ·rw [decide_eq_false (show ¬ (b:Int)=g by omega)]
  simp
theorem HU(m:Nat)(g:Int)(b:Nat)(h:(yq m g).testBit b=true):m.testBit b=true:=by
 unfold yq at h
 split at h
 ·rw [Nat.testBit_and] at h
  simp only [mJ] at h
  exact h.1
 ·exact h
theorem gp{ms:List Nat}{n:Int}(h:r.ok n){b:Nat}(hb:b < 8):(f6 ms r s).testBit b=true ↔ (b:Int)∈r.rd s \/ (¬ r.gv s=b /\ ∃ q∈r.ways,(ms.getD q.toNat 0).testBit b=true):=by
 unfold f6
 rw [nF,EX (JR h s) hb,Aa]
 simp only [Bool.or_eq_true,mJ,List.any_eq_true,Bool.not_eq_true',decide_eq_false_iff_not]
 constructor
 ·rintro (⟨h1,h2⟩ | ⟨x,hx,h3⟩)
  ·exact .inr ⟨λ e=>h2 e.symm,h1⟩
  ·rw [Nat.testBit_two_pow] at h3
   have:=JS h s x hx
   have e:(b:Int)=x:=by
    have:=of_decide_eq_true h3
    omega
   rw [e]
   exact .inl hx
 ·rintro (h1 | ⟨h1,h2⟩)
  ·exact .inr ⟨_,h1,by rw [Nat.testBit_two_pow]; exact decide_eq_true (by omega)⟩
  ·exact .inl ⟨h2,λ e=>h1 e.symm⟩
theorem EY{ms:List Nat}(hm:∀ m∈ms,m < 256){n:Int}(h:r.ok n)(s:Int):f6 ms r s < 256:=by
 refine Nat.lt_pow_two_of_testBit (n:=8) _ λ i hi=>?_
 unfold f6
 rw [nF]
 have e1:(yq (Q7 ms r) (r.gv s)).testBit i=false:=by
  cases e:(yq (Q7 ms r) (r.gv s)).testBit i with
  | false=>rfl
  | true =>
   have:=HU _ _ _ e
   rw [Aa,List.any_eq_true] at this
   obtain ⟨q,_,hq⟩:=this
   have hl:ms.getD q.toNat 0 < 2 ^ 8:=by
    rw [iR]
    cases e2:ms[q.toNat]? with
    | none=>simp
    | some m=>exact hm m (fm e2)
   rw [Nat.testBit_lt_two_pow (bN hl (Nat.pow_le_pow_right (by decide) hi))] at hq
   cases hq
 rw [e1,Bool.false_or,List.any_eq_false]
 intro x hx
 have:=JS h s x hx
 rw [Nat.testBit_two_pow]
 simp
 omega
structure pO (rs:List Row) (s:Int) (ms:List Nat):Prop where
 len:ms.length=rs.length
 lt:∀ m∈ms,m < 256
 snd:∀ (k:Nat) (m:Nat) (b:Nat),ms[k]? = some m->b < 8->m.testBit b=true->bK rs (s,(b:Int)) k
 inc:∀ (k:Nat) (m:Nat) (r:Row),ms[k]? = some m->rs[k]? = some r->∀ b,b < 8->m.testBit b=true->(f6 ms r s).testBit b=true
theorem pO.zero(rs:List Row)(s:Int):pO rs s (List.replicate rs.length 0) where
 len:=by simp
 lt:=λ m hm=>by rw [(List.mem_replicate.mp hm).2]; decide
 snd:=λ k m b e _ h=>by
  rw [(List.mem_replicate.mp (fm e)).2] at h
  simp at h
 inc:=λ k m r e _ b _ h=>by
  rw [(List.mem_replicate.mp (fm e)).2] at h
  simp at h
theorem getD_at{α:Type}{l:List α}{x d:α}(h:l[k]? = some x):l.getD k d=x:=by rw [iR,h]; rfl
section
variable {rs:List Row}{s:Int}{ms:List Nat}(hs:s=0 \/ s=1)(hok:∀ r∈rs,r.ok rs.length)
include hs hok
theorem pO.sound(I:pO rs s ms)(hr:rs[k]? = some r){b:Nat}(hb:b < 8)(h:(f6 ms r s).testBit b=true):bK rs (s,(b:Int)) k:=by
 have ho:=hok r (fm hr)
 rcases (gp ho hb).mp h with h1 | ⟨h1,q,hq,h2⟩
 ·exact .here hr ((iz ho hs).mpr h1)
 ·have VU:=Row.jF ho q hq
  have hqn:q.toNat < ms.length:=by rw [I.len]; omega
  have e1:ms[q.toNat]? = some ms[q.toNat]:=dB hqn
  rw [getD_at e1] at h2
  have hl:=I.snd q.toNat _ b e1 hb h2
  refine .on (q:=q.toNat) hr (λ hg=>h1 ((d9 ho hs (by omega)).mp hg)) ?_ hl
  rw [Int.toNat_of_nonneg VU.1]
  exact hq
theorem pO.set(I:pO rs s ms){m:Nat}(hm:ms[k]? = some m)(hr:rs[k]? = some r):pO rs s (ms.set k (f6 ms r s)):=by
 have hk:k < ms.length:=(e9 hm).1
 have get:∀ (j:Nat) (x:Nat),(ms.set k (f6 ms r s))[j]? = some x->(j=k /\ x=f6 ms r s) \/ (j ≠ k /\ ms[j]? = some x):=λ j x e=>by
  rw [List.getElem?_set] at e
  split at e
  ·rename_i e1
   exact .inl ⟨e1.symm,(Option.some.inj e).symm⟩
  ·rename_i e1
   exact .inr ⟨λ z=>e1 z.symm,e⟩
 have mono:∀ (r':Row),r'∈rs->∀ b,b < 8->(f6 ms r' s).testBit b=true->(f6 (ms.set k (f6 ms r s)) r' s).testBit b=true:=λ r' hr' b hb h=>by
  have ho:=hok r' hr'
  rcases (gp ho hb).mp h with h1 | ⟨h1,q,hq,h2⟩
  ·exact (gp ho hb).mpr (.inl h1)
  ·refine (gp ho hb).mpr (.inr ⟨h1,q,hq,?_⟩)
   have VU:=Row.jF ho q hq
   by_cases e:k=q.toNat
   ·rw [iR,List.getElem?_set,if_pos e,if_pos hk]
    rw [<- e,getD_at hm] at h2
    exact I.inc k m r hm hr b hb h2
   ·rw [iR,List.getElem?_set,if_neg e,<- iR]
    exact h2
 refine ⟨by rw [List.length_set]; exact I.len,λ x hx=>?_,λ j x b e hb h=>?_,λ j x r' e hr' b hb h=>?_⟩
 ·obtain ⟨j,hj⟩:=dX.mp hx
  rcases get j x hj with ⟨_,rfl⟩ | ⟨_,e⟩
  ·exact EY I.lt (hok r (fm hr)) s
  ·exact I.lt x (fm e)
 ·rcases get j x e with ⟨rfl,rfl⟩ | ⟨_,e⟩
  ·exact I.sound hs hok hr hb h
  ·exact I.snd j x b e hb h
 ·rcases get j x e with ⟨rfl,rfl⟩ | ⟨_,e⟩
  ·rw [hr] at hr'
   cases hr'
   exact mono r (fm hr) b hb h
  ·exact mono r' (fm hr') b hb (I.inc j x r' e hr' b hb h)
theorem pO.up(I:pO rs s ms)(hm:ms[k]? = some m)(hr:rs[k]? = some r):m <= f6 ms r s:=by
 have e:m ||| f6 ms r s=f6 ms r s:=by
  refine Nat.eq_of_testBit_eq λ i=>?_
  rw [Nat.testBit_or]
  cases h:m.testBit i with
  | false=>rw [Bool.false_or]
  | true =>
   have hi:i < 8:=by
    rcases bG i 8 with hl | hg
    ·exact hl
    ·rw [Nat.testBit_lt_two_pow (bN (show m < 2 ^ 8 from I.lt m (fm hm)) (Nat.pow_le_pow_right (by decide) hg))] at h
     cases h
   rw [I.inc k m r hm hr i hi h]
   rfl
 rw [<- e]
 exact Nat.left_le_or
theorem pO.done(I:pO rs s ms)(fx:∀ (k:Nat) (r:Row) (m:Nat),rs[k]? = some r->ms[k]? = some m->f6 ms r s=m){b:Nat}(hm:ms[k]? = some m)(hb:b < 8):m.testBit b=true ↔ bK rs (s,(b:Int)) k:=by
 refine ⟨I.snd k m b hm hb,λ h=>?_⟩
 have all:=jo (rs:=rs) (p:=(s,(b:Int))) (S:=λ k=>∀ m,ms[k]? = some m->m.testBit b=true) (λ k r hr hp m hm=>?_) (λ k q r hr hg hw ih m hm=>?_) k h
 ·exact all m hm
 ·have ho:=hok r (fm hr)
  rw [<- fx k r m hr hm]
  exact (gp ho hb).mpr (.inl ((iz ho hs).mp hp))
 ·have ho:=hok r (fm hr)
  rw [<- fx k r m hr hm]
  refine (gp ho hb).mpr (.inr ⟨λ e=>hg ((d9 ho hs (by omega)).mpr e),_,hw,?_⟩)
  have VU:=Row.jF ho _ hw
  have hqn:q < ms.length:=by rw [I.len]; omega
  have e1:ms[q]? = some ms[q]:=dB hqn
  rw [eB,getD_at e1]
  exact ih _ e1
end
open HM in
def Row.ends(r:Row):dw->Bool
 | none=>tF (.str r.key) [.str "mark", .str "out", .str "back"]
 | some p=>tF (.str r.key) [.str "look", .str "out", .str "back"] && decide (r.pK.headD 0=p.2)
open HM in
def LeftOf(r:Row):dw->dw->Prop
 | none,u=>r.ends none=false /\ u=none
 | some p,u=>r.ends (some p)=false /\ ((u=some p /\ r.gv p.1 ≠ p.2) \/ (u=some (p.1,r.gv p.1) /\ 0 <= r.gv p.1 /\ p.2∈r.rd p.1))
open HM in
def dw.lv(rs:List Row)(k:Nat):dw->Prop
 | none=>True
 | some p=>p∈iV rs k
open HM in
def dz(rs:List Row)(r:Row)(t:dw)(z:aR):Prop:=z.1∈r.ways /\ LeftOf r t z.2 /\ dw.lv rs z.1.toNat z.2
open HM in
def FZ:dw->Prop
 | none=>True
 | some p=>(p.1=0 \/ p.1=1) /\ 0 <= p.2 /\ p.2 < 8
theorem LeftOf.ok{n:Int}(h:r.ok n){u:HM.dw}(ht:FZ t)(l:LeftOf r t u):FZ u /\ u.isSome=t.isSome:=by
 cases t with
 | none=>rw [l.2]; exact ⟨trivial,rfl⟩
 | some p =>
  rcases l.2 with ⟨rfl,_⟩ | ⟨rfl,h0,_⟩
  ·exact ⟨ht,rfl⟩
  ·exact ⟨⟨ht.1,h0,JR h _⟩,rfl⟩
theorem Ab{α:Type}(f:α->Int):∀ {xs ys:List α},xs.Pairwise (λ p q=>f p < f q)->ys.Pairwise (λ p q=>f p < f q)->(∀ p,p∈xs ↔ p∈ys)->xs=ys
 | [],[],_,_,_=>rfl
 | [],y :: ys,_,_,h=>absurd ((h y).mpr (by simp)) (by simp)
 | x :: xs,[],_,_,h=>absurd ((h x).mp (by simp)) (by simp)
 | x :: xs,y :: ys,hx,hy,h=>by
  have h1:=lQ.mp hx
  have h2:=lQ.mp hy
  have e:x=y:=by
   rcases aB.mp ((h x).mp (by simp)) with e | e
   ·exact e
   ·rcases aB.mp ((h y).mpr (by simp)) with e' | e'
    ·exact e'.symm
    ·have:=h1.1 _ e'; have:=h2.1 _ e; omega
  subst e
  rw [Ab f h1.2 h2.2 λ p=>?_]
  constructor
  ·intro hp
   rcases aB.mp ((h p).mp (cu _ hp)) with e | e
   ·rw [e] at hp; have:=h1.1 _ hp; omega
   ·exact e
  ·intro hp
   rcases aB.mp ((h p).mpr (cu _ hp)) with e | e
   ·rw [e] at hp; have:=h2.1 _ hp; omega
   ·exact e
def cL(r:Row):HM.dw->List HM.dw
 | none=>if r.ends none then [] else [none]
 | some p=>if r.ends (some p) then [] else (if p∈aU r then [] else [some p])++if p∈cB r then ((aU r).filter λ q=>decide (q.1=p.1)).map some else []
theorem Bx(b:Int):(SN.dF [b]).length <= 1:=by
 have h1:=SN.uq [b]
 have h2:∀ n∈SN.dF [b],n=b:=λ n hn=>by
  unfold SN.dF at hn
  obtain ⟨k,hk,rfl⟩:=aA.mp hn
  have:=(eG.mp hk).2
  simpa using this
 match h:SN.dF [b] with
 | []=>simp
 | [_]=>simp
 | x :: y :: l =>
  rw [h] at h1 h2
  have e1:=h2 x (by simp)
  have e2:=h2 y (by simp)
  have:=(lQ.mp h1).1 y (by simp)
  omega
theorem yr(r:Row)(hs:s=0 \/ s=1):((aU r).filter λ q=>decide (q.1=s)).length <= 1:=by
 unfold aU
 split
 ·rename_i hd
  have e:=pN hd
  rw [e]
  unfold iO
  have l1:=Bx (r.pK.headD 0)
  generalize r.pK.headD 0=hd0 at l1 ⊢
  have all:∀ (s':Int),(((SN.dF [hd0]).map λ b=>(s',b)).filter λ q=>decide (q.1=s))=if s'=s then (SN.dF [hd0]).map λ b=>(s',b) else []:=λ s'=>by
   split
   ·rename_i e
    rw [List.filter_eq_self]
    intro x hx
    obtain ⟨b,_,rfl⟩:=aA.mp hx
    simpa using e
   ·rename_i e
    rw [List.filter_eq_nil_iff]
    intro x hx
    obtain ⟨b,_,rfl⟩:=aA.mp hx
    simpa using e
  simp only [nY,List.flatMap_nil,eE,iE,aN]
  rcases hs with rfl | rfl
  ·have a0:=all 0
   have a1:=all 1
   cases h0:eW r 0 <;> cases h1:eW r 1 <;> simp only [if_true,bu,if_false,a0,a1,List.filter_nil,List.length_nil] <;> simp <;> omega
  ·have a0:=all 0
   have a1:=all 1
   cases h0:eW r 0 <;> cases h1:eW r 1 <;> simp only [if_true,bu,if_false,a0,a1,List.filter_nil,List.length_nil] <;> simp <;> omega
 ·simp
theorem By(r:Row):(aU r).length <= 16:=by
 unfold aU
 split
 ·unfold iO
  have h:=jG (r.pK.take 1)
  simp only [nY,List.flatMap_nil,eE,aN]
  have e:∀ s:Int,(if eW r s=true then (SN.dF (r.pK.take 1)).map λ b=>(s,b) else []).length <= 8:=λ s=>by split <;> simp [h]
  have h0:=e 0
  have h1:=e 1
  omega
 ·simp
theorem pP(r:Row)(ht:FZ t):(cL r t).length <= 2:=by
 cases t with
 | none=>unfold cL; dsimp only; split <;> simp
 | some p =>
  unfold cL
  dsimp only
  have:=yr r (s:=p.1) ht.1
  split
  ·simp
  ·rw [aN]
   have h1:(if p∈aU r then ([]:List HM.dw) else [some p]).length <= 1:=by split <;> simp
   have h2:(if p∈cB r then ((aU r).filter λ q=>decide (q.1=p.1)).map some else ([]:List HM.dw)).length <= 1:=by
    split
    ·rw [aq]; exact this
    ·simp
   omega
theorem BA{n:Int}(h:r.ok n)(hg:(s,b)∈aU r):0 <= b:=by
 unfold aU at hg
 split at hg
 ·have:=vo (λ b hb=>jn h b (List.take_subset _ _ hb)) hg
  have all:∀ q∈cO,0 <= q.2:=by decide
  exact all _ this
 ·exact nomatch hg
theorem gE{n:Int}(h:r.ok n)(ht:FZ t)(u:HM.dw):u∈cL r t ↔ LeftOf r t u:=by
 cases t with
 | none =>
  unfold cL LeftOf
  dsimp only
  cases r.ends none <;> simp
 | some p =>
  obtain ⟨hs,hb0,Ck⟩:=ht
  obtain ⟨s,b⟩:=p
  dsimp only at hs hb0 Ck
  unfold cL LeftOf
  dsimp only
  cases r.ends (some (s,b)) with
  | true=>simp
  | false =>
   simp only [bu,if_false,true_and]
   rw [aK]
   have e1:u∈(if (s,b)∈aU r then ([]:List HM.dw) else [some (s,b)]) ↔ (u=some (s,b) /\ r.gv s ≠ b):=by
    have mg:=d9 h hs hb0
    split
    ·rename_i e; simp [mg.mp e]
    ·rename_i e; simp [show ¬ r.gv s=b from λ z=>e (mg.mpr z)]
   have e2:u∈(if (s,b)∈cB r then ((aU r).filter λ q=>decide (q.1=s)).map some else ([]:List HM.dw)) ↔ (u=some (s,r.gv s) /\ 0 <= r.gv s /\ b∈r.rd s):=by
    have mr:=iz h hs (b:=b)
    split
    ·rename_i e
     replace e:=mr.mp e
     rw [aA]
     constructor
     ·rintro ⟨⟨s',b'⟩,hq,rfl⟩
      obtain ⟨hg,hq2⟩:=eG.mp hq
      have hq2:s'=s:=by simpa using hq2
      subst hq2
      have hb':0 <= b':=BA h hg
      have:=(d9 h hs hb').mp hg
      rw [this]
      exact ⟨rfl,hb',e⟩
     ·rintro ⟨rfl,h0,_⟩
      exact ⟨(s,r.gv s),eG.mpr ⟨(d9 h hs h0).mpr rfl,by simp⟩,rfl⟩
    ·rename_i e
     simp [show ¬ b∈r.rd s from λ z=>e (mr.mpr z)]
   rw [e1,e2]
def VV(rs:List Row)(k:Nat):HM.dw->Bool
 | none=>true
 | some p=>decide (p∈iV rs k)
theorem Ac:VV rs k t=true ↔ dw.lv rs k t:=by cases t <;> simp [VV,dw.lv]
theorem HV(h:tF (.str r.key) [.str "look", .str "out", .str "back"]=true):rW r.vals 1=some (.int (r.pK.headD 0)):=by
 cases r <;> first | rfl | (exact absurd (show tF (.str "num") [.str "look", .str "out", .str "back"]=true from h) (by decide)) | (exact absurd (show tF (.str "copy") [.str "look", .str "out", .str "back"]=true from h) (by decide)) | (exact absurd (show tF (.str "op") [.str "look", .str "out", .str "back"]=true from h) (by decide)) | (exact absurd (show tF (.str "mark") [.str "look", .str "out", .str "back"]=true from h) (by decide))
abbrev iA(H:Hp):List V->List HM.dw->Prop:=Paired λ x t=>cT H t x
theorem iA.same{ts:List HM.dw}(h:iA H vs ts)(e:aG H H'):iA H' vs ts:=cg (λ _ _ x=>cT.same x e) h
section
variable {P:Program}{w:World}{K:ay}{mg:Str->Option Value}{base:Heap}
def EZ:Sp:=λ vs H Q _=>∃ (a tk gv:Addr) (x:V) (r:Row) (n:Int) (t:HM.dw) (us ws:List V),vs=[.ref a,x,.ref tk,.ref gv] /\ H a=some (.tup r.vals) /\ r.ok n /\ cT H t x /\ FZ t /\ H tk=some (.lst us) /\ bf H us (cB r) /\ H gv=some (.lst ws) /\ bf H ws (aU r) /\
 ∀ (l:Addr) (xs:List V) (H':Hp),aG H H'->H l=none->H' l=some (.lst xs)->iA H' xs (cL r t)->Q (.ref l) H'
theorem mG(T:Txt w K mg):cJ P w K mg base ji 1 T.fL.f T.fL.d ["row", "thing", "taken", "given"] EZ:=by
 refine T.fL.F.ok ir (λ vs H Q E h=>?_) (λ cdv A outer s H vs Q E hr h=>?_)
 ·obtain ⟨a,tk,gv,x,r,n,t,us,ws,rfl,_⟩:=h
  rfl
 obtain ⟨a,tk,gv,x,r,n,t,us,ws,rfl,ha,hok,hx,ht,htk,jy,MS,hws,q⟩:=h
 have cm:=T.gZ.q
 have cs:=T.g7.q
 refine ⟨_,(ao (ia (aW (xq hr.units) (pv 1) fU (cI _))
 (aC (bB (gw (aW ic (b8 fF (pv 0) az (λ _ _=>rfl)) (gH (v:=.ref T.gZ.a) rfl T.gZ.c rfl) (by with_unfolding_all rfl)) (dZ ai) (dZ (aa fU ai)))))
 dj)
 (ao (ia (PW.pt (Ct (aW ic (b8 fF (pv 0) az (λ _ _=>rfl)) (gH (v:=.ref T.g7.a) rfl T.g7.c rfl) (by with_unfolding_all rfl)) (yH (aW oF (b8 fF (pv 0) az (λ _ _=>rfl)) (b8 fF (pv 1) az (λ _ _=>rfl)) (cI _)))))
 (aC (bB (dZ ai)))
 dj)
 (ao (aT (i:=4) ir.nd rfl (av rfl) (gw (aW (xK hr.units) (pv 1) (pv 3) (by with_unfolding_all rfl)) (dZ ai) (dZ (aa (pv 1) ai))))
 (ao (ia (aW (xK hr.units) (pv 1) (pv 2) (by with_unfolding_all rfl))
 (aC (cQ (fW cj m8 m9 jw (pv 4) (aa (f9 (bY.caps (x := "spot") (fr:=["thing"]) (ix:=[1]) (nm:=["thing"]) rfl rfl (by decide +kernel) rfl (by decide +kernel) rfl (by decide +kernel) ⟨rfl,trivial⟩ rfl (by decide +kernel) rfl ⟨⟨rfl,rfl,rfl⟩,trivial⟩) (ck (pv 3)) (λ _ _ _ _=>(l5 (aW oF (b8 (ze (K:=K) rfl) (pv 0) az (λ _ _=>rfl)) (b8 (ze (K:=K) rfl) (pv 1) az (λ _ _=>rfl)) (cI _)))) (λ _ _ _ _=>(pv 0))) ai))))
 dj)
 (aC (bB (pv 4))))))),?_⟩
 show (_:TS) (Ends.mk _ _ _ _) [_,_,_,_,_] H
 walk_at "start"
 walk_at "go"
 refine Jv hx ?_
 cases t with
 | none =>
  show AL _ (.bl true) H
  walk_at "go"
  split
  ·rename_i he
   walk_at "go"
   rename_i l H1 n1
   refine q l [] H1 n1.same n1.1 n1.self ?_
   unfold cL
   dsimp only
   rw [if_pos (show r.ends none=true from he)]
   exact .nil
  ·rename_i he
   walk_at "go"
   rename_i l H1 n1
   refine q l _ H1 n1.same n1.1 n1.self ?_
   unfold cL
   dsimp only
   rw [if_neg (show ¬ r.ends none=true from he)]
   exact .cons rfl .nil
 | some p =>
  show AL _ (.bl false) H
  obtain ⟨b,rfl,hb⟩:=hx
  have hwl:=hws.length
  have Tj:(aU r).length <= 16:=By r
  walk_at "go"
  have rest:r.ends (some p)=false->Vj [some (.ref a),some (.ref b),some (.ref tk),some (.ref gv),none] H:=by
   intro he
   have em:cL r (some p)=(if p∈aU r then [] else [some p])++if p∈cB r then ((aU r).filter λ q=>decide (q.1=p.1)).map some else []:=by
    unfold cL
    dsimp only
    rw [he]
    rfl
   refine uQ _ _ ?_
   walk_at "go"
   refine zC hb (bI.of MS) hws ?_
   by_cases hg:p∈aU r
   case' pos =>
    rw [decide_eq_true hg]
    show AL _ (.bl true) H
    walk_at "go"
    rename_i f H1 n1
    have bs:∃ vs,H1 f=some (.lst vs) /\ iA H1 vs (if p∈aU r then [] else [some p]) /\ vs.length <= 1:=⟨[],n1.self,by rw [if_pos hg]; exact .nil,aL _⟩
   case' neg =>
    rw [decide_eq_false hg]
    show AL _ (.bl false) H
    walk_at "go"
    rename_i f H1 n1
    have bs:∃ vs,H1 f=some (.lst vs) /\ iA H1 vs (if p∈aU r then [] else [some p]) /\ vs.length <= 1:=⟨[.ref b],n1.self,by rw [if_neg hg]; exact .cons ⟨b,rfl,n1.keep hb⟩ .nil,ak _⟩
   all_goals
    have s1:=n1.same
    have ff:=n1.1
    clear n1
    obtain ⟨vs,hf1,hvs,hvl⟩:=bs
    have hb1:=s1 _ _ hb
    have VW:=s1 _ _ htk
    have VX:=s1 _ _ MS
    have VY:=bf.same s1 jy
    have VZ:=bf.same s1 hws
    refine zC hb1 (bI.of VW) VY ?_
    by_cases hr:p∈cB r
    ·rw [decide_eq_true hr]
     show AL _ (.bl true) H1
     walk_at "go"
     refine gX (xs:=ws) (λ k zs H'=>H'=H1 /\ iA H1 zs ((((aU r).take k).filter λ q=>decide (q.1=p.1)).map some)) ⟨rfl,.nil⟩ ?_ ?_ ?_
     ·rintro k zs H' _ ⟨rfl,_⟩
      exact bI.of VX
     ·rintro k y zs H' hy ⟨rfl,hz⟩
      obtain ⟨t,MT,c,rfl,hc⟩:=aX VZ hy
      have E1:=hz.length
      rw [aq] at E1
      have hle:=iG (λ q:Int × Int=>decide (q.1=p.1)) ((aU r).take k)
      rw [bV] at hle
      refine ⟨cY (by omega),?_⟩
      have et:(aU r).take (k + 1)=(aU r).take k++[t]:=by rw [bW,MT]; rfl
      walk_at "go"
      ·rename_i e
       refine ⟨rfl,?_⟩
       rw [et,iE,bM,nX (by simpa using e)]
       exact bQ hz ⟨c,rfl,hc⟩
      ·rename_i e
       refine ⟨rfl,?_⟩
       rw [et,iE,bM,nW (by simpa using e)]
       simpa using hz
     ·rintro zs H' ⟨rfl,hz⟩ l H2 n2
      rw [hwl,cz] at hz
      have E1:=hz.length
      rw [aq] at E1
      have hle:=iG (λ q:Int × Int=>decide (q.1=p.1)) (aU r)
      have hf2:=n2.keep hf1
      have hl2:=n2.self
      have s2:=n2.same
      clear n2
      walk_at "go"
      rename_i H3 p3
      have s3:=p3.same (s1.trans s2) ff
      have kp:∀ {ys:List V} {ts:List HM.dw},iA H' ys ts->iA H3 ys ts:=λ h=>cg (λ v t x=>by
       cases t with
       | none=>exact x
       | some u=>obtain ⟨c,e1,e2⟩:=x; exact ⟨c,e1,p3.keep (by intro z; subst z; rw [hf1] at e2; cases e2) (s2 _ _ e2)⟩) h
      refine q f _ H3 s3 ff p3.self ?_
      rw [em,if_pos hr]
      exact gD (kp hvs) (kp hz)
    ·rw [decide_eq_false hr]
     show AL _ (.bl false) H1
     walk_at "go"
     refine q f vs H1 s1 ff hf1 ?_
     rw [em,if_neg hr,eE]
     exact hvs
  clear uQ
  cases he:tF (.str r.key) [.str "look", .str "out", .str "back"]
  ·rw [if_neg (by decide),if_neg (by decide)]
   refine qx _ (rest ?_)
   unfold Row.ends
   dsimp only
   rw [he]
   rfl
  ·rw [if_pos rfl]
   walk_at "go"
   refine C6 (gm.of ha) (HV he) ?_
   walk_at "go"
   ·rename_i e l H1 n1
    refine q l [] H1 n1.same n1.1 n1.self ?_
    have:r.ends (some p)=true:=by
     unfold Row.ends
     dsimp only
     rw [he,decide_eq_true e]
     rfl
    unfold cL
    dsimp only
    rw [this]
    exact .nil
   ·rename_i e
    refine rest ?_
    unfold Row.ends
    dsimp only
    rw [he,decide_eq_false e]
    rfl
def fQ(rs:List Row)(r:Row)(t:HM.dw)(ks:List HM.aR):Prop:=ks.Pairwise (λ x y=>HM.mq x < HM.mq y) /\ ∀ z,z∈ks ↔ dz rs r t z
def E2:Sp:=λ vs H Q _=>∃ (o th lv:Addr) (ws:List Int) (xs:List V) (ts:List HM.dw) (as:List Addr) (rs:List Row),vs=[.ref o,.ref th,.ref lv] /\ H o=some (.lst (ws.map V.int)) /\ ws.length <= 2 /\ (∀ q∈ws,0 <= q /\ q < rs.length) /\ H th=some (.lst xs) /\ iA H xs ts /\ ts.length <= 2 /\ (∀ t∈ts,FZ t) /\ (∀ t∈ts,∀ u∈ts,t.isSome=u.isSome) /\ H lv=some (.lst (as.map V.ref)) /\ as.length=rs.length /\ vq H as rs /\
 ∀ (l:Addr) (vs:List V) (ks:List HM.aR) (H':Hp),aG H H'->H l=none->H' l=some (.lst vs)->aQ H' vs ks->ks.Pairwise (λ x y=>HM.mq x < HM.mq y)->(∀ z,z∈ks ↔ z.1∈ws /\ z.2∈ts /\ dw.lv rs z.1.toNat z.2)->Q (.ref l) H'
theorem yt(T:Txt w K mg):cJ P w K mg base ji 1 T.nD.f T.nD.d ["onward", "things", "lively"] E2:=by
 refine T.nD.F.ok j5 (λ vs H Q E h=>?_) (λ cdv A outer s H vs Q E hr h=>?_)
 ·obtain ⟨o,th,lv,ws,xs,ts,as,rs,rfl,_⟩:=h
  rfl
 obtain ⟨o,th,lv,ws,xs,ts,as,rs,rfl,ho,hw2,hw,PJ,hxs,ht2,htk,hal,mS,uz,hL,q⟩:=h
 refine ⟨_,(ao (aT (i:=3) j5.nd rfl (av rfl) (dZ ai))
 (ao (dM bX rfl (ck (pv 0)) (bE (i:=4) j5.nd rfl (cC rfl))
 (aC (cQ (fW cj m8 m9 jw (pv 3) (aa (f9 (bY.caps (x := "thing") (fr:=["lively", "way"]) (ix:=[2,4]) (nm:=["way", "lively"]) rfl rfl (by decide +kernel) rfl (by decide +kernel) rfl (by decide +kernel) ⟨rfl,⟨rfl,trivial⟩⟩ rfl (by decide +kernel) rfl ⟨⟨rfl,rfl,rfl⟩,⟨⟨rfl,rfl,rfl⟩,trivial⟩⟩) (ck (pv 1)) (λ _ _ _ _=>(l5 (PW.pt (tL (aW ((GH (K:=K) rfl) hr.units) (pv 0) fU (cI _)) (rP (aW ((zB (K:=K) rfl) hr.units) (pv 0) (b8 (tZ (K:=K) rfl) (pv 1) (pv 2) (λ _ _=>rfl)) (by with_unfolding_all rfl))))))) (λ _ _ _ _=>(dY (aa (pv 2) (aa (pv 0) ai))))) ai)))))
 (aC (bB (bA (xU hr.units rfl) rfl T.pG BT.oV (aa (gn (Bc hr.units rfl) rfl T.JJ BT.C0 (aa (pv 3) ai)) ai)))))),?_⟩
 show (_:TS) (Ends.mk _ _ _ _) [_,_,_,_,_] H
 walk_at "start"
 walk_at "go"
 rename_i f H1 n1
 have ff:=n1.1
 have s1:=n1.same
 have hf1:=n1.self
 clear n1
 refine f_list (xs:=ws.map V.int) (λ i σ' H'=>(∃ y,σ'=[some (.ref o),some (.ref th),some (.ref lv),some (.ref f),y]) /\ aG H H' /\ ∃ (vs:List V) (ks:List HM.aR),H' f=some (.lst vs) /\ aQ H' vs ks /\ ks.length <= 2 * i /\ ∀ z,z∈ks ↔ z.1∈ws.take i /\ z.2∈ts /\ dw.lv rs z.1.toNat z.2) ?_ ?_ ?_ ?_
 ·exact ⟨⟨_,rfl⟩,s1,[],[],hf1,.nil,aL _,λ z=>by simp⟩
 ·rintro i σ' H' _ ⟨_,s',_⟩
  exact bI.of (s' _ _ ho)
 ·rintro i x σ' H2 hx ⟨⟨y0,rfl⟩,s2,vs,ks,hf2,hks,Cm,hmem⟩
  rw [aS] at hx
  obtain ⟨q0,NH,rfl⟩:=fB.mp hx
  obtain ⟨hq0,hq1⟩:=hw q0 (fm NH)
  have hil:=(e9 NH).1
  obtain ⟨j,rfl⟩:∃ j:Nat,q0=(j:Int):=⟨q0.toNat,by omega⟩
  obtain ⟨a,ha⟩:∃ a,as[j]? = some a:=⟨_,dB (by omega)⟩
  obtain ⟨us,jy,hps⟩:=hL j a ha
  have QD:=s2 _ _ jy
  have V0:=hps.same s2
  have MU:=s2 _ _ PJ
  have MV:=hxs.same s2
  have Q8:=s2 _ _ mS
  have Mq:=hxs.length
  have hnf:∀ {b:Addr} {o:HO},H b=some o->b ≠ f:=λ e z=>by rw [z,ff] at e; cases e
  walk_at "go"
  refine gX (xs:=xs) (λ k zs H'=>aG H2 H' /\ ∃ wG:List HM.aR,aQ H' zs wG /\ wG.length <= k /\ ∀ z,z∈wG ↔ z.1=(j:Int) /\ z.2∈ts.take k /\ dw.lv rs j z.2) ⟨aG.refl _,[],.nil,aL _,λ z=>by simp⟩ ?_ ?_ ?_
  ·rintro k zs H' _ ⟨s',_⟩
   exact bI.of (s' _ _ MU)
  ·rintro k y zs H3 hy ⟨s3,wG,hk2,V1,hm2⟩
   obtain ⟨t,MT,Zr⟩:=aX MV hy
   have MW:=cT.same Zr s3
   have hkb:=(e9 hy).1
   have E1:=hk2.length
   refine ⟨cY (by omega),?_⟩
   walk_at "go"
   refine Jv MW ?_
   have step:∀ b:Bool,VV rs j t=b->(b=true->∀ (u:Addr) (H4:Hp),eT H3 u (.tup [.int (j:Int),y]) H4->aG H2 H4 /\ ∃ wG:List HM.aR,aQ H4 (zs++[.ref u]) wG /\ wG.length <= k + 1 /\ ∀ z,z∈wG ↔ z.1=(j:Int) /\ z.2∈ts.take (k + 1) /\ dw.lv rs j z.2) /\ (b=false->aG H2 H3 /\ ∃ wG:List HM.aR,aQ H3 zs wG /\ wG.length <= k + 1 /\ ∀ z,z∈wG ↔ z.1=(j:Int) /\ z.2∈ts.take (k + 1) /\ dw.lv rs j z.2):=by
    intro b hb
    have et:ts.take (k + 1)=ts.take k++[t]:=by rw [bW,MT]; rfl
    refine ⟨λ e u H4 n4=>⟨s3.trans n4.same,wG++[((j:Int),t)],bQ (aQ.same hk2 n4.same) ⟨u,y,rfl,n4.self,cT.same MW n4.same⟩,by simp; omega,λ z=>?_⟩,λ e=>⟨s3,wG,hk2,by omega,λ z=>?_⟩⟩
    ·rw [e] at hb
     rw [aK,hm2 z,et,aK,au,au]
     constructor
     ·rintro (⟨h1,h2,h3⟩ | rfl)
      ·exact ⟨h1,.inl h2,h3⟩
      ·exact ⟨rfl,.inr rfl,Ac.mp hb⟩
     ·rintro ⟨h1,h2 | h2,h3⟩
      ·exact .inl ⟨h1,h2,h3⟩
      ·exact .inr (Prod.ext h1 h2)
    ·rw [e] at hb
     rw [hm2 z,et,aK,au]
     constructor
     ·rintro ⟨h1,h2,h3⟩
      exact ⟨h1,.inl h2,h3⟩
     ·rintro ⟨h1,h2 | h2,h3⟩
      ·exact ⟨h1,h2,h3⟩
      ·rw [h2] at h3
       rw [Ac.mpr h3] at hb
       cases hb
   cases t with
   | none =>
    show AL _ (.bl true) H3
    walk_at "go"
    rename_i u H4 n4
    exact (step true rfl).1 rfl u H4 n4
   | some p =>
    show AL _ (.bl false) H3
    obtain ⟨b,rfl,hb⟩:=MW
    have MY:=s3 _ _ Q8
    have Bu:=s3 _ _ QD
    walk_at "go"
    refine fj (bI.of MY) (v:=.ref a) (fK (by rw [aS,ha]; rfl)) ?_
    walk_at "go"
    refine zC hb (bI.of Bu) (bf.same s3 V0) ?_
    by_cases hm:p∈iV rs j
    ·rw [decide_eq_true hm]
     show AL _ (.bl true) H3
     walk_at "go"
     rename_i u H4 n4
     exact (step true (decide_eq_true hm)).1 rfl u H4 n4
    ·rw [decide_eq_false hm]
     show AL _ (.bl false) H3
     walk_at "go"
     exact (step false (decide_eq_false hm)).2 rfl
  ·rintro zs H3 ⟨s3,wG,hk2,V1,hm2⟩ l H4 n4
   have F0:=n4.keep (s3 _ _ hf2)
   have V2:=aQ.same (aQ.same hks s3) n4.same
   have E1:=hk2.length
   have hvl:=hks.length
   have XH:=n4.self
   have HW:=aQ.same hk2 n4.same
   have MZ:=(s2.trans s3).trans n4.same
   clear n4
   walk_at "go"
   rename_i H5 p5
   have s5:=p5.same MZ ff
   have sp:∀ (v:V) (k:HM.aR),aJ H4 v k->aJ H5 v k:=λ v k ⟨a1,u,e1,e2,e3⟩=>⟨a1,u,e1,p5.keep (by intro z; subst z; rw [F0] at e2; cases e2) e2,by
    revert e3
    generalize k.2=k2
    intro e3
    cases k2 with
    | none=>exact e3
    | some p=>obtain ⟨b,e4,e5⟩:=e3; exact ⟨b,e4,p5.keep (by intro z; subst z; rw [F0] at e5; cases e5) e5⟩⟩
   refine ⟨⟨_,rfl⟩,s5,_,ks++wG,p5.self,gD (cg sp V2) (cg sp HW),by simp; omega,λ z=>?_⟩
   rw [aK,hmem z,hm2 z,bW,NH,aK,Mq,cz]
   simp only [jt,au]
   constructor
   ·rintro (⟨h1,h2,h3⟩ | ⟨h1,h2,h3⟩)
    ·exact ⟨.inl h1,h2,h3⟩
    ·exact ⟨.inr h1,h2,by rw [h1]; exact h3⟩
   ·rintro ⟨h1 | h1,h2,h3⟩
    ·exact .inl ⟨h1,h2,h3⟩
    ·exact .inr ⟨h1,h2,by rw [h1] at h3; exact h3⟩
 ·rintro σ' H2 ⟨⟨y0,rfl⟩,s2,vs,ks,hf2,hks,Cm,hmem⟩
  rw [aq] at Cm hmem
  walk_at "go"
  refine Mi (bI.of hf2) hks (by omega) ?_
  intro p H3 zs n3 hz XI
  walk_at "go"
  have hin:∀ z∈zs,z.1.2∈ts:=λ z hz'=>((hmem z.1).mp ((XI _).mp (aA.mpr ⟨z,hz',rfl⟩))).2.1
  refine G2 n3.self (λ z hz'=>(hz z hz').same n3.same) (λ z hz' p hp=>?_) (λ z hz' y hy=>hal _ (hin z hz') _ (hin y hy)) ?_
  ·have:=htk _ (hin z hz')
   rw [hp] at this
   obtain ⟨h1,h2,h3⟩:=this
   omega
  ·intro l H4 Zt Zu n4 h4 m4 u4
   exact q l Zt Zu H4 ((s2.trans n3.same).trans n4.same) ((s2.trans n3.same).free n4.1) n4.self (aQ.same h4 n4.same) u4 λ z=>by
    rw [m4,XI,hmem,cz]
end
def E3(H0 H:Hp)(rs:List Row)(r:Row)(bs:List Addr)(ts:List HM.dw):Prop:=bs.length=ts.length /\ ∀ (i:Nat) (b:Addr) (t:HM.dw),bs[i]? = some b->ts[i]? = some t->H0 b=none /\ ∃ vs ks,H b=some (.lst vs) /\ aQ H vs ks /\ fQ rs r t ks
section
variable {P:Program}{w:World}{K:ay}{mg:Str->Option Value}{base:Heap}
def BB:Sp:=λ vs H Q _=>∃ (a th lv:Addr) (r:Row) (xs:List V) (ts:List HM.dw) (as:List Addr) (rs:List Row),vs=[.ref a,.ref th,.ref lv] /\ H a=some (.tup r.vals) /\ r.ok rs.length /\ H th=some (.lst xs) /\ iA H xs ts /\ ts.length <= 20 /\ (∀ t∈ts,FZ t) /\ H lv=some (.lst (as.map V.ref)) /\ as.length=rs.length /\ vq H as rs /\
 ∀ (l:Addr) (bs:List Addr) (H':Hp),aG H H'->H l=none->H' l=some (.lst (bs.map V.ref))->E3 H H' rs r bs ts->Q (.ref l) H'
theorem vt(T:Txt w K mg):cJ P w K mg base ji 4 T.lq.f T.lq.d ["row", "things", "lively"] BB:=by
 refine T.lq.F.ok gJ (λ vs H Q E h=>?_) (λ cdv A outer s H vs Q E hr h=>?_)
 ·obtain ⟨a,th,lv,r,xs,ts,as,rs,rfl,_⟩:=h
  rfl
 obtain ⟨a,th,lv,r,xs,ts,as,rs,rfl,ha,hok,PJ,hxs,XJ,hts,mS,uz,hL,q⟩:=h
 refine ⟨_,(ao (aT (i:=3) gJ.nd rfl (cC rfl) (bO T.reads (vh T) hr (aa (pv 0) ai)))
 (ao (aT (i:=4) gJ.nd rfl (cC rfl) (bO T.gives (vm T) hr (aa (pv 0) ai)))
 (ao (aT (i:=5) gJ.nd rfl (cC rfl) (bO T.lg (pJ T) hr (aa (pv 0) ai)))
 (aC (bB (f9 (bY.caps (x := "thing") (fr:=["row", "lively", "taken", "given", "onward"]) (ix:=[0,2,3,4,5]) (nm:=["taken", "row", "onward", "lively", "given"]) rfl rfl (by decide +kernel) rfl (by decide +kernel) rfl (by decide +kernel) ⟨rfl,⟨rfl,⟨rfl,⟨rfl,⟨rfl,trivial⟩⟩⟩⟩⟩ rfl (by decide +kernel) rfl ⟨⟨rfl,rfl,rfl⟩,⟨⟨rfl,rfl,rfl⟩,⟨⟨rfl,rfl,rfl⟩,⟨⟨rfl,rfl,rfl⟩,⟨⟨rfl,rfl,rfl⟩,trivial⟩⟩⟩⟩⟩) (ck (pv 1)) (λ _ _ _ _=>gW) (λ _ _ _ _=>(bO T.nD (yt T) hr (aa (pv 5) (aa (bO T.fL (mG T) hr (aa (pv 1) (aa (pv 0) (aa (pv 3) (aa (pv 4) ai))))) (aa (pv 2) ai))))))))))),?_⟩
 show (_:TS) (Ends.mk _ _ _ _) [_,_,_,_,_,_] H
 walk_at "start"
 walk_at "go"
 refine ⟨a,r,rs.length,rfl,ha,hok,λ tk us H1 s1 _ htk jy=>?_⟩
 walk_at "go"
 refine ⟨a,r,rs.length,rfl,s1 _ _ ha,hok,λ gv ws H2 s2 _ MS hws=>?_⟩
 walk_at "go"
 refine ⟨a,r,rfl,s2 _ _ (s1 _ _ ha),λ wy H3 s3 _ Zv=>?_⟩
 have F1:=s2.trans s3
 have HX:=s1.trans F1
 have V3:=F1 _ _ htk
 have Bu:=jy.same F1
 have V4:=s3 _ _ MS
 have V5:=hws.same s3
 have Zw:=HX _ _ ha
 have V6:=HX _ _ PJ
 have Q9:=hxs.same HX
 have MY:=HX _ _ mS
 have Zx:vq H3 as rs:=λ k a e=>let ⟨vs,h1,h2⟩:=hL k a e; ⟨vs,HX _ _ h1,h2.same HX⟩
 clear s1 s2 s3 F1 htk jy MS hws ha PJ hxs mS hL
 have Mq:=Q9.length
 walk_at "go"
 refine gX (xs:=xs) (λ i ys H'=>aG H3 H' /\ ∃ bs:List Addr,ys=bs.map V.ref /\ E3 H H' rs r bs (ts.take i)) ⟨aG.refl _,[],rfl,by simp,λ i b t h=>by simp at h⟩ ?_ ?_ ?_
 ·rintro i ys H' _ ⟨s',_⟩
  exact bI.of (s' _ _ V6)
 ·rintro i x ys H4 hx ⟨s4,bs,rfl,EK,vz⟩
  obtain ⟨t,hti,V7⟩:=aX Q9 hx
  have hil:=(e9 hx).1
  rw [bV] at EK
  refine ⟨cY (by rw [aq]; omega),?_⟩
  have wF:=hts t (fm hti)
  walk_at "go"
  refine ⟨a,tk,gv,x,r,rs.length,t,us,ws,rfl,s4 _ _ Zw,hok,cT.same V7 s4,wF,s4 _ _ V3,Bu.same s4,s4 _ _ V4,V5.same s4,λ PY Zy H5 s5 _ MU MV=>?_⟩
  walk_at "go"
  have NK:=s4.trans s5
  refine ⟨wy,PY,lv,r.ways,Zy,cL r t,as,rs,rfl,NK _ _ Zv,Row.pH r,λ q hq=>?_,MU,MV,pP r wF,λ u hu=>((gE hok wF u).mp hu |>.ok hok wF).1,λ u hu v hv=>?_,NK _ _ MY,uz,λ k a e=>let ⟨vs,h1,h2⟩:=Zx k a e; ⟨vs,NK _ _ h1,h2.same NK⟩,λ l Zz ZA H6 s6 fl ZC V8 u6 m6=>?_⟩
  ·exact Row.jF hok q hq
  ·rw [((gE hok wF u).mp hu |>.ok hok wF).2,((gE hok wF v).mp hv |>.ok hok wF).2]
  ·have ZD:=NK.trans s6
   refine ⟨ZD,bs++[l],by simp,by simp; omega,λ j b t' hb ht'=>?_⟩
   rcases bG j bs.length with hlt | hge
   ·rw [nZ hlt] at hb
    have hj:j < i:=by omega
    rw [lM (by omega)] at ht'
    obtain ⟨h0,vs,ks,h1,h2,h3⟩:=vz j b t' hb (by rw [lM hj]; exact ht')
    exact ⟨h0,vs,ks,(s5.trans s6) _ _ h1,aQ.same h2 (s5.trans s6),h3⟩
   ·rw [i7 hge] at hb
    have hj:j=i:=by
     have:=(e9 hb).1
     simp at this
     omega
    subst hj
    rw [lM (by omega),hti] at ht'
    cases ht'
    rw [show j - bs.length=0 by omega] at hb
    cases hb
    refine ⟨(HX.trans NK).free fl,Zz,ZA,ZC,V8,u6,λ z=>?_⟩
    rw [m6 z,gE hok wF]
    rfl
 ·rintro ys H4 ⟨s4,bs,rfl,vz⟩ l H5 n5
  rw [Mq,cz] at vz
  refine q l bs H5 ((HX.trans s4).trans n5.same) ((HX.trans s4).free n5.1) n5.self ⟨vz.1,λ i b t hb ht=>?_⟩
  obtain ⟨h0,vs,ks,h1,h2,h3⟩:=vz.2 i b t hb ht
  exact ⟨h0,vs,ks,n5.keep h1,aQ.same h2 n5.same,h3⟩
end
def cM(H:Hp)(rs:List Row)(kvs:cZ):Prop:=∀ x∈kvs,∃ (a:Addr) (vs:List V) (ks:List HM.aR) (k:Nat) (r:Row),x.2.2=.ref a /\ H a=some (.lst vs) /\ aQ H vs ks /\ x.1.1=(k:Int) /\ rs[k]? = some r /\ fQ rs r x.1.2 ks
def bF(rs:List Row)(k:Nat):List HM.dw:=(iV rs k).map some++[none]
def aH(rs:List Row)(n:Nat):List HM.aR:=(List.range n).flatMap λ k=>(bF rs k).map λ t=>((k:Int),t)
theorem cT.sQ(h:cT H t v)(hf:H f=some (.ext φ))(p:kh H f o H'):cT H' t v:=by
 cases t with
 | none=>exact h
 | some p2=>obtain ⟨b,e1,e2⟩:=h; exact ⟨b,e1,p.keep (by intro z; subst z; rw [hf] at e2; cases e2) e2⟩
theorem aJ.sQ{k:HM.aR}(h:aJ H v k)(hf:H f=some (.ext φ))(p:kh H f o H'):aJ H' v k:=by
 obtain ⟨a,u,e,h1,h2⟩:=h
 exact ⟨a,u,e,p.keep (by intro z; subst z; rw [hf] at h1; cases h1) h1,cT.sQ h2 hf p⟩
theorem cM.same(h:cM H rs kvs)(s:aG H H'):cM H' rs kvs:=λ x hx=>by
 obtain ⟨a,vs,ks,k,r,h1,h2,h3,h4⟩:=h x hx
 exact ⟨a,vs,ks,k,r,h1,s _ _ h2,aQ.same h3 s,h4⟩
theorem cM.sQ(h:cM H rs kvs)(hf:H f=some (.ext φ))(p:kh H f o H'):cM H' rs kvs:=λ x hx=>by
 obtain ⟨a,vs,ks,k,r,h1,h2,h3,h4⟩:=h x hx
 exact ⟨a,vs,ks,k,r,h1,p.keep (by intro z; subst z; rw [hf] at h2; cases h2) h2,cg (λ _ _ x=>aJ.sQ x hf p) h3,h4⟩
theorem yv(h:bf H vs ps):iA H vs (ps.map some):=by
 induction h with
 | nil=>exact .nil
 | cons h _ ih=>exact .cons h ih
theorem j7(rs:List Row)(k:Nat):(bF rs k).length <= 17:=by
 have:=vp rs k
 unfold bF
 simp
 omega
theorem mH(rs:List Row)(k:Nat):∀ t∈bF rs k,FZ t:=λ t ht=>by
 unfold bF at ht
 rcases aK.mp ht with ht | ht
 ·obtain ⟨p,hp,rfl⟩:=aA.mp ht
  have all:∀ t∈cO,(t.1=0 \/ t.1=1) /\ 0 <= t.2 /\ t.2 < 8:=by decide
  exact all p (eG.mp hp).1
 ·rw [au.mp ht]; trivial
theorem j8(rs:List Row)(n:Nat):aH rs (n + 1)=aH rs n++(bF rs n).map λ t=>((n:Int),t):=by
 unfold aH
 rw [List.range_succ,List.flatMap_append]
 simp
theorem lC(rs:List Row):∀ n,(aH rs n).length <= 17 * n
 | 0=>by simp [aH]
 | n + 1=>by
  have:=lC rs n
  have h:=j7 rs n
  rw [j8,aN,aq]
  omega
theorem rm(rs:List Row)(k:Nat):(bF rs k).Nodup:=by
 unfold bF
 rw [dJ]
 refine ⟨?_,by simp,λ x hx y hy e=>?_⟩
 ·have h:(iV rs k).Nodup:=(List.Pairwise.filter _ (show cO.Pairwise (· ≠ ·) by decide))
  exact jV.mpr (h.imp λ h e=>h (Option.some.inj e))
 ·obtain ⟨p,_,rfl⟩:=aA.mp hx
  rw [au.mp hy] at e
  cases e
theorem E4(h:(bF rs i)[j]? = some t):((i:Int),t) ∉ aH rs i++((bF rs i).take j).map (λ t=>((i:Int),t)):=by
 intro hm
 rcases aK.mp hm with hm | hm
 ·unfold aH at hm
  obtain ⟨k,hk,hz⟩:=jU.mp hm
  obtain ⟨u,_,e⟩:=aA.mp hz
  have e1:(k:Int)=(i:Int):=congrArg Prod.fst e
  have:=fT.mp hk
  omega
 ·obtain ⟨u,hu,e⟩:=aA.mp hm
  have e2:u=t:=congrArg Prod.snd e
  subst e2
  obtain ⟨m,hm,e3⟩:=List.mem_take_iff_getElem.mp hu
  have hj:=(e9 h)
  obtain ⟨hjl,ZE⟩:=hj
  have:=(lN (rm rs i)).mp (e3.trans ZE.symm)
  omega
section
variable {P:Program}{w:World}{K:ay}{mg:Str->Option Value}{base:Heap}
def BC(P:Program)(w:World):Sp:=λ vs H Q _=>∃ (c:Addr) (us:List V) (rs:List Row),vs=[.ref c] /\ H c=some (.lst us) /\ Rows H us rs /\ (∀ r∈rs,r.ok rs.length) /\ rs.length <= 200 /\
 ∀ (d:Addr) (ep:Nat) (kvs:cZ) (H':Hp),aG H H'->H d=none->H' d=some (.ext (bR P w d ep kvs))->bw H' kvs->kvs.map (·.1)=aH rs rs.length->cM H' rs kvs->Q (.ref d) H'
theorem pQ(T:Txt w K mg):cJ P w K mg base ji 5 T.lu.f T.lu.d ["code"] (BC P w):=by
 refine T.lu.F.ok di (λ vs H Q E h=>?_) (λ cdv A outer s H vs Q E hr h=>?_)
 ·obtain ⟨c,us,rs,rfl,_⟩:=h
  rfl
 obtain ⟨c,us,rs,rfl,hc,hrs,hok,hn,q⟩:=h
 refine ⟨_,(ao (aT (i:=1) di.nd rfl (av rfl) (bO T.live (HK T) hr (aa (pv 0) ai)))
 (ao (aT (i:=2) di.nd rfl (av rfl) uI)
 (ao (dM bX rfl (sy rfl T.jm (aa (pv 0) ai)) (ou (n:=2) rfl (cS (bE (i:=3) di.nd rfl (av rfl)) (cS (bE (i:=4) di.nd rfl (av rfl)) jv)))
 (ao (aT (i:=5) di.nd rfl (av rfl) (bD KZ (b8 cK (pv 1) (pv 3) (λ _ _=>rfl)) (dZ (aa fU ai))))
 (aC (dM bX rfl (Dm rfl T.JK (aa (pv 5) (aa (bO T.lq (vt T) hr (aa (pv 4) (aa (pv 5) (aa (pv 1) ai)))) ai))) (ou (n:=2) rfl (cS (bE (i:=6) di.nd rfl (av rfl)) (cS (bE (i:=7) di.nd rfl (av rfl)) jv)))
 (aC (uJ hr.units (pv 2) (dY (aa (pv 3) (aa (pv 6) ai))) (pv 7) rfl))))))
 (aC (bB (pv 2)))))),?_⟩
 show (_:TS) (Ends.mk _ _ _ _) [_,_,_,_,_,_,_,_] H
 walk_at "start"
 walk_at "go"
 refine ⟨c,us,rs,rfl,hc,hrs,hok,hn,λ lv as H1 s1 _ mS uz _ _ _ hL=>?_⟩
 walk_at "go"
 rename_i d ep H2 n2
 have fd:=(show H d=none from s1.free n2.1)
 have s2:=s1.trans n2.same
 have hd2:=n2.self
 have Q8:=n2.keep mS
 have Xa:vq H2 as rs:=λ k a e=>let ⟨vs,h1,h2⟩:=hL k a e; ⟨vs,n2.keep h1,h2.same n2.same⟩
 have ZF:=n2.1
 have s12:=n2.same
 clear n2
 have HE:=hrs.length
 refine Dq (xs:=us) (λ i σ' H'=>(∃ y3 y4 y5 y6 y7,σ'=[some (.ref c),some (.ref lv),some (.ref d),y3,y4,y5,y6,y7]) /\ aG H1 H' /\ ∃ ep kvs,H' d=some (.ext (bR P w d ep kvs)) /\ bw H' kvs /\ kvs.map (·.1)=aH rs i /\ cM H' rs kvs) ?_ ?_ ?_ ?_
 ·exact ⟨⟨_,_,_,_,_,rfl⟩,s12,ep,[],hd2,(λ x hx=>nomatch hx),rfl,λ x hx=>nomatch hx⟩
 ·rintro i σ' H' _ ⟨_,s',_⟩
  exact bI.of (s' _ _ (s1 _ _ hc))
 ·rintro i x p σ' H3 H4 hx ⟨⟨y3,y4,y5,y6,y7,rfl⟩,s3,P5,kvs,Cj,ND,em,hla⟩ n4
  obtain ⟨r,HL,a,rfl,ha⟩:=aX hrs hx
  have HY:=hok r (fm HL)
  have NL:aG H1 H4:=s3.trans n4.same
  have JT:=n4.keep Cj
  have HW:=ND.same n4.same
  have Ra:=cM.same hla n4.same
  walk_at "go"
  have hil:=(e9 HL).1
  obtain ⟨al,hal⟩:∃ a,as[i]? = some a:=⟨_,dB (by omega)⟩
  obtain ⟨ws,hws,hps⟩:=hL i al hal
  have V9:=NL _ _ hws
  have hwl:=hps.length
  have NG:=vp rs i
  clear n4 Cj ND hla
  refine fj (bI.of (NL _ _ mS)) (v:=.ref al) (fK (by rw [aS,hal]; rfl)) ?_
  walk_at "go"
  rename_i mk H5 n5 tg H6 n6
  have Rb:=n5.same.trans n6.same
  have NN:=NL.trans Rb
  have Tn:=n6.self
  have hts:iA H6 (ws++[.str "mark"]) (bF rs i):=gD (yv (hps.same NN)) (.cons rfl .nil)
  have M0:=Rb _ _ JT
  have V8:=HW.same Rb
  have Wa:=cM.same Ra Rb
  clear n5 n6 Rb JT HW Ra V9
  refine ⟨a,tg,lv,r,_,bF rs i,as,rs,rfl,NN _ _ (s1 _ _ ha),HY,Tn,hts,br (j7 rs i) (by decide),mH rs i,NN _ _ mS,uz,λ k a e=>let ⟨vs,h1,h2⟩:=hL k a e; ⟨vs,NN _ _ h1,h2.same NN⟩,λ l bs H7 s7 _ hl vz=>?_⟩
  walk_at "go"
  have Wb:=s7 _ _ M0
  have ZG:=V8.same s7
  have Wc:=cM.same Wa s7
  have Wd:=hts.same s7
  have We:=s7 _ _ Tn
  have EK:=vz.1
  have XJ:=hts.length
  have Cm:kvs.length <= 17 * rs.length:=by
   have h1:=congrArg List.length em
   rw [aq] at h1
   have h2:=lC rs i
   have h3:17 * i <= 17 * rs.length:=Nat.mul_le_mul_left _ (by omega)
   omega
  have ZH:l ≠ d:=λ z=>by rw [z,Wb] at hl; cases hl
  have htd:tg ≠ d:=λ z=>by rw [z,M0] at Tn; cases Tn
  have Rc:=j7 rs i
  refine Px (t1:=false) (t2:=false) (λ j σ' H'=>(∃ y6 y7,σ'=[some (.ref c),some (.ref lv),some (.ref d),some (.int (i:Int)),some (.ref a),some (.ref tg),y6,y7]) /\ (∀ b o,b ≠ d->H7 b=some o->H' b=some o) /\ ∃ ep kvs',H' d=some (.ext (bR P w d ep kvs')) /\ bw H' kvs' /\ kvs'.map (·.1)=aH rs i++((bF rs i).take j).map (λ t=>((i:Int),t)) /\ cM H' rs kvs') ?_ ?_ ?_ ?_
  ·exact ⟨⟨_,_,rfl⟩,λ b o _ e=>e,P5,kvs,Wb,ZG,by simpa using em,Wc⟩
  ·rintro j σ' H' _ ⟨_,k',_⟩
   exact ⟨bI.of (k' _ _ htd We),bI.of (k' _ _ ZH hl)⟩
  ·rintro j x y p σ' H8 H9 hx hy ⟨⟨y6,y7,rfl⟩,k8,XM,HZ,NO,To,NP,M3⟩ n9
   obtain ⟨t,htj,V7⟩:=aX Wd hx
   rw [aS] at hy
   obtain ⟨b,ZI,rfl⟩:=fB.mp hy
   obtain ⟨XN,ZJ,ZK,NQ,Wf,vA⟩:=vz.2 j b t ZI htj
   walk_at "go"
   rename_i tu HQ NR
   have hbd:b ≠ d:=λ z=>by rw [z,M0] at XN; cases XN
   have XO:∀ {c:Addr} {zs:List V},H7 c=some (.tup zs)->c ≠ d:=λ e z=>by rw [z,Wb] at e; cases e
   have t8:∀ {v:V} {u:HM.dw},cT H7 u v->cT H8 u v:=λ {v u} h=>by
    cases u with
    | none=>exact h
    | some q=>obtain ⟨c,e1,e2⟩:=h; exact ⟨c,e1,k8 _ _ (XO e2) e2⟩
   have h8:∀ (v:V) (k:HM.aR),aJ H7 v k->aJ H8 v k:=λ v k ⟨c,u,e1,e2,e3⟩=>⟨c,u,e1,k8 _ _ (XO e2) e2,t8 e3⟩
   have mY:=n9.same.trans NR.same
   have E5:=mY _ _ NO
   have hkey:aJ HQ (.ref tu) ((i:Int),t):=⟨tu,x,rfl,NR.self,cT.same (t8 V7) mY⟩
   have XQ:HZ.length <= 17 * i + 17:=by
    have h1:=congrArg List.length NP
    rw [aq,aN,aq,bV] at h1
    have h2:=lC rs i
    omega
   refine Eh E5 (To.same mY) hkey (by omega) ?_
   intro mK QX JU
   have hnew:((i:Int),t) ∉ HZ.map (·.1):=by
    rw [NP]
    exact E4 htj
   rw [o5 hnew] at JU
   refine ⟨⟨_,_,rfl⟩,λ b o hb e=>JU.keep hb (mY _ _ (k8 b o hb e)),mK,_,JU.self,λ z hz=>?_,?_,λ z hz=>?_⟩
   ·rcases aK.mp hz with hz | hz
    ·exact aJ.sQ ((To.same mY) z hz) E5 JU
    ·rw [au.mp hz]; exact aJ.sQ hkey E5 JU
   ·rw [bM,NP,bW,htj,bM,c8]
    rfl
   ·rcases aK.mp hz with hz | hz
    ·exact cM.sQ (cM.same M3 mY) E5 JU z hz
    ·rw [au.mp hz]
     exact ⟨b,ZJ,ZK,i,r,rfl,JU.keep hbd (mY _ _ (k8 _ _ hbd NQ)),cg (λ v k h=>aJ.sQ (aJ.same (h8 v k h) mY) E5 JU) Wf,rfl,HL,vA⟩
  ·rintro σ' H8 ⟨⟨y6,y7,rfl⟩,k8,XM,HZ,NO,To,NP,M3⟩
   rw [aq,EK,XJ,Nat.min_self,cz,<- j8] at NP
   refine EC _ _ ?_
   exact ⟨⟨_,_,_,_,_,rfl⟩,λ b o e=>k8 b o (λ z=>by subst z; rw [ZF] at e; cases e) (s7 _ _ (NN _ _ e)),XM,HZ,NO,To,NP,M3⟩
 ·rintro σ' H3 ⟨⟨y3,y4,y5,y6,y7,rfl⟩,s3,P5,kvs,Cj,ND,em,hla⟩
  rw [HE] at em
  walk_at "go"
  exact q d P5 kvs H3 (s1.trans s3) fd Cj ND em hla
end
section
variable {α:Type} [DecidableEq α]
def b9(L:α->List α)(ks:List α)(o:α):List α:=ks.flatMap λ x=>((L x).filter λ z=>decide (z=o)).map λ _=>x
def JV(L:α->List α)(F:List (α × Int)):Prop:=∀ x∈F,1 <= x.2 /\ (∀ o∈L x.1,∃ m,(o,m)∈F /\ m < x.2) /\ (x.2=1 /\ L x.1=[] \/ ∃ o∈L x.1,(o,x.2 - 1)∈F)
structure rq (ks:List α) (L:α->List α) (F:List (α × Int)):Prop where
 nd:(F.map (·.1)).Nodup
 sub:∀ x∈F,x.1∈ks
 fin:JV L F
 out:∀ h∈ks,h ∉ F.map (·.1)->∃ o∈L h,o ∉ F.map (·.1)
def jQ(L:α->List α)(G:List α)(h:α):Nat:=((L h).filter λ o=>decide (o ∉ G)).length
structure fM (ks:List α) (L:α->List α) (F:List (α × Int)) (w:α->Int) (R:List α):Prop where
 nd:(F.map (·.1)).Nodup
 sub:∀ x∈F,x.1∈ks
 fin:JV L F
 cnt:∀ h∈ks,w h=jQ L (F.map (·.1)) h
 M4:R.Nodup
 F3:∀ h,h∈R ↔ h∈ks /\ h ∉ F.map (·.1) /\ w h=0
theorem BD{L:α->List α}{G:List α}{h:α}(e:jQ L G h=0):∀ o∈L h,o∈G:=λ o ho=>nV λ n=>by
 have:o∈(L h).filter λ o=>decide (o ∉ G):=eG.mpr ⟨ho,decide_eq_true n⟩
 rw [jQ] at e
 rw [List.length_eq_zero_iff.mp e] at this
 exact nomatch this
theorem fM.done{ks:List α}{L:α->List α}{F:List (α × Int)}{w:α->Int}(v:fM ks L F w []):rq ks L F:=by
 refine ⟨v.nd,v.sub,v.fin,λ h hk hf=>nV λ n=>?_⟩
 have:h∈([]:List α):=(v.F3 h).mpr ⟨hk,hf,by
  rw [v.cnt h hk]
  have:(L h).filter (λ o=>decide (o ∉ F.map (·.1)))=[]:=List.filter_eq_nil_iff.mpr λ o ho e=>n ⟨o,ho,of_decide_eq_true e⟩
  rw [jQ,this]; rfl⟩
 exact nomatch this
theorem fM.start{ks:List α}{L:α->List α}(nd:ks.Nodup):fM ks L [] (λ h=>((L h).length:Int)) (ks.filter λ h=>decide (((L h).length:Int)=0)):=by
 refine ⟨.nil,(λ x hx=>nomatch hx),(λ x hx=>nomatch hx),λ h _=>?_,List.Pairwise.filter _ nd,λ h=>?_⟩
 ·have:(L h).filter (λ o=>decide (o ∉ List.map (·.1) ([]:List (α × Int))))=L h:=List.filter_eq_self.mpr λ o _=>by simp
  rw [jQ,this]
 ·rw [eG]
  simp
theorem E6{L:α->List α}{o x:α}:∀ {ks:List α},ks.Nodup->x∈ks->(b9 L ks o).count x=(L x).count o:=by
 intro ks
 have each:∀ y,(((L y).filter λ z=>decide (z=o)).map λ _=>y).count x=if y=x then (L x).count o else 0:=λ y=>by
  generalize hn:((L y).filter λ z=>decide (z=o))=l
  have e:l.map (λ _=>y)=List.replicate l.length y:=List.map_const'
  rw [e,List.count_replicate]
  by_cases hy:y=x
  ·subst hy
   simp only [BEq.rfl,if_true]
   rw [<- hn,List.count_eq_length_filter]
   exact congrArg List.length (List.filter_congr λ z _=>by by_cases hz:z=o <;> simp [hz])
  ·rw [if_neg hy,if_neg (by simpa using hy)]
 induction ks with
 | nil=>intro _ h; exact nomatch h
 | cons y ks ih =>
  intro nd hx
  have Sg:=fz.mp nd
  rw [b9,nY,List.count_append,each]
  by_cases hy:y=x
  ·subst hy
   rw [if_pos rfl]
   have z:(ks.flatMap λ x=>((L x).filter λ z=>decide (z=o)).map λ _=>x).count y=0:=by
    rw [List.count_eq_zero]
    intro hm
    obtain ⟨a,ha,hb⟩:=jU.mp hm
    obtain ⟨_,_,rfl⟩:=aA.mp hb
    exact Sg.1 ha
   rw [z]; rfl
  ·rw [if_neg hy,Nat.zero_add]
   exact ih Sg.2 ((aB.mp hx).resolve_left λ e=>hy e.symm)
theorem E7{L:α->List α}{ks:List α}{o x:α}:x∈b9 L ks o ↔ x∈ks /\ o∈L x:=by
 unfold b9
 rw [jU]
 constructor
 ·rintro ⟨y,hy,hx⟩
  obtain ⟨z,hz,rfl⟩:=aA.mp hx
  obtain ⟨h1,h2⟩:=eG.mp hz
  rw [of_decide_eq_true h2] at h1
  exact ⟨hy,h1⟩
 ·rintro ⟨hx,ho⟩
  exact ⟨x,hx,aA.mpr ⟨o,eG.mpr ⟨ho,by simp⟩,rfl⟩⟩
theorem BE{L:α->List α}{G:List α}{h x:α}(hG:h ∉ G):jQ L G x=jQ L (G++[h]) x + (L x).count h:=by
 unfold jQ
 induction L x with
 | nil=>rfl
 | cons o l ih =>
  by_cases e:o=h
  ·subst e
   rw [nX (by simpa using hG),nW (by simp),List.count_cons_self,dI,ih]
   omega
  ·rw [List.count_cons_of_ne e]
   by_cases g:o∈G
   ·rw [nW (by simp [g]),nW (by simp [g]),ih]
   ·rw [nX (by simp [g]),nX (by simp [g,e]),dI,dI,ih]
    omega
structure lD (ks:List α) (L:α->List α) (G:List α) (E:List α) (j:Nat) (w:α->Int) (R:List α):Prop where
 cnt:∀ x∈ks,w x=jQ L G x + ((E.drop j).count x:Nat)
 M4:R.Nodup
 F3:∀ x,x∈R ↔ x∈ks /\ x ∉ G /\ w x=0
theorem fM.pop{ks:List α}{L:α->List α}{F:List (α × Int)}{w:α->Int}{R:List α}{h:α}(nd:ks.Nodup)(v:fM ks L F w (R++[h])):
  h∈ks /\ h ∉ F.map (·.1) /\ (∀ o∈L h,o∈F.map (·.1)) /\ lD ks L (F.map (·.1)++[h]) (b9 L ks h) 0 w R:=by
 obtain ⟨h1,h2,h3⟩:=(v.F3 h).mp (by simp)
 have h4:=v.cnt h h1
 refine ⟨h1,h2,BD (by omega),λ x hx=>?_,(dJ.mp v.M4).1,λ x=>?_⟩
 ·rw [v.cnt x hx,List.drop_zero,E6 nd hx,BE h2]; simp
 ·have hR:h ∉ R:=λ z=>(dJ.mp v.M4).2.2 h z h (by simp) rfl
  have:=v.F3 x
  rw [aK,au] at this ⊢
  constructor
  ·intro hx
   obtain ⟨a,b,c⟩:=this.mp (.inl hx)
   exact ⟨a,λ z=>z.elim b λ e=>hR (e ▸ hx),c⟩
  ·rintro ⟨a,b,c⟩
   exact (this.mpr ⟨a,λ z=>b (.inl z),c⟩).resolve_right λ e=>b (.inr e)
def pR{β:Type}(w:α->β)(x:α)(n:β):α->β:=λ y=>if y=x then n else w y
theorem lD.next{ks:List α}{L:α->List α}{G:List α}{h:α}{w:α->Int}{R:List α}{x:α}(v:lD ks L (G++[h]) (b9 L ks h) j w R)
  (cl:∀ y∈ks,y∈G->∀ o∈L y,o∈G)(hG:h ∉ G)(hL:∀ o∈L h,o∈G)(hx:(b9 L ks h)[j]? = some x):
  1 <= w x /\ x∈ks /\ (w x - 1=0->lD ks L (G++[h]) (b9 L ks h) (j + 1) (pR w x (w x - 1)) (R++[x])) /\ (w x - 1 ≠ 0->lD ks L (G++[h]) (b9 L ks h) (j + 1) (pR w x (w x - 1)) R):=by
 obtain ⟨hk,hh⟩:=E7.mp (fm hx)
 obtain ⟨hj,ej⟩:=e9 hx
 have c:=v.cnt x hk
 have ed:∀ y,((b9 L ks h).drop j).count y=((b9 L ks h).drop (j + 1)).count y + if x=y then 1 else 0:=λ y=>by
  rw [List.drop_eq_getElem_cons hj,ej,List.count_cons]
  by_cases e:x=y <;> simp [e]
 have hw:1 <= w x:=by
  have:=ed x
  rw [if_pos rfl] at this
  omega
 have xG:x ∉ G++[h]:=λ z=>by
  rcases aK.mp z with z | z
  ·exact hG (cl x hk z h hh)
  ·rw [au.mp z] at hh
   exact hG (hL h hh)
 have cnt:∀ y∈ks,pR w x (w x - 1) y=jQ L (G++[h]) y + (((b9 L ks h).drop (j + 1)).count y:Nat):=λ y hy=>by
  have c:=v.cnt y hy
  have e:=ed y
  unfold pR
  by_cases hyx:y=x
  ·subst hyx
   rw [if_pos rfl] at e ⊢
   omega
  ·rw [if_neg λ z=>hyx z.symm] at e
   rw [if_neg hyx]
   omega
 have xR:x ∉ R:=λ z=>by
  have:=((v.F3 x).mp z).2.2
  omega
 refine ⟨hw,hk,λ e0=>⟨cnt,?_,λ y=>?_⟩,λ e0=>⟨cnt,v.M4,λ y=>?_⟩⟩
 ·rw [dJ]
  exact ⟨v.M4,by simp,λ a ha b hb e=>xR (by rw [au.mp hb] at e; exact e ▸ ha)⟩
 ·rw [aK,au]
  unfold pR
  by_cases hyx:y=x
  ·subst hyx
   rw [if_pos rfl]
   exact ⟨λ _=>⟨hk,xG,e0⟩,λ _=>.inr rfl⟩
  ·rw [if_neg hyx]
   exact ⟨λ z=>(v.F3 y).mp (z.resolve_right hyx),λ z=>.inl ((v.F3 y).mpr z)⟩
 ·unfold pR
  by_cases hyx:y=x
  ·subst hyx
   rw [if_pos rfl]
   exact ⟨λ z=>absurd z xR,λ z=>absurd z.2.2 e0⟩
  ·rw [if_neg hyx]
   exact v.F3 y
theorem lD.end{ks:List α}{L:α->List α}{F:List (α × Int)}{h:α}{m:Int}{w0 w:α->Int}{R0 R E:List α}(v0:fM ks L F w0 R0)(v:lD ks L (F.map (·.1)++[h]) E E.length w R)(hk:h∈ks)(hF:h ∉ F.map (·.1))(hL:∀ o∈L h,o∈F.map (·.1))(e:n=1 + m)
  (h0:L h=[]->m=0)(h1:L h ≠ []->(∃ o∈L h,(o,m)∈F) /\ ∀ o∈L h,∀ k,(o,k)∈F->k <= m):fM ks L (F++[(h,n)]) w R:=by
 have em:(F++[(h,n)]).map (·.1)=F.map (·.1)++[h]:=by simp
 have up:∀ o k,(o,k)∈F->(o,k)∈F++[(h,n)]:=λ o k z=>gR _ z
 refine ⟨?_,λ x hx=>?_,λ x hx=>?_,λ x hx=>?_,v.M4,?_⟩
 ·rw [em,dJ]
  exact ⟨v0.nd,by simp,λ a ha b hb z=>hF (by rw [au.mp hb] at z; exact z ▸ ha)⟩
 ·rcases aK.mp hx with z | z
  ·exact v0.sub x z
  ·rw [au.mp z]; exact hk
 ·rcases aK.mp hx with z | z
  ·obtain ⟨a,b,c⟩:=v0.fin x z
   refine ⟨a,λ o ho=>let ⟨k,c,d⟩:=b o ho; ⟨k,up _ _ c,d⟩,c.imp_right λ ⟨o,ho,c⟩=>⟨o,ho,up _ _ c⟩⟩
  ·rw [au.mp z]
   dsimp only
   by_cases hn:L h=[]
   ·have:=h0 hn
    rw [hn]
    exact ⟨by omega,(λ o ho=>nomatch ho),.inl ⟨by omega,rfl⟩⟩
   ·obtain ⟨⟨o,ho,hm⟩,hle⟩:=h1 hn
    have:=(v0.fin _ hm).1
    dsimp only at this
    refine ⟨by omega,λ o ho=>?_,.inr ⟨o,ho,?_⟩⟩
    ·obtain ⟨⟨_,k⟩,hx,rfl⟩:=aA.mp (hL o ho)
     have:=hle _ ho k hx
     exact ⟨k,up _ _ hx,by omega⟩
    ·rw [show n - 1=m by omega]
     exact up _ _ hm
 ·rw [em,v.cnt x hx,List.drop_length]; simp
 ·rw [em]; exact v.F3
theorem jH{β:Type}:∀ {F:List (α × β)} {o:α} {a b:β},(F.map (·.1)).Nodup->(o,a)∈F->(o,b)∈F->a=b
 | [],_,_,_,_,h,_=>nomatch h
 | x :: F,o,a,b,nd,ha,hb=>by
  rw [bq,fz] at nd
  rcases aB.mp ha with e1 | h1 <;> rcases aB.mp hb with e2 | h2
  ·exact congrArg Prod.snd (e1.trans e2.symm)
  ·exact absurd (by rw [<- e1]; exact aA.mpr ⟨_,h2,rfl⟩) nd.1
  ·exact absurd (by rw [<- e2]; exact aA.mpr ⟨_,h1,rfl⟩) nd.1
  ·exact jH nd.2 h1 h2
end
def mZ(H H':Hp):Prop:=∀ b vs,H b=some (.tup vs)->H' b=some (.tup vs)
theorem mZ.trans{H1 H2:Hp}(a:mZ H H1)(b:mZ H1 H2):mZ H H2:=λ c vs h=>b c vs (a c vs h)
theorem eX{xs:List V}(hf:H f=some (.lst xs))(p:kh H f o H'):mZ H H':=λ b vs h=>p.keep (by intro z; subst z; rw [hf] at h; cases h) h
theorem pS(hf:H f=some (.ext φ))(p:kh H f o H'):mZ H H':=λ b vs h=>p.keep (by intro z; subst z; rw [hf] at h; cases h) h
theorem cT.tups(h:cT H t v)(s:mZ H H'):cT H' t v:=by
 cases t with
 | none=>exact h
 | some p2=>obtain ⟨b,e1,e2⟩:=h; exact ⟨b,e1,s _ _ e2⟩
theorem aJ.tups{k:HM.aR}(h:aJ H v k)(s:mZ H H'):aJ H' v k:=by
 obtain ⟨a,u,e,h1,h2⟩:=h
 exact ⟨a,u,e,s _ _ h1,cT.tups h2 s⟩
theorem aQ.tups(h:aQ H vs ks)(s:mZ H H'):aQ H' vs ks:=cg (λ _ _ x=>aJ.tups x s) h
theorem bw.tups(h:bw H kvs)(s:mZ H H'):bw H' kvs:=λ x hx=>aJ.tups (h x hx) s
def cG(H:Hp)(kvs:cZ)(L:HM.aR->List HM.aR):Prop:=∀ x∈kvs,∃ a vs,x.2.2=V.ref a /\ H a=some (.lst vs) /\ aQ H vs (L x.1)
theorem cG.same(h:cG H kvs L)(s:aG H H'):cG H' kvs L:=λ x hx=>let ⟨a,vs,h1,h2,h3⟩:=h x hx; ⟨a,vs,h1,s _ _ h2,aQ.same h3 s⟩
theorem cG.sQ(h:cG H kvs L)(hf:H f=some (.ext φ))(p:kh H f o H'):cG H' kvs L:=λ x hx=>let ⟨a,vs,h1,h2,h3⟩:=h x hx; ⟨a,vs,h1,p.keep (by intro z; subst z; rw [hf] at h2; cases h2) h2,aQ.tups h3 (pS hf p)⟩
theorem pT:∀ {kvs:cZ} {x:HM.aR × Addr × V},(kvs.map (·.1)).Nodup->x∈kvs->fO kvs x.1=some x.2.2
 | [],_,_,hx=>nomatch hx
 | y :: kvs,x,nd,hx=>by
  rw [bq,fz] at nd
  unfold fO
  rw [fu]
  rcases aB.mp hx with rfl | hx
  ·simp
  ·have ne:¬ y.1=x.1:=λ e=>nd.1 (e ▸ lP hx)
   rw [decide_eq_false ne]
   exact pT nd.2 hx
theorem nG{k:HM.aR}(nd:(kvs.map (·.1)).Nodup)(hk:k∈kvs.map (·.1)):∃ x∈kvs,x.1=k /\ fO kvs k=some x.2.2:=by
 obtain ⟨x,hx,rfl⟩:=aA.mp hk
 exact ⟨x,hx,rfl,pT nd hx⟩
def gh(ks:List HM.aR)(L:HM.aR->List HM.aR):Prop:=ks.Nodup /\ ks.length <= 4000 /\ ∀ k∈ks,(L k).length <= 4 /\ ∀ o∈L k,o∈ks
theorem vB(L:HM.aR->List HM.aR)(o:HM.aR):∀ ks:List HM.aR,(∀ k∈ks,(L k).length <= 4)->(b9 L ks o).length <= 4 * ks.length
 | [],_=>by simp [b9]
 | k :: ks,h=>by
  have h1:=vB L o ks λ k hk=>h k (cu _ hk)
  have h2:=h k (by simp)
  have h3:=iG (λ z=>decide (z=o)) (L k)
  unfold b9 at h1 ⊢
  rw [nY,aN,aq,dI]
  omega
def yw(H0 H:Hp)(kvs:cZ)(L:HM.aR->List HM.aR):Prop:=(kvs.map (·.2.2)).Nodup /\ ∀ x∈kvs,∃ a vs,x.2.2=V.ref a /\ H0 a=none /\ H a=some (.lst vs) /\ aQ H vs (L x.1)
theorem yw.same{H0:Hp}(h:yw H0 H kvs L)(s:aG H H'):yw H0 H' kvs L:=⟨h.1,λ x hx=>let ⟨a,vs,h1,h0,h2,h3⟩:=h.2 x hx; ⟨a,vs,h1,h0,s _ _ h2,aQ.same h3 s⟩⟩
theorem yx:∀ {kvs:cZ} {x y:HM.aR × Addr × V},(kvs.map (·.2.2)).Nodup->x∈kvs->y∈kvs->x.2.2=y.2.2->x=y
 | [],_,_,_,hx,_,_=>nomatch hx
 | z :: kvs,x,y,nd,hx,hy,e=>by
  rw [bq,fz] at nd
  rcases aB.mp hx with e1 | h1 <;> rcases aB.mp hy with e2 | h2
  ·rw [e1,e2]
  ·exact absurd (by rw [<- e1,e]; exact lP h2) nd.1
  ·exact absurd (by rw [<- e2,<- e]; exact lP h1) nd.1
  ·exact yx nd.2 h1 h2 e
section
variable {P:Program}{w:World}{K:ay}{mg:Str->Option Value}{base:Heap}
def E8(P:Program)(w:World):Sp:=λ vs H Q _=>∃ (d:Addr) (ep:Nat) (kvs:cZ) (L:HM.aR->List HM.aR),vs=[.ref d] /\ H d=some (.ext (bR P w d ep kvs)) /\ bw H kvs /\ cG H kvs L /\ gh (kvs.map (·.1)) L /\
 ∀ (d':Addr) (mK:Nat) (kvs':cZ) (H':Hp),aG H H'->H d'=none->H' d'=some (.ext (bR P w d' mK kvs'))->bw H' kvs'->kvs'.map (·.1)=kvs.map (·.1)->cG H' kvs' (b9 L (kvs.map (·.1)))->Q (.ref d') H'
theorem BF(T:Txt w K mg):cJ P w K mg base ji 1 T.turned.f T.turned.d ["later"] (E8 P w):=by
 refine T.turned.F.ok jC (λ vs H Q E h=>?_) (λ cdv A outer s H vs Q E hr h=>?_)
 ·obtain ⟨d,ep,kvs,L,rfl,_⟩:=h
  rfl
 obtain ⟨d,ep,kvs,L,rfl,hd,hk,hl,⟨nd,hn,hL⟩,q⟩:=h
 rw [aq] at hn
 refine ⟨_,(ao (aT (i:=1) jC.nd rfl (av rfl) (gn (o7 hr.units rfl) rfl T.yh BT.wZ (aa (f9 (bY.plain rfl (by decide +kernel) (by decide +kernel) rfl (by decide +kernel) rfl) (kN (pv 0)) (λ _ _ _ _=>gW) (λ _ _ _ _=>(dY (aa (pv 0) (aa (dZ ai) ai))))) ai)))
 (ao (dM bX rfl (kN (pv 0)) (bE (i:=2) jC.nd rfl (av rfl))
 (aC (dM bX rfl (ck (gA hr.units (pv 0) (pv 2) (λ _ _=>rfl))) (bE (i:=3) jC.nd rfl (av rfl))
 (aC (cQ (fW cj eL eN cN (gA hr.units (pv 1) (pv 3) (λ _ _=>rfl)) (aa (pv 2) ai)))))))
 (aC (bB (pv 1))))),?_⟩
 show (_:TS) (Ends.mk _ _ _ _) [_,_,_,_] H
 walk_at "start"
 walk_at "go"
 refine sH (kvs:=kvs) (λ i ys H'=>aG H H' /\ ∃ ps:cZ,ps.map (·.1)=(kvs.take i).map (·.1) /\ kO H' ys ps /\ yw H H' ps λ _=>[]) ⟨aG.refl _,[],by simp,.nil,.nil,λ x hx=>nomatch hx⟩ ?_ ?_ ?_
 ·rintro i ys H' _ ⟨s',_⟩
  exact s' _ _ hd
 ·rintro i e ys H1 he ⟨s1,ps,JW,hps,own⟩
  have hil:=(e9 he).1
  have hpl:=hps.length
  have h2:=congrArg List.length JW
  rw [aq,aq,bV] at h2
  refine ⟨cY (by omega),?_⟩
  walk_at "go"
  rename_i a H2 n2 t H3 n3
  have s3:=n2.same.trans n3.same
  refine ⟨s1.trans s3,ps++[(e.1,e.2.1,.ref a)],?_,bQ (cg (λ u p ⟨t,h1,h2,h3⟩=>⟨t,h1,s3 _ _ h2,aJ.same h3 s3⟩) hps) ⟨t,rfl,n3.self,aJ.same (hk e (fm he)) (s1.trans s3)⟩,?_,λ x hx=>?_⟩
  ·rw [bM,JW,bW,he,bM]; rfl
  ·rw [bM,dJ]
   refine ⟨own.1,by simp,λ x hx y hy e=>?_⟩
   obtain ⟨z,hz,rfl⟩:=aA.mp hx
   obtain ⟨b,vs,h1,_,h3,_⟩:=own.2 z hz
   rw [List.map_singleton,au] at hy
   subst hy
   rw [h1] at e
   cases e
   rw [n2.1] at h3
   cases h3
  ·rcases aK.mp hx with hx | hx
   ·exact (yw.same own s3).2 x hx
   ·rw [au.mp hx]
    exact ⟨a,[],rfl,s1.free n2.1,n3.keep n2.self,.nil⟩
 rintro ys H1 ⟨s1,ps,JW,hps,own⟩ l H2 n2
 rw [cz] at JW
 walk_at "go"
 refine zH (bI.of n2.self) (cg (λ u p ⟨t,h1,h2,h3⟩=>⟨t,h1,n2.keep h2,aJ.same h3 n2.same⟩) hps) (by rw [JW]; exact nd) ?_
 intro f A0 H3 n3
 have Tp:=n2.same.trans n3.same
 have s3:=s1.trans Tp
 have ff:H f=none:=(s1.trans n2.same).free n3.1
 have hf:=n3.self
 have Wg:=own.same Tp
 have hpk:bw H3 ps:=λ x hx=>by
  obtain ⟨i,hi,rfl⟩:=lO.mp hx
  obtain ⟨t,_,_,h⟩:=o6 hps hi
  rw [iR,dB hi] at h
  exact aJ.same h Tp
 clear n2 n3 Tp own hps s1
 have XR:(ps.map (·.1)).Nodup:=by rw [JW]; exact nd
 have e0:∀ o,b9 L [] o=[]:=λ o=>rfl
 walk_at "go"
 refine G3 (λ i σ' H'=>(∃ y z,σ'=[some (.ref d),some (.ref f),y,z]) /\ aG H H' /\ H' f=some (.ext (bR P w f A0 ps)) /\ bw H' ps /\ yw H H' ps (b9 L ((kvs.map (·.1)).take i))) ?_ ?_ ?_ ?_
 ·exact ⟨⟨_,_,rfl⟩,s3,hf,hpk,by rw [List.take_zero]; exact Wg⟩
 ·rintro i σ' H' _ ⟨_,s',_⟩
  exact s' _ _ hd
 ·rintro i e σ' H4 he ⟨⟨y,z,rfl⟩,s4,F0,M5,Ie⟩
  have hem:=fm he
  obtain ⟨a,vs,ea,ha,hvs⟩:=hl e hem
  have hil:=(e9 he).1
  have hLe:=hL e.1 (lP hem)
  have hvl:=hvs.length
  walk_at "go"
  refine jO (s4 _ _ hd) (hk.same s4) (aJ.same (hk e hem) s4) ((pT nd hem).trans (congrArg some ea)) ?_
  walk_at "go"
  refine f_list (xs:=vs) (λ j σ' H'=>(∃ z,σ'=[some (.ref d),some (.ref f),some (.ref e.2.1),z]) /\ aG H H' /\ H' f=some (.ext (bR P w f A0 ps)) /\ bw H' ps /\ yw H H' ps (λ o=>b9 L ((kvs.map (·.1)).take i) o++(((L e.1).take j).filter λ z=>decide (z=o)).map λ _=>e.1)) ?_ ?_ ?_ ?_
  ·refine ⟨⟨_,rfl⟩,s4,F0,M5,?_⟩
   simpa using Ie
  ·rintro j σ' H' _ ⟨_,s',_⟩
   exact bI.of (s' _ _ ha)
  ·rintro j x σ' H5 hx ⟨⟨z,rfl⟩,s5,ER,Ig,yy⟩
   obtain ⟨o,ho,XS⟩:=aX hvs hx
   have ZL:=hLe.2 o (fm ho)
   obtain ⟨p,hp,rfl,Tq⟩:=nG XR (by rw [JW]; exact ZL)
   obtain ⟨b,bs,eb,fb,hb,vz⟩:=yy.2 p hp
   have Wh:=aJ.same XS s5
   obtain ⟨xa,xu,rfl,hxa,hxu⟩:=XS
   have EK:bs.length < 1000000:=by
    have h1:=vz.length
    have h2:=vB L p.1 ((kvs.map (·.1)).take i) λ k hk=>(hL k (List.take_subset _ _ hk)).1
    have h3:=iG (λ z=>decide (z=p.1)) ((L e.1).take j)
    rw [aN,aq] at h1
    rw [bV,aq] at h2
    rw [bV] at h3
    omega
   walk_at "go"
   refine jO ER Ig Wh (Tq.trans (congrArg some eb)) ?_
   walk_at "go"
   rename_i H6 p6
   have ZM:f ≠ b:=λ z=>by rw [z,hb] at ER; cases ER
   have t6:=eX hb p6
   refine ⟨⟨_,rfl⟩,p6.same s5 fb,p6.keep ZM ER,bw.tups Ig t6,yy.1,λ x hx=>?_⟩
   by_cases Wi:x=p
   ·subst Wi
    refine ⟨b,_,eb,fb,p6.self,?_⟩
    dsimp only
    rw [bW,ho,iE,bM,<- c8]
    have e1:List.filter (λ z=>decide (z=x.1)) (some x.1).toList=[x.1]:=by simp
    rw [e1]
    exact bQ (aQ.tups vz t6) (aJ.tups (aJ.same (hk e hem) s5) t6)
   ·obtain ⟨c,cs,ec,fc,hc,hcs⟩:=yy.2 x hx
    refine ⟨c,cs,ec,fc,p6.keep (λ z=>Wi (yx yy.1 hx hp (by rw [ec,eb,z]))) hc,?_⟩
    have hne:¬ p.1=x.1:=λ z=>by
     have h1:=pT XR hx
     rw [<- z,Tq] at h1
     exact Wi (yx yy.1 hx hp (Option.some.inj h1).symm)
    dsimp only
    rw [bW,ho,iE,bM]
    have e1:List.filter (λ z=>decide (z=x.1)) (some p.1).toList=[]:=by simp [hne]
    rw [e1,List.map_nil,eE]
    exact aQ.tups hcs t6
  ·rintro σ' H5 ⟨⟨z,rfl⟩,s5,ER,Ig,yy⟩
   refine ⟨⟨_,_,rfl⟩,s5,ER,Ig,?_⟩
   have e1:(λ o=>b9 L ((kvs.map (·.1)).take i) o++(((L e.1).take vs.length).filter λ z=>decide (z=o)).map λ _=>e.1)=b9 L ((kvs.map (·.1)).take (i + 1)):=by
    funext o
    rw [hvl,cz,bW,aS,he]
    unfold b9
    rw [List.flatMap_append]
    simp
   rw [<- e1]
   exact yy
 ·rintro σ' H4 ⟨⟨y,z,rfl⟩,s4,F0,M5,Ie⟩
  rw [<- aq (f:=λ x:HM.aR × Addr × V=>x.1),cz] at Ie
  walk_at "go"
  exact q f A0 ps H4 s4 ff F0 M5 JW λ x hx=>let ⟨a,vs,h1,_,h2,h3⟩:=Ie.2 x hx; ⟨a,vs,h1,h2,h3⟩
end
def eY(kvs:cZ)(F:List (HM.aR × Int)):Prop:=kvs.map (λ x=>(x.1,x.2.2))=F.map λ p=>(p.1,V.int p.2)
theorem eY.keys(e:eY kvs F):kvs.map (·.1)=F.map (·.1):=by
 have h:=congrArg (List.map (·.1)) e
 rw [eF,eF] at h
 exact h
theorem pU:∀ {kvs:cZ} {F:List (HM.aR × Int)},eY kvs F->∀ {o:HM.aR},o∈F.map (·.1)->∃ n,(o,n)∈F /\ fO kvs o=some (.int n)
 | [],[],_,_,ho=>nomatch ho
 | [],_ :: _,e,_,_=>nomatch e
 | _ :: _,[],e,_,_=>nomatch e
 | x :: kvs,y :: F,e,o,ho=>by
  unfold eY at e
  rw [bq,bq] at e
  obtain ⟨e1,e2⟩:=List.cons.inj e
  have a1:x.1=y.1:=congrArg Prod.fst e1
  have a2:x.2.2=V.int y.2:=congrArg Prod.snd e1
  unfold fO
  rw [fu]
  by_cases h:x.1=o
  ·rw [decide_eq_true h]
   exact ⟨y.2,by rw [<- h,a1]; simp,congrArg some a2⟩
  ·rw [decide_eq_false h]
   rw [bq] at ho
   obtain ⟨n,h1,h2⟩:=pU (kvs:=kvs) (F:=F) e2 ((aB.mp ho).resolve_left λ z=>h (a1.trans z.symm))
   exact ⟨n,cu _ h1,h2⟩
theorem E9{k:HM.aR}(e:eY kvs F)(hk:k ∉ F.map (·.1)):ig kvs k a (.int n)=kvs++[(k,a,.int n)] /\ eY (kvs++[(k,a,.int n)]) (F++[(k,n)]):=by
 refine ⟨o5 (by rw [e.keys]; exact hk),?_⟩
 unfold eY at e ⊢
 rw [bM,bM,e]
 rfl
theorem lE:∀ {kvs:cZ} {k:HM.aR},k∈kvs.map (·.1)->(fO kvs k).isSome=true
 | [],_,h=>nomatch h
 | x :: kvs,k,h=>by
  unfold fO
  rw [fu]
  by_cases e:x.1=k
  ·rw [decide_eq_true e]; rfl
  ·rw [decide_eq_false e]
   exact lE (kvs:=kvs) ((aB.mp h).resolve_left λ z=>e z.symm)
def FnAt(kvs:cZ)(ks:List HM.aR)(g:HM.aR->Int):Prop:=kvs.map (·.1)=ks /\ ∀ x∈kvs,x.2.2=V.int (g x.1)
theorem FnAt.val{g:HM.aR->Int}(h:FnAt kvs ks g){k:HM.aR}(hk:k∈ks):fO kvs k=some (.int (g k)):=by
 have:=lE (kvs:=kvs) (k:=k) (by rw [h.1]; exact hk)
 unfold fO at this ⊢
 cases e:kvs.find? (λ x=>decide (x.1=k)) with
 | none=>rw [e] at this; cases this
 | some x =>
  have h1:=h.2 x (List.mem_of_find?_eq_some e)
  have h2:=List.find?_some e
  rw [of_decide_eq_true h2] at h1
  exact congrArg some h1
theorem FnAt.put{g:HM.aR->Int}(h:FnAt kvs ks g){k:HM.aR}(hk:k∈ks):FnAt (ig kvs k a (.int n)) ks (pR g k n):=by
 unfold ig
 rw [if_pos (lE (by rw [h.1]; exact hk))]
 constructor
 ·rw [eF,<- h.1]
  apply List.map_congr_left
  intro x _
  show (if x.1=k then (x.1,x.2.1,V.int n) else x).1=x.1
  split <;> rfl
 ·intro y hy
  obtain ⟨x,hx,rfl⟩:=aA.mp hy
  unfold pR
  split
  ·rfl
  ·exact h.2 x hx
theorem Fb{k:HM.aR}(h:bw H kvs)(hk:k∈kvs.map (·.1)):bw H (ig kvs k a v):=by
 unfold ig
 rw [if_pos (lE hk)]
 intro y hy
 obtain ⟨x,hx,rfl⟩:=aA.mp hy
 split
 ·exact h x hx
 ·exact h x hx
theorem fR{α β:Type}{F:α->β->Prop}:∀ {xs:List α} {ys:List β},Paired F xs ys->∀ {i:Nat} {y:β},ys[i]? = some y->∃ x,xs[i]? = some x /\ F x y
 | _,_,.nil,i,x,h=>by simp at h
 | _,_,.cons a t,0,x,h=>by simp at h; subst h; exact ⟨_,rfl,a⟩
 | _,_,.cons a t,i + 1,x,h=>fR t (by simpa using h)
theorem mV{α β:Type}{F:α->β->Prop}:∀ {xs:List α} {x:α} {ys:List β},Paired F (xs++[x]) ys->∃ Tr y,ys=Tr++[y] /\ Paired F xs Tr /\ F x y
 | [],_,_,.cons h .nil=>⟨[],_,rfl,.nil,h⟩
 | _ :: _,_,_,.cons h t=>by
  obtain ⟨Tr,y,rfl,h1,h2⟩:=mV t
  exact ⟨_ :: Tr,y,rfl,.cons h h1,h2⟩
section
variable {P:Program}{w:World}{K:ay}{mg:Str->Option Value}{base:Heap}
def Ih(P:Program)(w:World):Sp:=λ vs H Q _=>∃ (d:Addr) (ep:Nat) (kvs:cZ) (L:HM.aR->List HM.aR),vs=[.ref d] /\ H d=some (.ext (bR P w d ep kvs)) /\ bw H kvs /\ cG H kvs L /\ gh (kvs.map (·.1)) L /\
 ∀ (d':Addr) (mK:Nat) (kvs':cZ) (F:List (HM.aR × Int)) (H':Hp),aG H H'->H d'=none->H' d'=some (.ext (bR P w d' mK kvs'))->bw H' kvs'->eY kvs' F->rq (kvs.map (·.1)) L F->Q (.ref d') H'
theorem Fc(T:Txt w K mg):cJ P w K mg base ji 2 T.ended.f T.ended.d ["later"] (Ih P w):=by
 refine T.ended.F.ok gC (λ vs H Q E h=>?_) (λ cdv A outer s H vs Q E hr h=>?_)
 ·obtain ⟨d,ep,kvs,L,rfl,_⟩:=h
  rfl
 obtain ⟨d,ep,kvs,L,rfl,hd,hk,hl,hok,q⟩:=h
 refine ⟨_,(ao (aT (i:=1) gC.nd rfl (av rfl) (bO T.turned (BF T) hr (aa (pv 0) ai)))
 (ao (aT (i:=2) gC.nd rfl (cC rfl) (gn (o7 hr.units rfl) rfl T.yh BT.wZ (aa (f9 (bY.caps (x := "harm") (fr:=["later"]) (ix:=[0]) (nm:=["later"]) rfl rfl (by decide +kernel) rfl (by decide +kernel) rfl (by decide +kernel) ⟨rfl,trivial⟩ rfl (by decide +kernel) rfl ⟨⟨rfl,rfl,rfl⟩,trivial⟩) (kN (pv 0)) (λ _ _ _ _=>gW) (λ _ _ _ _=>(dY (aa (pv 0) (aa (bA (xr (K:=K) rfl) rfl T.fZ BT.fX (aa (mz (P:=P) (w:=w) rfl rfl hr.units (pv 1) (pv 0) (λ _ _=>rfl)) ai)) ai))))) ai)))
 (ao (kD (i:=3) gC.nd rfl (av rfl) (bY.caps (x := "harm") (fr:=["waiting"]) (ix:=[2]) (nm:=["waiting"]) rfl rfl (by decide +kernel) rfl (by decide +kernel) rfl (by decide +kernel) ⟨rfl,trivial⟩ rfl (by decide +kernel) rfl ⟨⟨rfl,rfl,rfl⟩,trivial⟩) (kN (pv 0)) (λ _ _ _ _=>(l5 (aW oF (mz (P:=P) (w:=w) rfl rfl hr.units (pv 1) (pv 0) (λ _ _=>rfl)) az (cI _)))) (λ _ _ _ _=>(pv 0)))
 (ao (aT (i:=4) gC.nd rfl (cC rfl) uI)
 (ao (oz bX (l6 (pv 3) (λ _=>rfl))
 (ao (aT (i:=5) gC.nd rfl (av rfl) (CJ cj PySem.F.slot_list_pop PySem.F.type_list_pop CL (pv 3)))
 (ao (uJ hr.units (pv 4) (pv 5) (bD cR az (Hi rfl rfl T.EG (aa (f9 (bY.caps (x := "other") (fr:=["found"]) (ix:=[4]) (nm:=["found"]) rfl rfl (by decide +kernel) rfl (by decide +kernel) rfl (by decide +kernel) ⟨rfl,trivial⟩ rfl (by decide +kernel) rfl ⟨⟨rfl,rfl,rfl⟩,trivial⟩) (ck (gA hr.units (pv 0) (pv 5) (λ _ _=>rfl))) (λ _ _ _ _=>gW) (λ _ _ _ _=>(mz (P:=P) (w:=w) rfl rfl hr.units (pv 1) (pv 0) (λ _ _=>rfl)))) ai) az)) rfl)
 (aC (dM bX rfl (ck (gA hr.units (pv 1) (pv 5) (λ _ _=>rfl))) (bE (i:=6) gC.nd rfl (av rfl))
 (ao (Eb hr.units (pv 2) (pv 6) az KL (λ _ _ _=>rfl))
 (aC (ia (aW oF (gA hr.units (pv 2) (pv 6) (λ _ _=>rfl)) az (cI _))
 (aC (cQ (fW cj eL eN cN (pv 3) (aa (pv 6) ai))))
 dj))))))))
 (aC (bB (pv 4)))))))),?_⟩
 show (_:TS) (Ends.mk _ _ _ _) [_,_,_,_,_,_,_] H
 walk_at "start"
 walk_at "go"
 refine ⟨d,ep,kvs,L,rfl,hd,hk,hl,hok,λ e epE Wj H1 s1 fe he hke XT hle=>?_⟩
 obtain ⟨nd,hn,hL⟩:=hok
 generalize BG:kvs.map (·.1)=ks at *
 have hkn:kvs.length <= 4000:=by rw [<- BG,aq] at hn; exact hn
 have hd1:=s1 _ _ hd
 have hk1:=hk.same s1
 have hl1:=cG.same hl s1
 clear hd hk hl
 walk_at "go"
 refine sH (kvs:=kvs) (λ i ys H'=>aG H1 H' /\ kO H' ys ((kvs.take i).map λ x=>(x.1,x.2.1,V.int (L x.1).length))) ⟨aG.refl _,by rw [List.take_zero]; exact .nil⟩ ?_ ?_ ?_
 ·rintro i ys H' _ ⟨s',_⟩
  exact s' _ _ hd1
 ·rintro i x ys H2 hx ⟨s2,hps⟩
  have hil:=(e9 hx).1
  have hpl:=hps.length
  rw [aq,bV] at hpl
  have Fd:=fm hx
  obtain ⟨a,vs,ea,ha,hvs⟩:=hl1 x Fd
  have hvl:=hvs.length
  refine ⟨cY (by omega),?_⟩
  walk_at "go"
  refine jO (s2 _ _ hd1) (hk1.same s2) (aJ.same (hk1 x Fd) s2) ((pT (by rw [BG]; exact nd) Fd).trans (congrArg some ea)) ?_
  have ha2:=s2 _ _ ha
  walk_at "go"
  rename_i t H3 n3
  refine ⟨s2.trans n3.same,?_⟩
  rw [bW,hx,bM]
  exact bQ (cg (λ u p ⟨t,h1,h2,h3⟩=>⟨t,h1,n3.keep h2,aJ.same h3 n3.same⟩) hps) ⟨t,rfl,by have z:=n3.self; rw [hvl] at z; exact z,aJ.same (hk1 x Fd) (s2.trans n3.same)⟩
 rintro ys H2 ⟨s2,hps⟩ l H3 n3
 rw [cz] at hps
 walk_at "go"
 refine zH (bI.of n3.self) (cg (λ u p ⟨t,h1,h2,h3⟩=>⟨t,h1,n3.keep h2,aJ.same h3 n3.same⟩) hps) (by rw [eF]; exact (show (kvs.map (·.1)).Nodup by rw [BG]; exact nd)) ?_
 intro wt Rf H4 n4
 have s4:aG H1 H4:=(s2.trans n3.same).trans n4.same
 have ZN:H1 wt=none:=(s2.trans n3.same).free n4.1
 have Tt:=n4.self
 have XU:FnAt (kvs.map λ x=>(x.1,x.2.1,V.int (L x.1).length)) ks λ h=>((L h).length:Int):=⟨by rw [eF]; exact BG,λ x hx=>by obtain ⟨y,_,rfl⟩:=aA.mp hx; rfl⟩
 have Wk:bw H4 (kvs.map λ x=>(x.1,x.2.1,V.int (L x.1).length)):=λ x hx=>by obtain ⟨y,hy,rfl⟩:=aA.mp hx; exact aJ.same (hk1 y hy) s4
 generalize (kvs.map λ x=>(x.1,x.2.1,V.int (L x.1).length))=Ad at *
 clear n3 n4 hps s2
 walk_at "go"
 refine sH (kvs:=kvs) (λ i ys H'=>aG H4 H' /\ aQ H' ys ((ks.take i).filter λ h=>decide (((L h).length:Int)=0))) ⟨aG.refl _,.nil⟩ ?_ ?_ ?_
 ·rintro i ys H' _ ⟨s',_⟩
  exact s' _ _ (s4 _ _ hd1)
 ·rintro i x ys H5 hx ⟨s5,hys⟩
  have hil:=(e9 hx).1
  have hyl:=hys.length
  have hfl:=iG (λ h=>decide (((L h).length:Int)=0)) (ks.take i)
  rw [bV] at hfl
  have Fd:=fm hx
  have hxk:x.1∈ks:=by rw [<- BG]; exact lP Fd
  have hxi:ks[i]? = some x.1:=by rw [<- BG,aS,hx]; rfl
  have hkx:=aJ.same (hk1 x Fd) (s4.trans s5)
  refine ⟨cY (by omega),?_⟩
  walk_at "go"
  refine jO (s5 _ _ Tt) (Wk.same s5) hkx (XU.val hxk) ?_
  walk_at "go"
  ·rename_i h0
   refine ⟨s5,?_⟩
   rw [bW,hxi,iE]
   have e1:List.filter (λ h=>decide (((L h).length:Int)=0)) (some x.1).toList=[x.1]:=by simpa using h0
   rw [e1]
   exact bQ hys hkx
  ·rename_i h0
   refine ⟨s5,?_⟩
   rw [bW,hxi,iE]
   have e1:List.filter (λ h=>decide (((L h).length:Int)=0)) (some x.1).toList=[]:=by simpa using h0
   rw [e1,eE]
   exact hys
 rintro ys H5 ⟨s5,hys⟩ rd H6 n6
 have ZQ:kvs.length=ks.length:=by rw [<- BG,aq]
 rw [ZQ,cz] at hys
 have JL:=s5.trans n6.same
 have s6:=s4.trans JL
 have XW:H1 rd=none:=(s4.trans s5).free n6.1
 have hrd:=n6.self
 have Rg:=aQ.same hys n6.same
 have Ii:=JL _ _ Tt
 have Rh:=Wk.same JL
 have M6:rd ≠ wt:=λ z=>by rw [z] at n6; have:=s5 _ _ Tt; rw [n6.1] at this; cases this
 clear n6 hys Tt Wk JL s5 s4
 walk_at "go"
 rename_i f wH H7 n7
 have s7:=s6.trans n7.same
 have ff:H1 f=none:=s6.free n7.1
 have QS:=n7.self
 have HP:=n7.keep hrd
 have Wl:=n7.keep Ii
 have MD:=aQ.same Rg n7.same
 have Wm:=Rh.same n7.same
 have Ri:f ≠ wt:=λ z=>by rw [z] at n7; rw [n7.1] at Ii; cases Ii
 have M7:f ≠ rd:=λ z=>by rw [z] at n7; rw [n7.1] at hrd; cases hrd
 clear n7 hrd Ii Rg Rh s6
 refine su (λ m σ' H'=>(∃ y5 y6,σ'=[some (.ref d),some (.ref e),some (.ref wt),some (.ref rd),some (.ref f),y5,y6]) /\ aG H1 H' /\ ∃ vs R Rf Ad g wH mW F,H' rd=some (.lst vs) /\ aQ H' vs R /\ H' wt=some (.ext (bR P w wt Rf Ad)) /\ bw H' Ad /\ FnAt Ad ks g /\ H' f=some (.ext (bR P w f wH mW)) /\ bw H' mW /\ eY mW F /\ fM ks L F g R /\ m=ks.length - F.length) ?_ ?_
 ·exact ⟨_,⟨_,_,rfl⟩,s7,ys,_,Rf,Ad,_,wH,[],[],HP,MD,Wl,Wm,XU,QS,(λ x hx=>nomatch hx),rfl,fM.start nd,rfl⟩
 rintro m σ' H8 ⟨⟨y5,y6,rfl⟩,s8,vs,R,Wn,Wo,g,Wq,mW,F,Ij,BH,Rj,Rk,ZR,QV,M8,Tu,inv,rfl⟩
 walk_at "go"
 have hFl:F.length <= ks.length:=by
  have:=iy inv.nd (ys:=ks) λ x hx=>by obtain ⟨y,hy,rfl⟩:=aA.mp hx; exact inv.sub y hy
  rw [aq] at this
  exact this
 rcases List.eq_nil_or_concat vs with rfl | ⟨ZS,v,rfl⟩
 ·cases BH
  refine xj rfl ?_
  walk_at "go"
  exact q f Wq mW F H8 (s1.trans s8) (s1.free ff) QV M8 Tu inv.done
 rw [List.concat_eq_append] at Ij BH ⊢
 obtain ⟨R0,h,rfl,Rl,JX⟩:=mV BH
 obtain ⟨JY,Tv,Wr,Ti⟩:=inv.pop nd
 refine xh (by simp) ⟨_,λ _ _ x=>x,?_⟩
 walk_at "go"
 refine s_pop Ij (y:=v) (by simp) ?_
 rw [List.dropLast_concat]
 intro H9 p9
 have t9:=eX Ij p9
 have s9:=p9.same s8 XW
 have ET:=p9.self
 have Rm:=aQ.tups Rl t9
 have Ik:=aJ.tups JX t9
 have Rn:=p9.keep (aZ M6) Rj
 have Ro:=bw.tups Rk t9
 have FW:=p9.keep M7 QV
 have M9:=bw.tups M8 t9
 clear p9 t9 Ij BH Rl JX Rj Rk QV M8 s8
 obtain ⟨x,Fd,rfl,hxv⟩:=nG (kvs:=kvs) (k:=h) (by rw [BG]; exact nd) (by rw [BG]; exact JY)
 obtain ⟨a,as,ea,ha,has⟩:=hl1 x Fd
 have hL4:=hL x.1 JY
 have uz:=has.length
 have hv:=Ik
 obtain ⟨vb,vu,rfl,_,_⟩:=hv
 walk_at "go"
 refine jO (s9 _ _ hd1) (hk1.same s9) Ik (hxv.trans (congrArg some ea)) ?_
 have MM:=s9 _ _ ha
 have Rp:=aQ.same has s9
 have XX:=Tu.keys
 walk_at "go"
 refine gX (xs:=as) (λ j ys H'=>aG H9 H' /\ ∃ ns:List Int,ys=ns.map V.int /\ Paired (λ n o=>(o,n)∈F) ns ((L x.1).take j)) ⟨aG.refl _,[],rfl,.nil⟩ ?_ ?_ ?_
 ·rintro j ys H' _ ⟨s',_⟩
  exact bI.of (s' _ _ MM)
 ·rintro j y ys HQ hy ⟨pM,ns,rfl,hns⟩
  obtain ⟨o,ho,Rq⟩:=aX Rp hy
  have hjl:=(e9 hy).1
  have hnl:=hns.length
  rw [bV] at hnl
  refine ⟨cY (by rw [aq]; omega),?_⟩
  obtain ⟨n,hn1,hn2⟩:=pU Tu (Wr o (fm ho))
  have Ws:=aJ.same Rq pM
  obtain ⟨yb,yu,rfl,_,_⟩:=Rq
  walk_at "go"
  refine jO (pM _ _ FW) (M9.same pM) Ws hn2 ?_
  refine ⟨pM,ns++[n],by simp,?_⟩
  rw [bW,ho]
  exact bQ hns hn1
 rintro ys HQ ⟨pM,ns,rfl,hns⟩ ml QX qk
 rw [uz,cz] at hns
 have sR:=pM.trans qk.same
 have hml:=qk.self
 have JM:=s9.trans sR
 have JZ:=sR _ _ ET
 have z9:=aQ.same Rm sR
 have Ae:=aJ.same Ik sR
 have J0:=sR _ _ Rn
 have J3:=Ro.same sR
 have Na:=sR _ _ FW
 have Fe:=M9.same sR
 clear qk pM sR ET Rm Ik Rn Ro FW M9 s9 MM Rp
 walk_at "go"
 refine Mr (bI.of hml) λ m hm0 hm1=>?_
 walk_at "go"
 have ZT:mW.length=F.length:=by have:=congrArg List.length XX; rw [aq,aq] at this; exact this
 refine Eh Na Fe Ae (by omega) ?_
 intro Rr QY Nb
 obtain ⟨ZU,Wt⟩:=E9 (a:=vb) (n:=1 + m) Tu Tv
 rw [ZU] at Nb
 have NS:=pS Na Nb
 have s12:=Nb.same JM ff
 have Rt:=Nb.self
 have J4:bw QY (mW++[(x.1,vb,.int (1 + m))]):=λ y hy=>by
  rcases aK.mp hy with hy | hy
  ·exact aJ.tups (Fe y hy) NS
  ·rw [au.mp hy]; exact aJ.tups Ae NS
 have J5:=Nb.keep (aZ M7) JZ
 have J6:=aQ.tups z9 NS
 have Ru:=aJ.tups Ae NS
 have J7:=Nb.keep (aZ Ri) J0
 have J8:=bw.tups J3 NS
 clear Nb NS hml JZ z9 Ae J0 J3 Na Fe JM
 obtain ⟨pe,ZV,ZW,Tq⟩:=nG (kvs:=Wj) (k:=x.1) (by rw [XT]; exact nd) (by rw [XT]; exact JY)
 obtain ⟨b,bs,eb,hb,vz⟩:=hle pe ZV
 rw [ZW] at vz
 walk_at "go"
 refine jO (s12 _ _ he) (hke.same s12) Ru (Tq.trans (congrArg some eb)) ?_
 have Wu:=s12 _ _ hb
 walk_at "go"
 have cl:∀ y∈ks,y∈F.map (·.1)->∀ o∈L y,o∈F.map (·.1):=λ y _ hy o ho=>by
  obtain ⟨z,hz,rfl⟩:=aA.mp hy
  obtain ⟨n,hn,_⟩:=(inv.fin z hz).2.1 o ho
  exact aA.mpr ⟨_,hn,rfl⟩
 refine f_list (xs:=bs) (λ j σ' H'=>(∃ z,σ'=[some (.ref d),some (.ref e),some (.ref wt),some (.ref rd),some (.ref f),some (.ref vb),z]) /\ aG H1 H' /\ ∃ vs R Rf Ad g,H' rd=some (.lst vs) /\ aQ H' vs R /\ H' wt=some (.ext (bR P w wt Rf Ad)) /\ bw H' Ad /\ FnAt Ad ks g /\ H' f=some (.ext (bR P w f Rr (mW++[(x.1,vb,.int (1 + m))]))) /\ bw H' (mW++[(x.1,vb,.int (1 + m))]) /\ lD ks L (F.map (·.1)++[x.1]) (b9 L ks x.1) j g R) ?_ ?_ ?_ ?_
 ·exact ⟨⟨_,rfl⟩,s12,ZS,R0,Wn,Wo,g,J5,J6,J7,J8,ZR,Rt,J4,Ti⟩
 ·rintro j σ' H' _ ⟨_,s',_⟩
  exact bI.of (s' _ _ hb)
 ·rintro j y σ' Xz hy ⟨⟨z0,rfl⟩,F1,vs,R,J9,Ad,g,Af,Ag,rA,rB,BI,Il,Ah,BJ⟩
  clear J5 J6 J7 J8 Rt J4 s12 Wu
  obtain ⟨o,ho,Rq⟩:=aX vz hy
  obtain ⟨hw1,hok,hyes,hno⟩:=BJ.next cl Tv Wr ho
  have Ai:=aJ.same Rq F1
  obtain ⟨yb,yu,rfl,_,_⟩:=Rq
  have hWl:Ad.length=ks.length:=by rw [<- BI.1,aq]
  walk_at "go"
  refine jO rA rB Ai (BI.val hok) ?_
  walk_at "go"
  refine LR ?_
  refine Eh rA rB Ai (by omega) ?_
  intro Ka Zk FY
  have Rv:=pS rA FY
  have NL:=FY.same F1 ZN
  have Ff:=FY.self
  have Fg:=bw.tups (Fb (a:=yb) (v:=.int (g o - 1)) rB (by rw [BI.1]; exact hok)) Rv
  have Nc:FnAt (ig Ad o yb (.int (g o - 1))) ks (pR g o (g o - 1)):=BI.put hok
  have Kc:=FY.keep M6 Af
  have Fi:=aQ.tups Ag Rv
  have HR:=FY.keep Ri Il
  have Kd:=bw.tups Ah Rv
  have Ke:=aJ.tups Ai Rv
  clear FY Rv F1 Af Ag rA rB Il Ah Ai
  have hvl:=Fi.length
  have hRl:=iy BJ.M4 (ys:=ks) λ y hy=>((BJ.F3 y).mp hy).1
  walk_at "go"
  refine jO Ff Fg Ke (Nc.val hok) ?_
  have eg:pR g o (g o - 1) o=g o - 1:=by unfold pR; rw [if_pos rfl]
  rw [eg]
  walk_at "go"
  ·rename_i h0 XC HS
   have Tw:=eX Kc HS
   exact ⟨⟨_,rfl⟩,HS.same NL XW,_,_,Ka,_,_,HS.self,bQ (aQ.tups Fi Tw) (aJ.tups Ke Tw),HS.keep (aZ M6) Ff,bw.tups Fg Tw,Nc,HS.keep M7 HR,bw.tups Kd Tw,hyes h0⟩
  ·rename_i h0
   exact ⟨⟨_,rfl⟩,NL,_,_,Ka,_,_,Kc,Fi,Ff,Fg,Nc,HR,Kd,hno h0⟩
 ·rintro σ' Xz ⟨⟨z0,rfl⟩,F1,vs,R,J9,Ad,g,Af,Ag,rA,rB,BI,Il,Ah,BJ⟩
  rw [vz.length] at BJ
  refine EC _ _ ?_
  have hlt:F.length + 1 <= ks.length:=by
   have h1:(F.map (·.1)++[x.1]).Nodup:=by
    rw [dJ]
    exact ⟨inv.nd,by simp,λ a ha b hb z=>Tv (by rw [au.mp hb] at z; exact z ▸ ha)⟩
   have:=iy h1 (ys:=ks) λ y hy=>by
    rcases aK.mp hy with hy | hy
    ·obtain ⟨z,hz,rfl⟩:=aA.mp hy; exact inv.sub z hz
    ·rw [au.mp hy]; exact JY
   rw [aN,aq] at this
   exact this
  refine ⟨ks.length - (F++[(x.1,1 + m)]).length,by rw [aN]; simp; omega,⟨_,_,rfl⟩,F1,vs,R,J9,Ad,g,Rr,_,_,Af,Ag,rA,rB,BI,Il,Ah,Wt,lD.end inv BJ JY Tv Wr rfl (λ e0=>?_) (λ e0=>?_),rfl⟩
  ·rw [e0] at hns
   cases hns
   exact hm0 rfl
  ·have hne:ns ≠ []:=λ z=>by rw [z] at hns; cases XY:L x.1 with
    | nil=>exact e0 XY
    | cons _ _=>rw [XY] at hns; cases hns
   obtain ⟨h1,h2⟩:=hm1 hne
   obtain ⟨i,hi,ei⟩:=lO.mp h1
   obtain ⟨o,ho,Wv⟩:=aX hns (i:=i) (x:=m) (by rw [dB hi,ei])
   refine ⟨⟨o,fm ho,Wv⟩,λ o ho k hk=>?_⟩
   obtain ⟨j,hj,ej⟩:=lO.mp ho
   obtain ⟨n,hn,ZX⟩:=fR hns (i:=j) (y:=o) (by rw [dB hj,ej])
   rw [jH inv.nd hk ZX]
   exact h2 n (fm hn)
end
section
variable {α:Type} [DecidableEq α]
theorem gF{ks:List α}{L:α->List α}{F G:List (α × Int)}(hF:rq ks L F)(hG:rq ks L G):∀ (n:Nat) (h:α) (m:Int),m.toNat <= n->(h,m)∈F->(h,m)∈G
 | 0,h,m,hn,hm=>by have:=(hF.fin _ hm).1; dsimp only at this; omega
 | n + 1,h,m,hn,hm=>by
  obtain ⟨h1,h2,h3⟩:=hF.fin _ hm
  dsimp only at h1 h2 h3
  have ih:∀ o∈L h,∀ k,(o,k)∈F->(o,k)∈G:=λ o ho k hk=>by
   obtain ⟨k',hk',hlt⟩:=h2 o ho
   have e:=jH hF.nd hk hk'
   subst e
   have:=(hF.fin _ hk).1
   dsimp only at this
   exact gF hF hG n o k (by omega) hk
  have hin:h∈G.map (·.1):=nV λ no=>by
   obtain ⟨o,ho,hno⟩:=hG.out h (hF.sub _ hm) no
   obtain ⟨k,hk,_⟩:=h2 o ho
   exact hno (aA.mpr ⟨_,ih o ho k hk,rfl⟩)
  obtain ⟨⟨_,m'⟩,hm',rfl⟩:=aA.mp hin
  obtain ⟨g1,g2,g3⟩:=hG.fin _ hm'
  dsimp only at g1 g2 g3 h1 h2 h3 ih hm
  have e:m'=m:=by
   rcases h3 with ⟨e1,e2⟩ | ⟨o,ho,L6⟩
   ·rcases g3 with ⟨e3,_⟩ | ⟨o,ho,_⟩
    ·omega
    ·rw [e2] at ho; exact nomatch ho
   ·rcases g3 with ⟨_,e3⟩ | ⟨o',ho',ho2⟩
    ·rw [e3] at ho; exact nomatch ho
    ·obtain ⟨k,hk,hlt⟩:=g2 o ho
     have a:=jH hG.nd hk (ih o ho _ L6)
     obtain ⟨k',hk',hlt'⟩:=h2 o' ho'
     have b:=jH hG.nd (ih o' ho' _ hk') ho2
     omega
  rw [<- e]
  exact hm'
def d7(ks:List α)(L:α->List α)(F:List (α × Int)):Prop:=rq ks L F /\ F.length=ks.length
theorem Im{ks:List α}{L:α->List α}{F G:List (α × Int)}(nd:ks.Nodup)(hF:d7 ks L F)(hG:rq ks L G):G.length=ks.length:=by
 have h1:F.length <= G.length:=by
  have:=iy hF.1.nd (ys:=G.map (·.1)) λ x hx=>by
   obtain ⟨⟨h,m⟩,hm,rfl⟩:=aA.mp hx
   exact aA.mpr ⟨_,gF hF.1 hG _ h m (ak _) hm,rfl⟩
  rwa [aq,aq] at this
 have h2:G.length <= ks.length:=by
  have:=iy hG.nd (ys:=ks) λ x hx=>by obtain ⟨y,hy,rfl⟩:=aA.mp hx; exact hG.sub y hy
  rwa [aq] at this
 have:=hF.2
 omega
theorem d7.mem{ks:List α}{L:α->List α}{F:List (α × Int)}(nd:ks.Nodup)(h:d7 ks L F){x:α}(hx:x∈ks):∃ n,(x,n)∈F:=by
 have:x∈F.map (·.1):=nV λ no=>by
  have h1:(F.map (·.1)++[x]).Nodup:=by
   rw [dJ]
   exact ⟨h.1.nd,by simp,λ a ha b hb z=>no (by rw [au.mp hb] at z; exact z ▸ ha)⟩
  have:=iy h1 (ys:=ks) λ y hy=>by
   rcases aK.mp hy with hy | hy
   ·obtain ⟨z,hz,rfl⟩:=aA.mp hy; exact h.1.sub z hz
   ·rw [au.mp hy]; exact hx
  rw [aN,aq,h.2,dW] at this
  omega
 obtain ⟨⟨_,n⟩,hn,rfl⟩:=aA.mp this
 exact ⟨n,hn⟩
def lF(ks:List α)(L:α->List α)(m:Int):Prop:=∃ F,d7 ks L F /\ (∃ x∈F,x.2=m) /\ ∀ x∈F,x.2 <= m
theorem BK{ks:List α}{L:α->List α}{m:Int}(h:lF ks L m)(g:lF ks L n):m=n:=by
 obtain ⟨F,hF,⟨x,hx,rfl⟩,h1⟩:=h
 obtain ⟨G,hG,⟨y,hy,rfl⟩,g1⟩:=g
 have a:=h1 _ (gF hG.1 hF.1 _ y.1 y.2 (ak _) hy)
 have b:=g1 _ (gF hF.1 hG.1 _ x.1 x.2 (ak _) hx)
 dsimp only at a b
 omega
end
theorem Io{ls:List HM.aR}(h:fQ rs r t ks)(g:fQ rs r t ls):ks=ls:=Ab HM.mq h.1 g.1 λ z=>(h.2 z).trans (g.2 z).symm
theorem Fj{n:Int}(hok:r.ok n)(ht:FZ t)(h:fQ rs r t ks):ks.length <= 4:=by
 have nd:ks.Nodup:=h.1.imp λ h e=>by rw [e] at h; omega
 have h1:ks.length <= (r.ways.flatMap λ q=>(cL r t).map λ u=>(q,u)).length:=iy nd λ z hz=>by
  obtain ⟨a1,a2,_⟩:=(h.2 z).mp hz
  exact jU.mpr ⟨z.1,a1,aA.mpr ⟨z.2,(gE hok ht _).mpr a2,rfl⟩⟩
 have h2:=Row.pH r
 have h3:=pP r ht
 have h4:∀ ws:List Int,(ws.flatMap λ q=>(cL r t).map λ u=>(q,u)).length=ws.length * (cL r t).length:=λ ws=>by
  induction ws with
  | nil=>simp
  | cons w ws ih=>rw [nY,aN,ih,aq,dI,Nat.succ_mul,Nat.add_comm]
 rw [h4] at h1
 exact br h1 (Nat.mul_le_mul h2 h3)
open Classical in
def bP(rs:List Row)(h:HM.aR):List HM.aR:=if e:∃ (ks:List HM.aR) (r:Row),rs[h.1.toNat]? = some r /\ fQ rs r h.2 ks then e.choose else []
theorem Aj{h:HM.aR}(hr:rs[h.1.toNat]? = some r)(hl:fQ rs r h.2 ks):bP rs h=ks:=by
 have e:∃ (ks:List HM.aR) (r:Row),rs[h.1.toNat]? = some r /\ fQ rs r h.2 ks:=⟨ks,r,hr,hl⟩
 unfold bP
 rw [dif_pos e]
 obtain ⟨r',hr',hl'⟩:=e.choose_spec
 rw [hr] at hr'
 cases hr'
 exact Io hl' hl
theorem vD(h:cM H rs kvs):cG H kvs (bP rs):=λ x hx=>by
 obtain ⟨a,vs,ks,k,r,h1,h2,h3,h4,h5,h6⟩:=h x hx
 refine ⟨a,vs,h1,h2,?_⟩
 rw [Aj (r:=r) (by rw [h4]; exact h5) h6]
 exact h3
theorem dN{n:Nat}{z:HM.aR}:z∈aH rs n ↔ ∃ k:Nat,k < n /\ z.1=(k:Int) /\ z.2∈bF rs k:=by
 unfold aH
 rw [jU]
 constructor
 ·rintro ⟨k,hk,hz⟩
  obtain ⟨t,ht,rfl⟩:=aA.mp hz
  exact ⟨k,fT.mp hk,rfl,ht⟩
 ·rintro ⟨k,hk,e,ht⟩
  exact ⟨k,fT.mpr hk,aA.mpr ⟨z.2,ht,Prod.ext e.symm rfl⟩⟩
theorem iB:t∈bF rs k ↔ dw.lv rs k t:=by
 unfold bF
 cases t with
 | none=>simp [dw.lv]
 | some p=>simp [dw.lv]
theorem pV(rs:List Row):∀ n,(aH rs n).Nodup
 | 0=>.nil
 | n + 1=>by
  rw [j8,dJ]
  refine ⟨pV rs n,jV.mpr ((rm rs n).imp λ h e=>h (congrArg Prod.snd e)),λ x hx y hy e=>?_⟩
  obtain ⟨k,hk,e1,_⟩:=dN.mp hx
  obtain ⟨t,_,rfl⟩:=aA.mp hy
  rw [e] at e1
  have e1:(n:Int)=(k:Int):=e1
  omega
theorem vE(hok:∀ r∈rs,r.ok rs.length)(hn:rs.length <= 200)(em:kvs.map (·.1)=aH rs rs.length)(h:cM H rs kvs):
  gh (aH rs rs.length) (bP rs) /\ ∀ k r t,rs[k]? = some r->t∈bF rs k->fQ rs r t (bP rs ((k:Int),t)):=by
 have each:∀ z∈aH rs rs.length,∃ (k:Nat) (r:Row),z.1=(k:Int) /\ rs[k]? = some r /\ fQ rs r z.2 (bP rs z) /\ FZ z.2:=λ z hz=>by
  rw [<- em] at hz
  obtain ⟨x,hx,rfl⟩:=aA.mp hz
  obtain ⟨a,vs,ks,k,r,h1,h2,h3,h4,h5,h6⟩:=h x hx
  obtain ⟨k',_,e',ht⟩:=dN.mp (by rw [<- em]; exact hz)
  refine ⟨k,r,h4,h5,?_,mH rs k' _ ht⟩
  rw [Aj (r:=r) (by rw [h4]; exact h5) h6]
  exact h6
 refine ⟨⟨pV rs _,br (lC rs _) (by omega),λ z hz=>?_⟩,λ k r t hr ht=>?_⟩
 ·obtain ⟨k,r,e,hr,hl,wF⟩:=each z hz
  have HY:=hok r (fm hr)
  refine ⟨Fj HY wF hl,λ o ho=>?_⟩
  obtain ⟨a1,a2,a3⟩:=(hl.2 o).mp ho
  obtain ⟨b1,b2⟩:=Row.jF HY o.1 a1
  exact dN.mpr ⟨o.1.toNat,by omega,by omega,iB.mpr a3⟩
 ·have hk:=(e9 hr).1
  obtain ⟨k',r',e,hr',hl,_⟩:=each ((k:Int),t) (dN.mpr ⟨k,hk,rfl,ht⟩)
  have e:(k:Int)=(k':Int):=e
  have:k=k':=by omega
  subst this
  rw [hr] at hr'
  cases hr'
  exact hl
section
variable {P:Program}{w:World}{K:ay}{mg:Str->Option Value}{base:Heap}
def BL(P:Program)(w:World):Sp:=λ vs H Q _=>∃ (d:Addr) (ep:Nat) (kvs:cZ) (L:HM.aR->List HM.aR),vs=[.ref d] /\ H d=some (.ext (bR P w d ep kvs)) /\ bw H kvs /\ cG H kvs L /\ gh (kvs.map (·.1)) L /\
 (∀ H',aG H H'->(∀ F,¬ d7 (kvs.map (·.1)) L F)->Q .cP H') /\ ∀ (d':Addr) (mK:Nat) (kvs':cZ) (F:List (HM.aR × Int)) (H':Hp),aG H H'->H d'=none->H' d'=some (.ext (bR P w d' mK kvs'))->bw H' kvs'->eY kvs' F->d7 (kvs.map (·.1)) L F->Q (.ref d') H'
theorem pW(T:Txt w K mg):cJ P w K mg base ji 3 T.ly.f T.ly.d ["later"] (BL P w):=by
 refine T.ly.F.ok pC (λ vs H Q E h=>?_) (λ cdv A outer s H vs Q E hr h=>?_)
 ·obtain ⟨d,ep,kvs,L,rfl,_⟩:=h
  rfl
 obtain ⟨d,ep,kvs,L,rfl,hd,hk,hl,hok,q0,q⟩:=h
 refine ⟨_,(ao (aT (i:=1) pC.nd rfl (av rfl) (bO T.ended (Fc T) hr (aa (pv 0) ai)))
 (aC (bB (gw (aW oF (bA (mw) rfl T.fZ BT.fX (aa (pv 1) ai)) (bA (mw) rfl T.fZ BT.fX (aa (pv 0) ai)) (cI _)) (pv 1) oq)))),?_⟩
 show (_:TS) (Ends.mk _ _ _ _) [_,_] H
 walk_at "start"
 walk_at "go"
 refine ⟨d,ep,kvs,L,rfl,hd,hk,hl,hok,λ f wH mW F H1 s1 ff hf Kf hF Rw=>?_⟩
 have hd1:=s1 _ _ hd
 have XX:mW.length=F.length:=by have:=congrArg List.length hF.keys; rw [aq,aq] at this; exact this
 walk_at "go"
 ·rename_i e
  exact q f wH mW F H1 s1 ff hf Kf hF ⟨Rw,by rw [aq]; omega⟩
 ·rename_i e
  refine q0 H1 s1 λ G hG=>e ?_
  have:=Im hok.1 hG Rw
  rw [aq] at this
  omega
def Fl(P:Program)(w:World):Sp:=λ vs H Q _=>∃ (c:Addr) (us:List V) (rs:List Row),vs=[.ref c] /\ H c=some (.lst us) /\ Rows H us rs /\ (∀ r∈rs,r.ok rs.length) /\ rs.length <= 200 /\
 (gh (aH rs rs.length) (bP rs)->(∀ k r t,rs[k]? = some r->t∈bF rs k->fQ rs r t (bP rs ((k:Int),t)))->(∀ H',aG H H'->(∀ F,¬ d7 (aH rs rs.length) (bP rs) F)->Q .cP H') /\ ∀ (d':Addr) (mK:Nat) (kvs':cZ) (F:List (HM.aR × Int)) (H':Hp),aG H H'->H d'=none->H' d'=some (.ext (bR P w d' mK kvs'))->bw H' kvs'->eY kvs' F->d7 (aH rs rs.length) (bP rs) F->Q (.ref d') H')
theorem rC(T:Txt w K mg):cJ P w K mg base ji 6 T.pF.f T.pF.d ["code"] (Fl P w):=by
 refine T.pF.F.ok Br (λ vs H Q E h=>?_) (λ cdv A outer s H vs Q E hr h=>?_)
 ·obtain ⟨c,us,rs,rfl,_⟩:=h
  rfl
 obtain ⟨c,us,rs,rfl,hc,hrs,hok,hn,q⟩:=h
 refine ⟨_,(aC (bB (bO T.ly (pW T) hr (aa (bO T.lu (pQ T) hr (aa (pv 0) ai)) ai)))),?_⟩
 show (_:TS) (Ends.mk _ _ _ _) [_] H
 walk_at "start"
 walk_at "go"
 refine ⟨c,us,rs,rfl,hc,hrs,hok,hn,λ d ep kvs H1 s1 fd hd hk em hla=>?_⟩
 obtain ⟨wI,gj⟩:=vE hok hn em hla
 obtain ⟨q0,q1⟩:=q wI gj
 walk_at "go"
 refine ⟨d,ep,kvs,bP rs,rfl,hd,hk,vD hla,by rw [em]; exact wI,λ H2 s2 no=>?_,λ f wH mW F H2 s2 ff hf Kf hF e=>?_⟩
 ·walk_at "go"
  rw [em] at no
  exact q0 H2 (s1.trans s2) no
 ·walk_at "go"
  rw [em] at e
  exact q1 f wH mW F H2 (s1.trans s2) (s1.free ff) hf Kf hF e
def Ip:Sp:=λ vs H Q _=>∃ (c:Addr) (us:List V) (rs:List Row),vs=[.ref c] /\ H c=some (.lst us) /\ Rows H us rs /\ (∀ r∈rs,r.ok rs.length) /\ rs.length <= 200 /\ rs ≠ [] /\
 (gh (aH rs rs.length) (bP rs)->(∀ k r t,rs[k]? = some r->t∈bF rs k->fQ rs r t (bP rs ((k:Int),t)))->(∀ H',aG H H'->(∀ F,¬ d7 (aH rs rs.length) (bP rs) F)->Q .cP H') /\ ∀ (m:Int) (H':Hp),aG H H'->lF (aH rs rs.length) (bP rs) m->Q (.int m) H')
theorem Fo(T:Txt w K mg):cJ P w K mg base ji 7 T.delay.f T.delay.d ["code"] Ip:=by
 refine T.delay.F.ok uV (λ vs H Q E h=>?_) (λ cdv A outer s H vs Q E hr h=>?_)
 ·obtain ⟨c,us,rs,rfl,_⟩:=h
  rfl
 obtain ⟨c,us,rs,rfl,hc,hrs,hok,hn,hne,q⟩:=h
 refine ⟨_,(ao (aT (i:=1) uV.nd rfl (av rfl) (bO T.pF (rC T) hr (aa (pv 0) ai)))
 (aC (bB (gw (aW zc (pv 1) oq (cI _)) oq (bA (Bh rfl) rfl T.EG BT.Dv (aa (El (pv 1)) ai)))))),?_⟩
 show (_:TS) (Ends.mk _ _ _ _) [_,_] H
 walk_at "start"
 walk_at "go"
 refine ⟨c,us,rs,rfl,hc,hrs,hok,hn,λ wI gj=>⟨λ H1 s1 no=>?_,λ f wH mW F H1 s1 ff hf Kf hF e=>?_⟩⟩
 ·walk_at "go"
  exact (q wI gj).1 H1 s1 no
 ·walk_at "go"
  rename_i v H2 n2
  have ev:mW.map (·.2.2)=(F.map (·.2)).map V.int:=by
   have:=congrArg (List.map (·.2)) hF
   rw [eF,eF] at this
   rw [eF]
   exact this
  have Ww:F.map (·.2) ≠ []:=λ z=>by
   have h0:F.length=0:=by rw [<- aq (f:=(·.2)),z]; rfl
   have h1:=e.2
   cases rs with
   | nil=>exact hne rfl
   | cons r rs =>
    have:((0:Int),none)∈aH (r :: rs) (r :: rs).length:=dN.mpr ⟨0,by simp,rfl,iB.mpr trivial⟩
    rw [h0] at h1
    rw [List.length_eq_zero_iff.mp h1.symm] at this
    exact nomatch this
  refine Mn n2.self (n2.keep hf) ev Ww λ m hm hle=>?_
  walk_at "go"
  obtain ⟨x,hx,rfl⟩:=aA.mp hm
  exact (q wI gj).2 _ H2 (s1.trans n2.same) ⟨F,e,⟨x,hx,rfl⟩,λ y hy=>hle _ (lP hy)⟩
end
section
variable {α:Type} [DecidableEq α]
def Cn(g:α->Int)(cs:List α)(i:Nat):Int:=((cs[i]?).map g).getD 0
def gk(L:α->List α)(g:α->Int):Nat->List α->List α
 | 0,_=>[]
 | n + 1,cs=>match cs[MK.kP (Cn g cs) (cs.length - 1)]? with
  | none=>[]
  | some h=>h :: gk L g n (L h)
theorem iC{g:α->Int}{cs:List α}(hne:cs ≠ []):∃ h,cs[MK.kP (Cn g cs) (cs.length - 1)]? = some h /\ h∈cs /\ ∀ x∈cs,g x <= g h:=by
 obtain ⟨h1,h2⟩:=MK.Eo (Cn g cs) (cs.length - 1)
 have hp:=List.length_pos_iff.mpr hne
 have hlt:MK.kP (Cn g cs) (cs.length - 1) < cs.length:=by omega
 refine ⟨cs[MK.kP (Cn g cs) (cs.length - 1)],dB hlt,fS hlt,λ x hx=>?_⟩
 obtain ⟨i,hi,rfl⟩:=lO.mp hx
 have:=(h2 i (by omega)).1
 generalize MK.kP (Cn g cs) (cs.length - 1)=j at hlt this ⊢
 unfold Cn at this
 rw [dB hi,dB hlt] at this
 exact this
theorem jr{L:α->List α}{g:α->Int}{n:Nat}{cs:List α}{h:α}(e:cs[MK.kP (Cn g cs) (cs.length - 1)]? = some h):gk L g (n + 1) cs=h :: gk L g n (L h):=by
 show (match cs[MK.kP (Cn g cs) (cs.length - 1)]? with | none=>[] | some h=>h :: gk L g n (L h))=_
 rw [e]
theorem sS(L:α->List α)(g:α->Int):∀ n,gk L g n []=[]
 | 0=>rfl
 | _ + 1=>rfl
theorem Nd(L:α->List α)(g:α->Int):∀ (n:Nat) (cs:List α),(gk L g n cs).length <= n
 | 0,_=>ak _
 | n + 1,cs=>by
  show (match cs[MK.kP (Cn g cs) (cs.length - 1)]? with | none=>[] | some h=>h :: gk L g n (L h)).length <= n + 1
  split
  ·exact aL _
  ·exact Nat.succ_le_succ (Nd L g n _)
theorem rD{L:α->List α}{g:α->Int}:∀ (n:Nat) (cs:List α),(∀ x,(gk L g n cs)[0]? = some x->x∈cs) /\ ∀ (i:Nat) (x y:α),(gk L g n cs)[i]? = some x->(gk L g n cs)[i + 1]? = some y->y∈L x
 | 0,cs=>⟨(λ x h=>nomatch h),λ i x y h _=>by simp [gk] at h⟩
 | n + 1,cs=>by
  by_cases hne:cs=[]
  ·subst hne
   rw [sS]
   exact ⟨(λ x h=>nomatch h),λ i x y h _=>by simp at h⟩
  obtain ⟨h,e,hm,_⟩:=iC (g:=g) hne
  rw [jr e]
  obtain ⟨c1,c2⟩:=rD (L:=L) (g:=g) n (L h)
  refine ⟨λ x hx=>by cases hx; exact hm,λ i x y hx hy=>?_⟩
  rw [List.getElem?_cons_succ] at hy
  cases i with
  | zero=>cases hx; exact c1 y hy
  | succ i=>exact c2 i x y (by rwa [List.getElem?_cons_succ] at hx) hy
def dO(F:List (α × Int))(n:Int)(h:α):Int:=((F.find? λ x=>decide (x.1=h)).map (·.2)).getD n
theorem jI{F:List (α × Int)}{m:Int}{h:α}(nd:(F.map (·.1)).Nodup)(hm:(h,m)∈F):dO F n h=m:=by
 unfold dO
 cases e:F.find? (λ x=>decide (x.1=h)) with
 | none=>exact absurd (List.find?_eq_none.mp e _ hm) (by simp)
 | some x =>
  have h1:=List.find?_some e
  have h2:=List.mem_of_find?_eq_some e
  obtain ⟨a,b⟩:=x
  obtain rfl:a=h:=of_decide_eq_true h1
  exact jH nd h2 hm
theorem Ak{ks:List α}{L:α->List α}{F:List (α × Int)}(nd:ks.Nodup)(hL:∀ k∈ks,∀ o∈L k,o∈ks)(hF:d7 ks L F):∀ (n:Nat) (h:α),h∈ks->(dO F n0 h).toNat <= n + 1 ->
  (gk L (dO F n0) n (L h)).length + 1=(dO F n0 h).toNat /\ 1 <= dO F n0 h /\ (∀ x∈gk L (dO F n0) n (L h),x∈ks /\ dO F n0 x < dO F n0 h) /\ (gk L (dO F n0) n (L h)).Nodup:=by
 intro n
 induction n with
 | zero =>
  intro h hh hn
  obtain ⟨m,hm⟩:=hF.mem nd hh
  have ev:=jI (n:=n0) hF.1.nd hm
  obtain ⟨h1,_,_⟩:=hF.1.fin _ hm
  dsimp only at h1
  refine ⟨?_,by omega,(λ x hx=>nomatch hx),.nil⟩
  show 0 + 1=_
  omega
 | succ n ih =>
  intro h hh hn
  obtain ⟨m,hm⟩:=hF.mem nd hh
  have ev:=jI (n:=n0) hF.1.nd hm
  obtain ⟨h1,h2,h3⟩:=hF.1.fin _ hm
  dsimp only at h1 h2 h3
  by_cases hne:L h=[]
  ·rw [hne,sS]
   refine ⟨?_,by omega,(λ x hx=>nomatch hx),.nil⟩
   rcases h3 with ⟨e,_⟩ | ⟨o,ho,_⟩
   ·show 0 + 1=_
    omega
   ·rw [hne] at ho; exact nomatch ho
  obtain ⟨x,e,hx,Fp⟩:=iC (g:=dO F n0) hne
  have hxk:=hL h hh x hx
  rcases h3 with ⟨_,e0⟩ | ⟨o,ho,Wv⟩
  ·exact absurd e0 hne
  have evo:=jI (n:=n0) hF.1.nd Wv
  obtain ⟨k,hk,hlt⟩:=h2 x hx
  have evx:=jI (n:=n0) hF.1.nd hk
  have h4:=Fp o ho
  obtain ⟨i1,i2,i3,i4⟩:=ih x hxk (by omega)
  rw [jr e]
  refine ⟨?_,by omega,λ y hy=>?_,fz.mpr ⟨λ z=>?_,i4⟩⟩
  ·rw [dI]
   omega
  ·rcases aB.mp hy with rfl | hy
   ·exact ⟨hxk,by omega⟩
   ·have:=i3 y hy
    exact ⟨this.1,by omega⟩
  ·have:=(i3 x z).2
   omega
theorem Iq{ks:List α}{L:α->List α}{F:List (α × Int)}{m:Int}(nd:ks.Nodup)(hL:∀ k∈ks,∀ o∈L k,o∈ks)(hF:d7 ks L F)(hd:lF ks L m):((gk L (dO F n0) ks.length ks).length:Int)=m:=by
 obtain ⟨G,hG,⟨y,hy,rfl⟩,hle⟩:=hd
 have Q2:=hG.1.sub y hy
 have hne:ks ≠ []:=λ z=>by rw [z] at Q2; exact nomatch Q2
 have hp:=List.length_pos_iff.mpr hne
 obtain ⟨h,e,hh,Fp⟩:=iC (g:=dO F n0) hne
 have ev:∀ x∈G,dO F n0 x.1=x.2:=λ x hx=>jI hF.1.nd (gF hG.1 hF.1 _ x.1 x.2 (ak _) hx)
 obtain ⟨k,hk⟩:=hG.mem nd hh
 have e1:=ev _ hk
 have e2:=ev _ hy
 have h1:=hle _ hk
 have h2:=Fp _ Q2
 dsimp only at e1 h1
 obtain ⟨a1,a2,a3,a4⟩:=Ak (n0:=n0) nd hL hF ((dO F n0 h).toNat) h hh (by omega)
 have hl:(h :: gk L (dO F n0) ((dO F n0 h).toNat) (L h)).length <= ks.length:=iy (fz.mpr ⟨λ z=>by have:=(a3 h z).2; omega,a4⟩) λ x hx=>by
  rcases aB.mp hx with rfl | hx
  ·exact hh
  ·exact (a3 x hx).1
 rw [dI] at hl
 obtain ⟨n,hn⟩:∃ n,ks.length=n + 1:=⟨ks.length - 1,by omega⟩
 obtain ⟨b1,_,_,_⟩:=Ak (n0:=n0) nd hL hF n h hh (by omega)
 rw [hn,jr e,dI]
 omega
end
theorem vF:∀ {kvs:cZ} {F:List (HM.aR × Int)},eY kvs F->∀ (o:HM.aR) (n:Int),(fO kvs o).getD (.int n)=.int (dO F n o)
 | [],[],_,_,_=>rfl
 | [],_ :: _,e,_,_=>nomatch e
 | _ :: _,[],e,_,_=>nomatch e
 | x :: kvs,y :: F,e,o,n=>by
  unfold eY at e
  rw [bq,bq] at e
  obtain ⟨e1,e2⟩:=List.cons.inj e
  have a1:x.1=y.1:=congrArg Prod.fst e1
  have a2:x.2.2=V.int y.2:=congrArg Prod.snd e1
  unfold fO dO
  rw [fu,fu,<- a1]
  by_cases h:x.1=o
  ·rw [decide_eq_true h]
   exact a2
  ·rw [decide_eq_false h]
   exact vF (kvs:=kvs) (F:=F) e2 o n
theorem vG:∀ {H:Hp} {vs:List V} {ks:List HM.aR},aQ H vs ks->vs=(vs.map adr).map V.ref
 | _,_,_,.nil=>rfl
 | _,_,_,.cons h t=>by
  rw [bq,bq,<- h.adr,<- vG t]
def Wx:Pos:=⟨113,31,113,67⟩
def Rx:Str:=(envOfC "way_of" (aF pA) 0 0 .none).qual ++ "<lambda>"
abbrev BN(H:Hp):Prop:=mE bz Rx Wx H
theorem fY.tups{p:Addr}{qual:Str}{pos:Pos}(t:mE p qual pos H)(s:fY p H H'):mZ H H':=λ b vs h=>s _ _ (t.ne h λ _ z=>nomatch z) h
theorem cG.XZ{p:Addr}{qual:Str}{pos:Pos}(h:cG H kvs L)(t:mE p qual pos H)(s:fY p H H'):cG H' kvs L:=λ x hx=>let ⟨a,vs,h1,h2,h3⟩:=h x hx; ⟨a,vs,h1,s _ _ (t.ne h2 λ _ z=>nomatch z) h2,aQ.tups h3 (fY.tups t s)⟩
section
variable {P:Program}{w:World}{K:ay}{mg:Str->Option Value}{base:Heap}
def Ry(P:Program)(w:World):Sp:=λ vs H Q _=>∃ (d f:Addr) (ep wH n:Nat) (kvs mW:cZ) (L:HM.aR->List HM.aR) (F:List (HM.aR × Int)),vs=[.ref d,.ref f,.int n] /\ H d=some (.ext (bR P w d ep kvs)) /\ bw H kvs /\ cG H kvs L /\ gh (kvs.map (·.1)) L /\
 H f=some (.ext (bR P w f wH mW)) /\ bw H mW /\ eY mW F /\ n <= 4000 /\ BN H /\ ∀ (b:Addr) (us:List V) (H':Hp),fY bz H H'->BN H'->H b=none->H' b=some (.lst us)->aQ H' us (gk L (dO F n) n (kvs.map (·.1)))->Q (.ref b) H'
theorem BO(T:Txt w K mg)(hB:base.BuiltinsAt mg bz):cJ P w K mg base ji 4 T.mF.f T.mF.d ["later", "found", "most"] (Ry P w):=by
 refine T.mF.F.YZ iu (λ vs H Q E h=>?_) (λ A outer s H vs Q E hr h=>?_)
 ·obtain ⟨d,f,ep,wH,n,kvs,mW,L,F,rfl,_⟩:=h
  rfl
 obtain ⟨d,f,ep,wH,n,kvs,mW,L,F,rfl,hd,hk,hl,hok,hf,Kf,hF,hn,tab,q⟩:=h
 refine ⟨_,(ao (aT (i:=3) iu.nd rfl (av rfl) (gn (yc rfl) rfl T.yi BT.wY (aa (pv 0) ai)))
 (ao (aT (i:=4) iu.nd rfl (av rfl) (dZ ai))
 (ao (oz bX (PW.pt (Ct (l6 (pv 3) (λ _=>rfl)) (yH (aW IV (bA bZ rfl T.fZ BT.fX (aa (pv 4) ai)) (pv 2) (cI _)))))
 (ao (aT (i:=5) iu.nd rfl (av rfl) (Hs T.mF.cq T.mF.ch hB rfl rfl (o9.caps (x := "other") (fr:=["found", "most"]) (ix:=[1,2]) (nm:=["most", "found"]) rfl (by decide +kernel) rfl rfl rfl rfl ⟨rfl,⟨rfl,trivial⟩⟩ rfl (by decide +kernel) rfl ⟨⟨rfl,rfl,rfl⟩,⟨⟨rfl,rfl,rfl⟩,trivial⟩⟩) (Ex hr) (λ _ _ _=>rfl) (λ _ _ _ _ _=>(ya (P:=P) (w:=w) rfl rfl (hr.in1.deeper _).units (pv 1) (pv 0) (pv 2) ⟨rfl,rfl,rfl,rfl⟩)) rfl T.EG (aa (pv 3) ai)))
 (ao (cQ (fW cj eL eN cN (pv 4) (aa (pv 5) ai)))
 (aC (aT (i:=3) iu.nd rfl (av rfl) (gA hr.units (pv 0) (pv 5) (λ _ _=>rfl)))))))
 (aC (bB (pv 4)))))),?_⟩
 show (_:TS) (Ends.mk _ _ _ _) [_,_,_,_,_,_] H
 walk_at "start"
 walk_at "go"
 refine G8 hd ?_
 intro cl H1 n1
 walk_at "go"
 rename_i wa H2 n2
 have s2:=n1.same.trans n2.same
 have Rz:H wa=none:=n1.same.free n2.1
 have hne:cl ≠ wa:=λ z=>by have:=n1.self; rw [z,n2.1] at this; cases this
 have ek:(kvs.map λ e=>V.ref e.2.1).length=kvs.length:=aq _
 generalize BG:kvs.map (·.1)=ks at *
 have hv1:aQ H2 (kvs.map λ e=>V.ref e.2.1) ks:=by
  have go:∀ {l:cZ},(∀ x∈l,aJ H (.ref x.2.1) x.1)->aQ H2 (l.map λ e=>V.ref e.2.1) (l.map (·.1)):=λ {l}=>by
   induction l with
   | nil=>intro _; exact .nil
   | cons x l ih=>intro h; exact .cons (aJ.same (h x (by simp)) s2) (ih λ y hy=>h y (cu _ hy))
  rw [<- BG]
  exact go hk
 refine su (λ m σ' H'=>∃ cl y5 vs cs us dn,σ'=[some (.ref d),some (.ref f),some (.int n),some (.ref cl),some (.ref wa),y5] /\ fY bz H H' /\ BN H' /\ H' cl=some (.lst vs) /\ aQ H' vs cs /\ (∀ x∈cs,x∈ks) /\ cs.length <= 4000 /\ cl ≠ wa /\ H' wa=some (.lst us) /\ aQ H' us dn /\ dn.length <= n /\ dn++gk L (dO F n) (n - dn.length) cs=gk L (dO F n) n ks /\ m=n - dn.length) ?_ ?_
 ·exact ⟨_,cl,_,_,ks,[],[],rfl,s2.P9,tab.same s2,n2.keep n1.self,hv1,λ _ h=>h,hok.2.1,hne,n2.self,.nil,aL _,rfl,rfl⟩
 clear hv1 hne n1 n2 s2 ek
 rintro m σ' H3 ⟨cl,y5,vs,cs,us,dn,rfl,s3,pX,hcl,hvs,hcs,ZY,hne,BP,jy,hdn,hw,rfl⟩
 have hvl:=hvs.length
 have HE:=jy.length
 walk_at "go"
 have fin:gk L (dO F n) (n - dn.length) cs=[]->Vj [some (.ref d),some (.ref f),some (.int n),some (.ref cl),some (.ref wa),y5] H3:=λ e=>by
  refine uQ _ _ ?_
  clear uQ
  walk_at "go"
  rw [e,eE] at hw
  exact q wa us H3 s3 pX Rz BP (by rw [<- hw]; exact jy)
 rcases vs with _ | ⟨v0,vr⟩
 ·refine xj rfl (fin ?_)
  cases hvs
  exact sS _ _ _
 refine xh rfl ?_
 walk_at "go"
 ·rename_i hlt
  refine Hr ?_
  walk_at "go"
  refine Mu pX λ c fq ctv H4 s4 ZZ hcc Ir=>?_
  have t4:=fY.tups pX s4
  have np:∀ {b:Addr} {xs:List V},H3 b=some (.lst xs)->b ≠ bz:=λ h=>pX.ne h λ _ z=>nomatch z
  have ne:∀ {b:Addr} {φ:Heap->Prop},H b=some (.ext φ)->b ≠ bz:=λ h=>tab.ne h λ _ z=>nomatch z
  have MZ:=s3.trans s4
  have Nf:=aQ.tups hvs t4
  have RA:=s4 _ _ (np hcl) hcl
  have RB:=s4 _ _ (np BP) BP
  have Wy:=aQ.tups jy t4
  have F0:=MZ _ _ (ne hf) hf
  have JT:=MZ _ _ (ne hd) hd
  have Wz:=fY.tups tab MZ
  have WA:=bw.tups Kf Wz
  have HW:=bw.tups hk Wz
  clear hcl hvs BP jy s4 s3 pX t4 np uQ fin
  have Z0:=vG Nf
  have WB:cs ≠ []:=λ z=>by rw [z] at hvl; cases hvl
  obtain ⟨h,eh,Z1,_⟩:=iC (g:=dO F n) WB
  obtain ⟨v,hv,JX⟩:=fR Nf eh
  refine ⟨cl,(v0 :: vr).map adr,fq,c,ctv,Cn (dO F n) cs,rfl,rfl,bI.of (by rw [<- Z0]; exact RA),ZZ,hcc,by simp,λ i a ha=>?_,λ a ha=>?_⟩
  ·rw [aS] at ha
   obtain ⟨x,hx,rfl⟩:=fB.mp ha
   obtain ⟨k,hk,hxk⟩:=aX Nf hx
   rw [hxk.adr] at hxk
   refine JB ?_
   walk_at "go"
   refine ⟨f,wH,mW,rfl,F0,?_⟩
   walk_at "go"
   refine ⟨adr x,wH,mW,k,rfl,⟨F0,WA⟩,hxk,?_,rfl⟩
   rw [vF hF]
   unfold Cn
   rw [hk]
   rfl
  ·have ea:V.ref a=v:=by
    rw [aq,hvl,aS,hv] at ha
    rw [<- Option.some.inj ha]
    exact JX.adr.symm
   subst ea
   walk_at "go"
   rename_i H5 p5
   have t5:=eX RB p5
   have Z2:d ≠ wa:=λ z=>by rw [z,Rz] at hd; cases hd
   have JY:=hcs h Z1
   have hL:=hok.2.2 h JY
   obtain ⟨x,Fd,rfl,hxv⟩:=nG (kvs:=kvs) (k:=h) (by rw [BG]; exact hok.1) (by rw [BG]; exact JY)
   obtain ⟨b,bs,eb,hb,vz⟩:=hl x Fd
   have X0:b ≠ wa:=λ z=>by rw [z,Rz] at hb; cases hb
   refine jO (p5.keep Z2 JT) (bw.tups HW t5) (aJ.tups JX t5) (hxv.trans (congrArg some eb)) ?_
   refine EC _ _ ⟨n - (dn.length + 1),by omega,b,_,bs,L x.1,us++[.ref a],dn++[x.1],rfl,λ c o hc e=>p5.keep (λ z=>by rw [z,Rz] at e; cases e) (MZ c o hc e),Ir.put RB p5,p5.keep X0 (MZ _ _ (tab.ne hb λ _ z=>nomatch z) hb),aQ.tups (aQ.tups vz Wz) t5,hL.2,by omega,X0,p5.self,bQ (aQ.tups Wy t5) (aJ.tups JX t5),by rw [aN,dW]; omega,?_,by rw [aN,dW]⟩
   obtain ⟨m,em⟩:∃ m,n - dn.length=m + 1:=⟨n - dn.length - 1,by omega⟩
   rw [em,jr eh] at hw
   rw [aN,dW,show n - (dn.length + 1)=m by omega,c8]
   exact hw
 ·rename_i hge
  have e0:n - dn.length=0:=by omega
  rw [e0] at hw
  have e1:gk L (dO F n) 0 cs=[]:=rfl
  rw [e1,eE] at hw
  exact q wa us H3 s3 pX Rz BP (by rw [<- hw]; exact jy)
def BQ:Sp:=λ vs H Q _=>∃ (c:Addr) (us:List V) (rs:List Row),vs=[.ref c] /\ H c=some (.lst us) /\ Rows H us rs /\ (∀ r∈rs,r.ok rs.length) /\ rs.length <= 200 /\ BN H /\
 (gh (aH rs rs.length) (bP rs)->(∀ k r t,rs[k]? = some r->t∈bF rs k->fQ rs r t (bP rs ((k:Int),t)))->(∀ H',aG H H'->(∀ F,¬ d7 (aH rs rs.length) (bP rs) F)->Q .cP H') /\ ∀ (b:Addr) (us:List V) (F:List (HM.aR × Int)) (H':Hp),fY bz H H'->BN H'->H b=none->H' b=some (.lst us)->d7 (aH rs rs.length) (bP rs) F->aQ H' us (gk (bP rs) (dO F (aH rs rs.length).length) (aH rs rs.length).length (aH rs rs.length))->Q (.ref b) H')
theorem yz(T:Txt w K mg)(hB:base.BuiltinsAt mg bz):cJ P w K mg base ji 7 T.longest.f T.longest.d ["code"] BQ:=by
 refine T.longest.F.ok j6 (λ vs H Q E h=>?_) (λ cdv A outer s H vs Q E hr h=>?_)
 ·obtain ⟨c,us,rs,rfl,_⟩:=h
  rfl
 obtain ⟨c,us,rs,rfl,hc,hrs,hok,hn,tab,q⟩:=h
 refine ⟨_,(ao (aT (i:=1) j6.nd rfl (av rfl) (bO T.lu (pQ T) hr (aa (pv 0) ai)))
 (ao (aT (i:=2) j6.nd rfl (av rfl) (bO T.ly (pW T) hr (aa (pv 1) ai)))
 (aC (bB (gw (aW zc (pv 2) oq (cI _)) oq (bO T.mF.toDD (BO T hB) hr (aa (pv 1) (aa (pv 2) (aa (bA (mw) rfl T.fZ BT.fX (aa (pv 1) ai)) ai))))))))),?_⟩
 show (_:TS) (Ends.mk _ _ _ _) [_,_,_] H
 walk_at "start"
 walk_at "go"
 refine ⟨c,us,rs,rfl,hc,hrs,hok,hn,λ d ep kvs H1 s1 fd hd hk em hla=>?_⟩
 obtain ⟨wI,gj⟩:=vE hok hn em hla
 obtain ⟨q0,q1⟩:=q wI gj
 have Cm:kvs.length=(aH rs rs.length).length:=by rw [<- em,aq]
 have NG:=vD hla
 walk_at "go"
 refine ⟨d,ep,kvs,bP rs,rfl,hd,hk,NG,by rw [em]; exact wI,λ H2 s2 no=>?_,λ f wH mW F H2 s2 ff hf Kf hF e=>?_⟩
 ·rw [em] at no
  walk_at "go"
  exact q0 H2 (s1.trans s2) no
 ·rw [em] at e
  have hd2:=s2 _ _ hd
  walk_at "go"
  refine ⟨d,f,ep,wH,kvs.length,kvs,mW,bP rs,F,rfl,hd2,hk.same s2,cG.same NG s2,by rw [em]; exact wI,hf,Kf,hF,by rw [Cm]; exact wI.2.1,tab.same (s1.trans s2),λ b us H3 s3 pX fb hb jy=>?_⟩
  rw [em,Cm] at jy
  have s12:=s1.trans s2
  exact q1 b us F H3 (s12.P9.trans s3) pX (s12.free fb) hb e jy
end
def sU(K:ay):Sp:=λ vs H Q E=>Qy K vs H Q E /\ H bz=some (.lJ #[])
structure gK (rs:List Row) (m b:Nat) (bx:Nat->Int) (v:Int):Prop where
 len:rs.length=m + b + 2
 mr:∀ p:Nat,p < m->rs[p]? = some (.mark ((p:Int) + 1))
 cp:∀ i:Nat,i + 1 < b->rs[m + i]? = some (.copy 2 (bx (b - 1 - i)) (bx (b - 2 - i)) ((m:Int) + i + 1))
 nm:rs[m + b - 1]? = some (.num 2 (bx 0) v ((m:Int) + b))
 fk:rs[m + b]? = some (.fork (bx (b - 1)) 0 ((m:Int) + b + 1))
 bk:rs[m + b + 1]? = some (.back (bx (b - 1)))
 inj:∀ i j:Nat,i < b->j < b->bx i=bx j->i=j
 tD:∀ i:Nat,i < b->0 <= bx i /\ bx i < 8
 hm:1 <= m
 hb:2 <= b
 hv:isVal v
def g9(m b p j:Nat):Prop:=(p <= m + b /\ j + 1 < b /\ p ≠ m + (b - 1 - j)) \/ (j + 1=b /\ m < p /\ p <= m + b + 1)
inductive At (m b:Nat) (bx:Nat->Int) (v:Int):Nat->Row->Prop
 | mark {p:Nat} (h:p < m):At m b bx v p (.mark ((p:Int) + 1))
 | copy {p i:Nat} (e:p=m + i) (h:i + 1 < b):At m b bx v p (.copy 2 (bx (b - 1 - i)) (bx (b - 2 - i)) ((p:Int) + 1))
 | num {p:Nat} (e:p=m + b - 1):At m b bx v p (.num 2 (bx 0) v ((p:Int) + 1))
 | fork {p:Nat} (e:p=m + b):At m b bx v p (.fork (bx (b - 1)) 0 ((p:Int) + 1))
 | back {p:Nat} (e:p=m + b + 1):At m b bx v p (.back (bx (b - 1)))
section
variable {rs:List Row}{m b:Nat}{bx:Nat->Int}{v:Int}
theorem gK.at(C:gK rs m b bx v){p:Nat}{r:Row}(h:rs[p]? = some r):At m b bx v p r:=by
 have hl:=(e9 h).1
 rw [C.len] at hl
 have hb:=C.hb
 rcases bG p m with h1 | h1
 ·rw [C.mr p h1] at h; cases h; exact .mark h1
 rcases bG p (m + b - 1) with h2 | h2
 ·obtain ⟨i,rfl⟩:∃ i,p=m + i:=⟨p - m,by omega⟩
  rw [C.cp i (by omega)] at h; cases h
  exact .copy rfl (by omega)
 rcases bG p (m + b) with h3 | h3
 ·obtain rfl:p=m + b - 1:=by omega
  rw [C.nm] at h; cases h
  have e:((m:Int) + b)=((m + b - 1:Nat):Int) + 1:=by omega
  rw [e]
  exact .num rfl
 rcases bG p (m + b + 1) with h4 | h4
 ·obtain rfl:p=m + b:=by omega
  rw [C.fk] at h; cases h; exact .fork rfl
 ·obtain rfl:p=m + b + 1:=by omega
  rw [C.bk] at h; cases h; exact .back rfl
theorem gK.ok(C:gK rs m b bx v):∀ r∈rs,r.ok rs.length:=λ r hr=>by
 obtain ⟨p,hp⟩:=dX.mp hr
 have hl:=(e9 hp).1
 have hb:=C.hb
 rw [C.len] at hl ⊢
 cases C.at hp with
 | mark h=>exact ⟨by omega,by push_cast; omega⟩
 | @copy i e h=>exact ⟨⟨by decide,by decide⟩,C.tD _ (by omega),C.tD _ (by omega),by omega,by push_cast; omega⟩
 | num e=>exact ⟨⟨by decide,by decide⟩,C.tD _ (by omega),C.hv,by omega,by push_cast; omega⟩
 | fork e=>exact ⟨C.tD _ (by omega),⟨by omega,by push_cast; omega⟩,by omega,by push_cast; omega⟩
 | back e=>exact C.tD _ (by omega)
theorem Tz(s:Int):(decide ((2:Int)=s) || decide ((2:Int)=2))=true:=by simp
theorem Al(q s:Int):(Row.mark q).rd s=[]:=rfl
theorem nH(k i q s:Int):(Row.copy 2 k i q).rd s=[i]:=by
 unfold Row.rd
 rw [show (Row.copy 2 k i q).sd=2 from rfl,Tz]; rfl
theorem Fq(k w q s:Int):(Row.num 2 k w q).rd s=[]:=by
 unfold Row.rd
 rw [show (Row.num 2 k w q).sd=2 from rfl,Tz]; rfl
theorem Iu(i q p s:Int):(Row.fork i q p).rd s=[i]:=rfl
theorem Iv(i s:Int):(Row.back i).rd s=[i]:=rfl
theorem nI(k i q s:Int):(Row.copy 2 k i q).gv s=k:=by
 unfold Row.gv
 rw [show (Row.copy 2 k i q).sd=2 from rfl,Tz]; rfl
theorem yC(k w q s:Int):(Row.num 2 k w q).gv s=k:=by
 unfold Row.gv
 rw [show (Row.num 2 k w q).sd=2 from rfl,Tz]; rfl
theorem Am(q s:Int):(Row.mark q).gv s = -1:=rfl
theorem sV(i q p s:Int):(Row.fork i q p).gv s = -1:=rfl
theorem gK.Iw(C:gK rs m b bx v)(hs:s=0 \/ s=1)(hx:0 <= x)(h:bK rs (s,x) p):∃ j,j < b /\ x=bx j /\ g9 m b p j:=by
 have hb:=C.hb
 refine jo (S:=λ p=>∃ j,j < b /\ x=bx j /\ g9 m b p j) (λ k r hr hm=>?_) (λ k q r hr hm hw hS=>?_) p h
 ·have hok:=C.ok r (fm hr)
  rw [iz hok hs] at hm
  cases C.at hr with
  | mark h=>rw [Al] at hm; exact nomatch hm
  | @copy i e h =>
   rw [nH,au] at hm
   exact ⟨b - 2 - i,by omega,hm,.inl ⟨by omega,by omega,by omega⟩⟩
  | num e=>rw [Fq] at hm; exact nomatch hm
  | fork e =>
   rw [Iu,au] at hm
   exact ⟨b - 1,by omega,hm,.inr ⟨by omega,by omega,by omega⟩⟩
  | back e =>
   rw [Iv,au] at hm
   exact ⟨b - 1,by omega,hm,.inr ⟨by omega,by omega,by omega⟩⟩
 ·have hok:=C.ok r (fm hr)
  rw [d9 hok hs hx] at hm
  obtain ⟨j,hj,rfl,hl⟩:=hS
  refine ⟨j,hj,rfl,?_⟩
  cases C.at hr with
  | mark h =>
   have hw:(q:Int)=(k:Int) + 1:=au.mp hw
   unfold g9 at hl ⊢
   omega
  | @copy i e h =>
   have hw:(q:Int)=(k:Int) + 1:=au.mp hw
   rw [nI] at hm
   have:j ≠ b - 1 - i:=λ z=>hm (by rw [z])
   unfold g9 at hl ⊢
   omega
  | num e =>
   have hw:(q:Int)=(k:Int) + 1:=au.mp hw
   rw [yC] at hm
   have:j ≠ 0:=λ z=>hm (by rw [z])
   unfold g9 at hl ⊢
   omega
  | fork e =>
   have hw:(q:Int)=0 \/ (q:Int)=(k:Int) + 1:=by
    rcases aB.mp hw with h | h
    ·exact .inl h
    ·exact .inr (au.mp h)
   unfold g9 at hl ⊢
   omega
  | back e=>exact nomatch hw
theorem gK.row(C:gK rs m b bx v)(h:p < m + b + 2):∃ r,rs[p]? = some r /\ At m b bx v p r:=by
 have hp:p < rs.length:=by rw [C.len]; exact h
 exact ⟨_,dB hp,C.at (dB hp)⟩
theorem gK.Iz(C:gK rs m b bx v)(hs:s=0 \/ s=1)(hj:j < b)(hp:p <= m + b)(hg:p < m + b->p ≠ m + (b - 1 - j))(hl:bK rs (s,bx j) (p + 1)):bK rs (s,bx j) p:=by
 obtain ⟨r,hr,ha⟩:=C.row (p:=p) (by omega)
 have hok:=C.ok r (fm hr)
 have hb:=C.hb
 have hx:=(C.tD j hj).1
 have ng:r.gv s ≠ bx j->(s,bx j) ∉ aU r:=λ h z=>h ((d9 hok hs hx).mp z)
 cases ha with
 | mark h=>exact .on hr (ng (by rw [Am]; omega)) (au.mpr (by omega)) hl
 | @copy i e h =>
  refine .on hr (ng ?_) (au.mpr (by omega)) hl
  rw [nI]
  intro z
  have:=C.inj _ _ (by omega) hj z
  have:=hg (by omega)
  omega
 | num e =>
  refine .on hr (ng ?_) (au.mpr (by omega)) hl
  rw [yC]
  intro z
  have:=C.inj _ _ (by omega) hj z
  have:=hg (by omega)
  omega
 | fork e=>exact .on hr (ng (by rw [sV]; omega)) (cu _ (au.mpr (by omega))) hl
 | back e=>omega
theorem gK.lG(C:gK rs m b bx v)(hs:s=0 \/ s=1){q:Nat}(hj:j < b)(hq:q <= m + b + 1)(hl:bK rs (s,bx j) q):∀ (n p:Nat),p + n=q->(∀ k,p <= k->k < q->k < m + b->k ≠ m + (b - 1 - j))->bK rs (s,bx j) p
 | 0,p,e,_=>by rw [show p=q by omega]; exact hl
 | n + 1,p,e,h=>C.Iz hs hj (by omega) (h p (ak _) (by omega)) (C.lG hs hj hq hl n (p + 1) (by omega) λ k h1 h2=>h k (by omega) h2)
theorem gK.Ft(C:gK rs m b bx v)(hs:s=0 \/ s=1)(h:g9 m b p j):bK rs (s,bx j) p:=by
 have hb:=C.hb
 have hok:=C.ok
 have here:∀ {p:Nat} {r:Row} {x:Int},rs[p]? = some r->x∈r.rd s->bK rs (s,x) p:=λ hr hx=>.here hr ((iz (hok _ (fm hr)) hs).mpr hx)
 rcases h with ⟨h1,h2,h3⟩ | ⟨h1,h2,h3⟩
 ·have hc:bK rs (s,bx j) (m + (b - 2 - j)):=here (C.cp (b - 2 - j) (by omega)) (by rw [nH,show b - 2 - (b - 2 - j)=j by omega]; exact au.mpr rfl)
  rcases bG (m + (b - 2 - j)) p with h4 | h4
  ·have h0:bK rs (s,bx j) 0:=C.lG hs (by omega) (by omega) hc (m + (b - 2 - j)) 0 (by omega) λ k _ h _=>by omega
   have hf:bK rs (s,bx j) (m + b):=.on C.fk (λ z=>by
    have:=(d9 (hok _ (fm C.fk)) hs (C.tD j (by omega)).1).mp z
    rw [sV] at this
    have:=(C.tD j (by omega)).1
    omega) (aB.mpr (.inl rfl)) h0
   exact C.lG hs (by omega) (by omega) hf (m + b - p) p (by omega) λ k h5 h6 _=>by omega
  ·exact C.lG hs (by omega) (by omega) hc (m + (b - 2 - j) - p) p (by omega) λ k _ h5 _=>by omega
 ·obtain rfl:j=b - 1:=by omega
  have hk:bK rs (s,bx (b - 1)) (m + b + 1):=here C.bk (au.mpr rfl)
  exact C.lG hs (by omega) (by omega) hk (m + b + 1 - p) p (by omega) λ k h5 h6 _=>by omega
theorem gK.live(C:gK rs m b bx v)(hs:s=0 \/ s=1)(hx:0 <= x /\ x < 8):(s,x)∈iV rs p ↔ ∃ j,j < b /\ x=bx j /\ g9 m b p j:=by
 unfold iV
 rw [eG,iP]
 refine ⟨λ h=>C.Iw hs hx.1 h.2,λ ⟨j,_,e,h⟩=>⟨mU hs hx,?_⟩⟩
 rw [e]
 exact C.Ft hs h
def vC(m b p j:Nat):Int:=if p <= m + (b - 2 - j) /\ j + 1 < b then ((m:Int) + b + 1 - p) + ((m:Int) + b + 1) * ((b:Int) - 2 - j) + 1 else ((m:Int) + b + 1 - p) + ((m:Int) + b + 1) * ((b:Int) - 1 - j) + 1
def vM(m b p:Nat):Int:=if p < m \/ p=m + b + 1 then 1 else (m:Int) + b + 1 - p + 1
theorem gK.next(C:gK rs m b bx v)(hs:s=0 \/ s=1)(hr:rs[p]? = some r)(hj:j < b)(hl:g9 m b p j):
  (p=m + b + 1 /\ j + 1=b /\ ∀ z,¬ dz rs r (some (s,bx j)) z) \/ ∃ p' j':Nat,p < m + b + 1 /\ p' < m + b + 2 /\ j' < b /\ g9 m b p' j' /\ (j'=j \/ j'=j + 1) /\ vC m b p j=vC m b p' j' + 1 /\ ∀ z,dz rs r (some (s,bx j)) z ↔ z=((p':Int),some (s,bx j')):=by
 have hb:=C.hb
 have hx:=C.tD j hj
 have lv:∀ (q:Nat) (i:Nat),i < b->(dw.lv rs q (some (s,bx i)) ↔ g9 m b q i):=λ q i hi=>by
  show (s,bx i)∈iV rs q ↔ _
  rw [C.live hs (C.tD i hi)]
  refine ⟨λ ⟨j',h1,h2,h3⟩=>?_,λ h=>⟨i,hi,rfl,h⟩⟩
  rw [C.inj i j' hi h1 h2]
  exact h3
 have ar:((m:Int) + b + 1) * ((b:Int) - 1 - j)=((m:Int) + b + 1) * ((b:Int) - 2 - j) + ((m:Int) + b + 1):=by
  rw [show (b:Int) - 1 - j=((b:Int) - 2 - j) + 1 by omega,Int.mul_add,Int.mul_one]
 have one:∀ (p':Nat),LeftOf r (some (s,bx j))=(λ u=>u=some (s,bx j))->r.ways=[(p':Int)]->g9 m b p' j->∀ z,dz rs r (some (s,bx j)) z ↔ z=((p':Int),some (s,bx j)):=λ p' e1 e2 h z=>by
  obtain ⟨zp,zt⟩:=z
  unfold dz
  rw [e1,e2]
  dsimp only
  constructor
  ·rintro ⟨h1,rfl,_⟩
   rw [au.mp h1]
  ·intro e
   cases e
   exact ⟨au.mpr rfl,rfl,(lv _ j hj).mpr h⟩
 cases C.at hr with
 | mark h =>
  refine .inr ⟨p + 1,j,by omega,by omega,hj,?_,.inl rfl,?_,one (p + 1) ?_ (by show [(p:Int) + 1]=_; simp) ?_⟩
  ·unfold g9 at hl ⊢; omega
  ·unfold g9 at hl
   unfold vC
   split <;> split <;> omega
  ·funext u
   unfold LeftOf
   dsimp only
   rw [Am,Al]
   have e:(Row.mark ((p:Int) + 1)).ends (some (s,bx j))=false:=rfl
   rw [e]
   have:(-1:Int) ≠ bx j:=by omega
   simp [this]
  ·unfold g9 at hl ⊢; omega
 | @copy i e h =>
  have e0:(Row.copy 2 (bx (b - 1 - i)) (bx (b - 2 - i)) ((p:Int) + 1)).ends (some (s,bx j))=false:=rfl
  have hne:j ≠ b - 1 - i:=by unfold g9 at hl; omega
  have MS:bx (b - 1 - i) ≠ bx j:=λ z=>hne (C.inj _ _ (by omega) hj z).symm
  by_cases X3:j=b - 2 - i
  ·refine .inr ⟨p + 1,j + 1,by omega,by omega,by omega,?_,.inr rfl,?_,λ z=>?_⟩
   ·unfold g9 at hl ⊢; omega
   ·unfold vC
    rw [show ((b:Int) - 2 - ((j + 1:Nat):Int))=(b:Int) - 3 - j by omega,show ((b:Int) - 1 - ((j + 1:Nat):Int))=(b:Int) - 2 - j by omega]
    split <;> split <;> omega
   ·obtain ⟨zp,zt⟩:=z
    unfold dz LeftOf
    dsimp only
    rw [e0,nI,nH]
    have ej:b - 1 - i=j + 1:=by omega
    constructor
    ·rintro ⟨h1,⟨_,h2⟩,h3⟩
     have h1:=au.mp h1
     subst h1
     rcases h2 with ⟨rfl,_⟩ | ⟨rfl,_⟩
     ·have h4:=(lv (p + 1) j hj).mp (by rw [show ((p:Int) + 1).toNat=p + 1 by omega] at h3; exact h3)
      unfold g9 at h4
      omega
     ·rw [ej]; simp
    ·intro z
     cases z
     refine ⟨au.mpr (by simp),⟨rfl,.inr ⟨by rw [ej],by rw [ej]; exact (C.tD _ (by omega)).1,by rw [X3]; exact au.mpr rfl⟩⟩,?_⟩
     rw [show (((p + 1:Nat):Int)).toNat=p + 1 by omega,lv _ _ (by omega)]
     unfold g9 at hl ⊢; omega
  ·refine .inr ⟨p + 1,j,by omega,by omega,hj,?_,.inl rfl,?_,one (p + 1) ?_ (by show [(p:Int) + 1]=_; simp) ?_⟩
   ·unfold g9 at hl ⊢; omega
   ·unfold g9 at hl
    unfold vC
    split <;> split <;> omega
   ·funext u
    unfold LeftOf
    dsimp only
    rw [e0,nI,nH]
    have:¬ bx j=bx (b - 2 - i):=λ z=>X3 (C.inj _ _ hj (by omega) z)
    simp [this,MS]
   ·unfold g9 at hl ⊢; omega
 | num e =>
  have hne:j ≠ 0:=by unfold g9 at hl; omega
  refine .inr ⟨p + 1,j,by omega,by omega,hj,?_,.inl rfl,?_,one (p + 1) ?_ (by show [(p:Int) + 1]=_; simp) ?_⟩
  ·unfold g9 at hl ⊢; omega
  ·unfold g9 at hl
   unfold vC
   split <;> split <;> omega
  ·funext u
   unfold LeftOf
   dsimp only
   rw [yC,Fq]
   have e:(Row.num 2 (bx 0) v ((p:Int) + 1)).ends (some (s,bx j))=false:=rfl
   rw [e]
   have:¬ bx 0=bx j:=λ z=>hne (C.inj _ _ (by omega) hj z).symm
   simp [this]
  ·unfold g9 at hl ⊢; omega
 | fork e =>
  have e0:(Row.fork (bx (b - 1)) 0 ((p:Int) + 1)).ends (some (s,bx j))=false:=rfl
  have el:LeftOf (Row.fork (bx (b - 1)) 0 ((p:Int) + 1)) (some (s,bx j))=λ u=>u=some (s,bx j):=by
   funext u
   unfold LeftOf
   dsimp only
   rw [e0,sV]
   have:(-1:Int) ≠ bx j:=by omega
   simp [this]
  have ew:(Row.fork (bx (b - 1)) 0 ((p:Int) + 1)).ways=[0,(p:Int) + 1]:=rfl
  by_cases X4:j + 1 < b
  ·refine .inr ⟨0,j,by omega,by omega,hj,?_,.inl rfl,?_,λ z=>?_⟩
   ·unfold g9; omega
   ·unfold vC
    split <;> split <;> omega
   ·obtain ⟨zp,zt⟩:=z
    unfold dz
    rw [el,ew]
    dsimp only
    constructor
    ·rintro ⟨h1,rfl,h3⟩
     rcases aB.mp h1 with rfl | h1
     ·rfl
     ·rw [au.mp h1,show ((p:Int) + 1).toNat=p + 1 by omega,lv _ _ hj] at h3
      unfold g9 at h3
      omega
    ·intro z
     cases z
     refine ⟨aB.mpr (.inl rfl),rfl,(lv _ _ hj).mpr ?_⟩
     unfold g9
     show (0 <= m + b /\ _) \/ _
     omega
  ·refine .inr ⟨p + 1,j,by omega,by omega,hj,?_,.inl rfl,?_,λ z=>?_⟩
   ·unfold g9; omega
   ·unfold vC
    split <;> split <;> omega
   ·obtain ⟨zp,zt⟩:=z
    unfold dz
    rw [el,ew]
    dsimp only
    constructor
    ·rintro ⟨h1,rfl,h3⟩
     rcases aB.mp h1 with rfl | h1
     ·have h3:=(lv 0 j hj).mp h3
      unfold g9 at h3
      omega
     ·rw [au.mp h1]; simp
    ·intro z
     cases z
     refine ⟨cu _ (au.mpr (by simp)),rfl,?_⟩
     rw [show (((p + 1:Nat):Int)).toNat=p + 1 by omega]
     refine (lv _ _ hj).mpr ?_
     unfold g9
     omega
 | back e =>
  refine .inl ⟨e,by unfold g9 at hl; omega,λ z h=>?_⟩
  exact nomatch h.1
theorem gK.BR(C:gK rs m b bx v)(hr:rs[p]? = some r):
  (vM m b p=1 /\ ∀ z,¬ dz rs r none z) \/ (1 < vM m b p /\ p < m + b + 1 /\ ∃ p':Nat,p' < m + b + 2 /\ dz rs r none ((p':Int),none) /\ ∀ z,dz rs r none z->∃ q:Nat,q < m + b + 2 /\ z=((q:Int),none) /\ vM m b q=vM m b p - 1):=by
 have hb:=C.hb
 have hm:=C.hm
 have go:∀ (p':Nat),r.ends none=false->r.ways=[(p':Int)]->p' < m + b + 2->vM m b p'=vM m b p - 1->(∃ p':Nat,p' < m + b + 2 /\ dz rs r none ((p':Int),none) /\ ∀ z,dz rs r none z->∃ q:Nat,q < m + b + 2 /\ z=((q:Int),none) /\ vM m b q=vM m b p - 1):=λ p' e1 e2 e3 e4=>by
  refine ⟨p',e3,⟨by rw [e2]; exact au.mpr rfl,⟨e1,rfl⟩,trivial⟩,λ z h=>⟨p',e3,?_,e4⟩⟩
  obtain ⟨h1,h2,_⟩:=h
  rw [e2] at h1
  exact Prod.ext (au.mp h1) h2.2
 cases C.at hr with
 | mark h=>exact .inl ⟨by unfold vM; rw [if_pos (.inl h)],λ z hz=>by have:=hz.2.1.1; cases this⟩
 | @copy i e h =>
  refine .inr ⟨by unfold vM; split <;> omega,by omega,go (p + 1) rfl (by show [(p:Int) + 1]=_; simp) (by omega) ?_⟩
  unfold vM
  split <;> split <;> omega
 | num e =>
  refine .inr ⟨by unfold vM; split <;> omega,by omega,go (p + 1) rfl (by show [(p:Int) + 1]=_; simp) (by omega) ?_⟩
  unfold vM
  split <;> split <;> omega
 | fork e =>
  refine .inr ⟨by unfold vM; split <;> omega,by omega,0,by omega,⟨aB.mpr (.inl rfl),⟨rfl,rfl⟩,trivial⟩,λ z h=>?_⟩
  obtain ⟨h1,h2,_⟩:=h
  rcases aB.mp h1 with h1 | h1
  ·exact ⟨0,by omega,Prod.ext h1 h2.2,by unfold vM; split <;> split <;> omega⟩
  ·exact ⟨p + 1,by omega,Prod.ext (by rw [au.mp h1]; simp) h2.2,by unfold vM; split <;> split <;> omega⟩
 | back e=>exact .inl ⟨by unfold vM; rw [if_pos (.inr e)],λ z hz=>nomatch hz.1⟩
open Classical in
def TF(b:Nat)(bx:Nat->Int)(x:Int):Nat:=if e:∃ j,j < b /\ x=bx j then e.choose else 0
theorem gK.jx(C:gK rs m b bx v)(hj:j < b):TF b bx (bx j)=j:=by
 have e:∃ i,i < b /\ bx j=bx i:=⟨j,hj,rfl⟩
 unfold TF
 rw [dif_pos e]
 exact (C.inj _ _ hj e.choose_spec.1 e.choose_spec.2).symm
def pY(m b:Nat)(bx:Nat->Int)(h:HM.aR):Int:=match h.2 with
 | none=>vM m b h.1.toNat
 | some q=>vC m b h.1.toNat (TF b bx q.2)
theorem gK.eZ(C:gK rs m b bx v)(hj:j < b):pY m b bx ((p:Int),some (s,bx j))=vC m b p j:=by
 show vC m b (p:Int).toNat (TF b bx (bx j))=_
 rw [C.jx hj,eB]
theorem gK.pos(C:gK rs m b bx v)(hj:j < b)(hl:g9 m b p j):1 <= vC m b p j /\ (vC m b p j=1->j + 1=b) /\ vC m b p j <= ((m:Int) + b + 1) * ((b:Int) - 1) + 2 /\ (vC m b p j=((m:Int) + b + 1) * ((b:Int) - 1) + 2->p=m + b /\ j=0):=by
 have hb:=C.hb
 have h1:(0:Int) <= ((m:Int) + b + 1) * ((b:Int) - 1 - j):=Int.mul_nonneg (by omega) (by omega)
 have e1:((m:Int) + b + 1) * ((b:Int) - 1)=((m:Int) + b + 1) * ((b:Int) - 1 - j) + ((m:Int) + b + 1) * (j:Int):=by rw [<- Int.mul_add]; congr 1; omega
 have h2:(0:Int) <= ((m:Int) + b + 1) * (j:Int):=Int.mul_nonneg (by omega) (by omega)
 have e2:((m:Int) + b + 1) * ((b:Int) - 1 - j)=((m:Int) + b + 1) * ((b:Int) - 2 - j) + ((m:Int) + b + 1):=by
  rw [show (b:Int) - 1 - j=((b:Int) - 2 - j) + 1 by omega,Int.mul_add,Int.mul_one]
 have h3:j + 1 < b->(0:Int) <= ((m:Int) + b + 1) * ((b:Int) - 2 - j):=λ h=>Int.mul_nonneg (by omega) (by omega)
 have h4:j ≠ 0->((m:Int) + b + 1) <= ((m:Int) + b + 1) * (j:Int):=λ h=>by
  have:=Int.mul_le_mul_of_nonneg_left (show (1:Int) <= (j:Int) by omega) (show (0:Int) <= (m:Int) + b + 1 by omega)
  omega
 have h5:j + 1=b->((m:Int) + b + 1) * ((b:Int) - 1 - j)=0:=λ h=>by rw [show (b:Int) - 1 - j=0 by omega,Int.mul_zero]
 unfold g9 at hl
 unfold vC
 by_cases hj0:j=0
 ·have e3:((m:Int) + b + 1) * (j:Int)=0:=by rw [hj0]; simp
  split
  ·rename_i h; have:=h3 h.2; omega
  ·omega
 ·have:=h4 hj0
  split
  ·rename_i h; have:=h3 h.2; omega
  ·omega
theorem gK.Ng(C:gK rs m b bx v){z:HM.aR}(hz:z∈aH rs rs.length):∃ p:Nat,p < m + b + 2 /\ ((z=((p:Int),none)) \/ ∃ (s:Int) (j:Nat),(s=0 \/ s=1) /\ j < b /\ g9 m b p j /\ z=((p:Int),some (s,bx j))):=by
 obtain ⟨p,hp,e,ht⟩:=dN.mp hz
 rw [C.len] at hp
 obtain ⟨zp,zt⟩:=z
 dsimp only at e ht
 subst e
 refine ⟨p,hp,?_⟩
 cases zt with
 | none=>exact .inl rfl
 | some q =>
  have hq:=mH rs p _ ht
  have hl:=iB.mp ht
  obtain ⟨s,x⟩:=q
  obtain ⟨j,hj,rfl,mS⟩:=(C.live hq.1 hq.2).mp hl
  exact .inr ⟨s,j,hq.1,hj,mS,rfl⟩
theorem gK.iQ(C:gK rs m b bx v)(hs:s=0 \/ s=1)(hp:p < m + b + 2)(hj:j < b)(hl:g9 m b p j):((p:Int),some (s,bx j))∈aH rs rs.length :=
 dN.mpr ⟨p,by rw [C.len]; exact hp,rfl,iB.mpr ((C.live hs (C.tD j hj)).mpr ⟨j,hj,rfl,hl⟩)⟩
theorem gK.An(C:gK rs m b bx v)(hp:p < m + b + 2):((p:Int),none)∈aH rs rs.length:=dN.mpr ⟨p,by rw [C.len]; exact hp,rfl,iB.mpr trivial⟩
theorem gK.all(C:gK rs m b bx v)(gj:∀ k r t,rs[k]? = some r->t∈bF rs k->fQ rs r t (bP rs ((k:Int),t))):d7 (aH rs rs.length) (bP rs) ((aH rs rs.length).map λ h=>(h,pY m b bx h)):=by
 have em:((aH rs rs.length).map λ h=>(h,pY m b bx h)).map (·.1)=aH rs rs.length:=by rw [eF]; exact List.map_id' _
 have TH:∀ {z:HM.aR} {n:Int},z∈aH rs rs.length->pY m b bx z=n->(z,n)∈(aH rs rs.length).map λ h=>(h,pY m b bx h):=λ {z n} h e=>aA.mpr ⟨z,h,by rw [e]⟩
 refine ⟨⟨by rw [em]; exact pV rs _,λ x hx=>?_,λ x hx=>?_,λ h hh no=>absurd (by rw [em]; exact hh) no⟩,aq _⟩
 ·obtain ⟨h,hh,rfl⟩:=aA.mp hx
  exact hh
 ·obtain ⟨z,hz,rfl⟩:=aA.mp hx
  dsimp only
  obtain ⟨p,hp,hc⟩:=C.Ng hz
  obtain ⟨r,hr,_⟩:=C.row hp
  obtain ⟨k,hk,ek,ht⟩:=dN.mp hz
  rcases hc with rfl | ⟨s,j,hs,hj,mS,rfl⟩
  ·have ek:(p:Int)=(k:Int):=ek
   obtain rfl:p=k:=by omega
   have hL:=gj p r none hr ht
   have ev:∀ q:Nat,pY m b bx ((q:Int),none)=vM m b q:=λ q=>by show vM m b (q:Int).toNat=_; rw [eB]
   rcases C.BR hr with ⟨e,no⟩ | ⟨e,h1,p',h2,h3,h4⟩
   ·have e0:bP rs ((p:Int),none)=[]:=List.eq_nil_iff_forall_not_mem.mpr λ o ho=>no o ((hL.2 o).mp ho)
    rw [e0,ev,e]
    exact ⟨by decide,(λ o ho=>nomatch ho),.inl ⟨rfl,rfl⟩⟩
   ·refine ⟨by rw [ev]; omega,λ o ho=>?_,.inr ⟨((p':Int),none),(hL.2 _).mpr h3,?_⟩⟩
    ·obtain ⟨q,hq,rfl,eq⟩:=h4 o ((hL.2 o).mp ho)
     exact ⟨_,TH (C.An hq) rfl,by rw [ev,ev]; omega⟩
    ·obtain ⟨q,hq,e1,eq⟩:=h4 _ h3
     have e1:(p':Int)=(q:Int):=congrArg Prod.fst e1
     obtain rfl:p'=q:=by omega
     exact TH (C.An h2) (by rw [ev,ev]; exact eq)
  ·have ek:(p:Int)=(k:Int):=ek
   obtain rfl:p=k:=by omega
   have hL:=gj p r _ hr ht
   have hpos:=C.pos hj mS
   rw [C.eZ hj]
   rcases C.next hs hr hj mS with ⟨e,ej,no⟩ | ⟨p',j',h1,h2,h3,h4,_,ev,h5⟩
   ·have e0:bP rs ((p:Int),some (s,bx j))=[]:=List.eq_nil_iff_forall_not_mem.mpr λ o ho=>no o ((hL.2 o).mp ho)
    rw [e0]
    refine ⟨hpos.1,(λ o ho=>nomatch ho),.inl ⟨?_,rfl⟩⟩
    unfold vC
    rw [if_neg (by omega),show (b:Int) - 1 - j=0 by omega,Int.mul_zero]
    omega
   ·refine ⟨hpos.1,λ o ho=>?_,.inr ⟨((p':Int),some (s,bx j')),(hL.2 _).mpr ((h5 _).mpr rfl),TH (C.iQ hs h2 h3 h4) ?_⟩⟩
    ·rw [(h5 o).mp ((hL.2 o).mp ho)]
     exact ⟨_,TH (C.iQ hs h2 h3 h4) rfl,by rw [C.eZ h3]; omega⟩
    ·rw [C.eZ h3]
     omega
theorem gK.delay(C:gK rs m b bx v)(gj:∀ k r t,rs[k]? = some r->t∈bF rs k->fQ rs r t (bP rs ((k:Int),t))):lF (aH rs rs.length) (bP rs) (((m:Int) + b + 1) * ((b:Int) - 1) + 2):=by
 have hb:=C.hb
 have mS:g9 m b (m + b) 0:=.inl ⟨ak _,by omega,by omega⟩
 have e:vC m b (m + b) 0=((m:Int) + b + 1) * ((b:Int) - 1) + 2:=by
  unfold vC
  rw [if_neg (by omega),show (b:Int) - 1 - ((0:Nat):Int)=(b:Int) - 1 by omega]
  omega
 refine ⟨_,C.all gj,⟨_,aA.mpr ⟨_,C.iQ (.inl rfl) (by omega) (by omega) mS,rfl⟩,?_⟩,λ x hx=>?_⟩
 ·show pY m b bx (((m + b:Nat):Int),some (0,bx 0))=_
  rw [C.eZ (by omega),e]
 ·obtain ⟨z,hz,rfl⟩:=aA.mp hx
  obtain ⟨p,hp,rfl | ⟨s,j,hs,hj,hl,rfl⟩⟩:=C.Ng hz
  ·show vM m b (p:Int).toNat <= _
   rw [eB]
   have:=Int.mul_le_mul_of_nonneg_left (show (1:Int) <= (b:Int) - 1 by omega) (show (0:Int) <= (m:Int) + b + 1 by omega)
   unfold vM
   split <;> omega
  ·show pY m b bx ((p:Int),some (s,bx j)) <= _
   rw [C.eZ hj]
   exact (C.pos hj hl).2.2.1
def rE(m b:Nat)(bx:Nat->Int)(s:Int)(way:List HM.aR)(i j:Nat):Prop:=∃ p:Nat,way[i]? = some ((p:Int),some (s,bx j)) /\ p < m + b + 2 /\ j < b /\ g9 m b p j /\ vC m b p j=((m:Int) + b + 1) * ((b:Int) - 1) + 2 - i
theorem gK.WC(C:gK rs m b bx v)(wI:gh (aH rs rs.length) (bP rs))(gj:∀ k r t,rs[k]? = some r->t∈bF rs k->fQ rs r t (bP rs ((k:Int),t)))(hF:d7 (aH rs rs.length) (bP rs) F)(ew:gk (bP rs) (dO F n0) (aH rs rs.length).length (aH rs rs.length)=way):
  (way.length:Int)=((m:Int) + b + 1) * ((b:Int) - 1) + 2 /\ ∃ s:Int,(s=0 \/ s=1) /\ rE m b bx s way 0 0 /\ way[0]? = some (((m + b:Nat):Int),some (s,bx 0)):=by
 have hb:=C.hb
 have hd:=C.delay gj
 have ev:∀ z∈aH rs rs.length,dO F n0 z=pY m b bx z:=λ z hz=>jI hF.1.nd (gF (C.all gj).1 hF.1 _ z _ (ak _) (aA.mpr ⟨z,hz,rfl⟩))
 have hl:=Iq (n0:=n0) wI.1 (λ k hk o ho=>(wI.2.2 k hk).2 o ho) hF hd
 rw [ew] at hl
 have mS:g9 m b (m + b) 0:=.inl ⟨ak _,by omega,by omega⟩
 have hin:=C.iQ (s:=0) (.inl rfl) (p:=m + b) (by omega) (by omega) mS
 have hne:aH rs rs.length ≠ []:=λ z=>by rw [z] at hin; exact nomatch hin
 obtain ⟨h,e,hm,Fp⟩:=iC (g:=dO F n0) hne
 obtain ⟨n,hn⟩:∃ n,(aH rs rs.length).length=n + 1:=⟨(aH rs rs.length).length - 1,by have:=List.length_pos_iff.mpr hne; omega⟩
 have e0:way[0]? = some h:=by rw [<- ew,hn,jr e]; rfl
 have h1:=Fp _ hin
 rw [ev _ hin,ev _ hm,C.eZ (by omega)] at h1
 have e1:vC m b (m + b) 0=((m:Int) + b + 1) * ((b:Int) - 1) + 2:=by
  unfold vC
  rw [if_neg (by omega),show (b:Int) - 1 - ((0:Nat):Int)=(b:Int) - 1 by omega]
  omega
 have hr1:=Int.mul_le_mul_of_nonneg_left (show (1:Int) <= (b:Int) - 1 by omega) (show (0:Int) <= (m:Int) + b + 1 by omega)
 obtain ⟨p,hp,rfl | ⟨s,j,hs,hj,RC,rfl⟩⟩:=C.Ng hm
 ·exfalso
  have e2:pY m b bx ((p:Int),none)=vM m b p:=by show vM m b (p:Int).toNat=_; rw [eB]
  rw [e2] at h1
  unfold vM at h1
  have:=C.hm
  split at h1 <;> omega
 ·rw [C.eZ hj] at h1
  have h2:=C.pos hj RC
  obtain ⟨rfl,rfl⟩:=h2.2.2.2 (by omega)
  exact ⟨hl,s,hs,⟨m + b,e0,by omega,hj,RC,by omega⟩,e0⟩
theorem gK.Nh(C:gK rs m b bx v)(gj:∀ k r t,rs[k]? = some r->t∈bF rs k->fQ rs r t (bP rs ((k:Int),t)))(hs:s=0 \/ s=1)(hch:∀ (i:Nat) (x y:HM.aR),way[i]? = some x->way[i + 1]? = some y->y∈bP rs x)(h:rE m b bx s way i j)(hi:i + 1 < way.length):
  ∃ j',rE m b bx s way (i + 1) j' /\ (j'=j \/ j'=j + 1):=by
 obtain ⟨p,e,hp,hj,mS,ev⟩:=h
 obtain ⟨r,hr,_⟩:=C.row hp
 obtain ⟨k,hk,ek,ht⟩:=dN.mp (C.iQ hs hp hj mS)
 have ek:(p:Int)=(k:Int):=ek
 obtain rfl:p=k:=by omega
 have hL:=gj p r _ hr ht
 have hy:way[i + 1]? = some way[i + 1]:=dB hi
 have hn:=(hL.2 _).mp (hch i _ _ e hy)
 rcases C.next hs hr hj mS with ⟨_,_,no⟩ | ⟨p',j',h1,h2,h3,h4,h5,ev',h6⟩
 ·exact absurd hn (no _)
 ·rw [(h6 _).mp hn] at hy
  exact ⟨j',⟨p',hy,h2,h3,h4,by omega⟩,h5⟩
theorem gK.IA(C:gK rs m b bx v)(hl:(way.length:Int)=((m:Int) + b + 1) * ((b:Int) - 1) + 2)(h:rE m b bx s way (way.length - 1) j):j + 1=b:=by
 obtain ⟨p,e,hp,hj,mS,ev⟩:=h
 have:=(e9 e).1
 exact (C.pos hj mS).2.1 (by omega)
end
section
variable {P:Program}{w:World}{K:ay}{mg:Str->Option Value}{base:Heap}
def Ni(K:ay):Sp:=λ vs H Q _=>∃ (a:Addr) (ns:List Int) (k:Int),vs=[.ref a,.int k] /\ bI K H a (ns.map V.int) /\ 0 <= k /\ ∀ c:Int,Q (.int c) H
theorem j9(T:Txt w K mg):cJ P w K mg base ji 1 T.jE.f T.jE.d ["_law_script", "_law_k"] (Ni K):=by
 refine T.jE.F.ok yg (λ vs H Q E h=>?_) (λ cdv A outer s H vs Q E hr h=>?_)
 ·obtain ⟨a,ns,k,rfl,_⟩:=h
  rfl
 obtain ⟨a,ns,k,rfl,hS,h0,q⟩:=h
 refine ⟨_,(ao (ia (aW IV (pv 1) (bA bZ rfl T.fZ BT.fX (aa (pv 0) ai)) (cI _))
 (aC (bB (b8 cK (pv 0) (pv 1) (λ _ _=>rfl))))
 dj)
 (aC (bB az))),?_⟩
 have hl:(ns.map V.int).length=ns.length:=aq _
 show (_:TS) (Ends.mk _ _ _ _) [_,_] H
 walk_at "start"
 walk_at "go"
 ·obtain ⟨v0,hv0⟩:=Hv (ns:=ns) (i:=k) (by omega) (by omega)
  refine fj hS hv0 ?_
  exact q _
 ·exact q _
def IB:Sp:=λ vs H Q _=>∃ (n k:Int),vs=[.int n,.int k] /\ ∀ c,0 <= c->c < 2147483587->Q (.int c) H
theorem pZ(T:Txt w K mg):cJ P w K mg base ji 1 T.mixed.f T.mixed.d ["_law_cell", "_law_k"] IB:=by
 refine T.mixed.F.ok uW (λ vs H Q E h=>?_) (λ cdv A outer s H vs Q E hr h=>?_)
 ·obtain ⟨n,k,rfl,_⟩:=h
  rfl
 obtain ⟨n,k,rfl,q⟩:=h
 refine ⟨_,(ao (aT (i:=2) uW.nd rfl (av rfl) (bD jf (bD cR (bD cR (bD oE (bD jf (pv 0) az) (bD cR az (bD oE az (pv 1)))) (bD oE az (pv 1))) az) az))
 (aC (bB (bD jf (bD oE (pv 2) (pv 2)) az)))),?_⟩
 show (_:TS) (Ends.mk _ _ _ _) [_,_,_] H
 walk_at "start"
 walk_at "go"
 exact q _ (iw (by decide)).1 (iw (by decide)).2
end
def Co(n:Nat):List Row:=(List.range n).map λ p:Nat=>Row.mark ((p:Int) + 1)
def Cp(m b:Nat)(bx:Nat->Int)(n:Nat):List Row:=(List.range n).map λ k:Nat=>Row.copy 2 (bx (b - 1 - k)) (bx (b - 2 - k)) ((m:Int) + k + 1)
def BS(m b:Nat)(bx:Nat->Int)(v:Int):List Row:=Co m++Cp m b bx (b - 1)++[Row.num 2 (bx 0) v ((m:Int) + b)]++[Row.fork (bx (b - 1)) 0 ((m:Int) + b + 1)]++[Row.back (bx (b - 1))]
theorem Fv(n:Nat):Co (n + 1)=Co n++[.mark ((n:Int) + 1)]:=by unfold Co; rw [List.range_succ,bM]; rfl
theorem Fw(m b:Nat)(bx:Nat->Int)(n:Nat):Cp m b bx (n + 1)=Cp m b bx n++[.copy 2 (bx (b - 1 - n)) (bx (b - 2 - n)) ((m:Int) + n + 1)]:=by unfold Cp; rw [List.range_succ,bM]; rfl
theorem gM(n:Nat):(Co n).length=n:=by unfold Co; simp
theorem sW(m b:Nat)(bx:Nat->Int)(n:Nat):(Cp m b bx n).length=n:=by unfold Cp; simp
theorem Nj{b:Nat}{bx:Nat->Int}{v:Int}(hm:1 <= m)(hb:2 <= b)(hv:isVal v)(inj:∀ i j:Nat,i < b->j < b->bx i=bx j->i=j)(tD:∀ i:Nat,i < b->0 <= bx i /\ bx i < 8):gK (BS m b bx v) m b bx v:=by
 have l1:(Co m++Cp m b bx (b - 1)).length=m + b - 1:=by rw [aN,gM,sW]; omega
 refine ⟨?_,λ p hp=>?_,λ i hi=>?_,?_,?_,?_,inj,tD,hm,hb,hv⟩
 ·unfold BS
  rw [aN,aN,aN,l1]
  simp
  omega
 all_goals unfold BS
 ·rw [c8,c8,c8,nZ (by rw [gM]; exact hp)]
  unfold Co
  rw [aS,List.getElem?_range hp]; rfl
 ·rw [c8,c8,nZ (by omega),i7 (by rw [gM]; omega),gM,show m + i - m=i by omega]
  unfold Cp
  rw [aS,List.getElem?_range (by omega)]; rfl
 ·rw [c8,c8,i7 (by omega),l1,Nat.sub_self]; rfl
 ·rw [c8,c8,i7 (by omega),l1,show m + b - (m + b - 1)=1 by omega]; rfl
 ·rw [c8,c8,i7 (by omega),l1,show m + b + 1 - (m + b - 1)=2 by omega]; rfl
theorem fG{α:Type}:∀ {l:List α} {i:Nat} {x:α},l[i]? = some x->(x :: l.eraseIdx i).Perm l
 | [],_,_,h=>by simp at h
 | y :: l,0,x,h=>by simp at h; subst h; exact .refl _
 | y :: l,i + 1,x,h=>(List.Perm.swap _ _ _).trans (.cons y (fG (by simpa using h)))
theorem rF{α β:Type}(f:α->β):∀ (l:List α) (i:Nat),(l.map f).eraseIdx i=(l.eraseIdx i).map f
 | [],_=>rfl
 | _ :: _,0=>rfl
 | y :: l,i + 1=>by
  rw [bq,rN,rN,bq,rF f l i]
theorem rG(h:i < bs.length):rW (bs.map V.int) ((i:Nat):Int)=some (.int (bs.getD i 0)):=fK (by rw [aS,dB h,iR,dB h]; rfl)
theorem rH{α:Type}{l:List α}{x:α}{n:Nat}(hn:l.length=n + 1)(hx:l[n]? = some x):rW l (-1)=some x:=by
 unfold rW I9
 rw [if_neg (by decide),if_pos (by omega)]
 show l[((-1:Int) + (l.length:Int)).toNat]? = some x
 rw [show ((-1:Int) + (l.length:Int)).toNat=n by omega]
 exact hx
theorem Ao(h:2 <= bs.length):rW (bs.map V.int) (-1)=some (.int (bs.getD (bs.length - 1) 0)):=rH (n:=bs.length - 1) (by rw [aq]; omega) (by rw [aS,dB (by omega),iR,dB (by omega)]; rfl)
section
variable {P:Program}{w:World}{K:ay}{mg:Str->Option Value}{base:Heap}
def IC(K:ay):Sp:=λ vs H Q _=>∃ (a:Addr) (ns:List Int),vs=[.ref a] /\ bI K H a (ns.map V.int) /\
 ∀ (q:Addr) (H':Hp) (bs:List Int),aG H H'->H' q=some (.lst (bs.map V.int))->2 <= bs.length->bs.length <= 8->bs.Nodup->(∀ x∈bs,0 <= x /\ x < 8)->Q (.ref q) H'
theorem Fx(T:Txt w K mg):cJ P w K mg base ji 2 T.zX.f T.zX.d ["_law_script"] (IC K):=by
 refine T.zX.F.ok kR (λ vs H Q E h=>?_) (λ cdv A outer s H vs Q E hr h=>?_)
 ·obtain ⟨a,ns,rfl,_⟩:=h
  rfl
 obtain ⟨a,ns,rfl,hS,q⟩:=h
 refine ⟨_,(ao (aT (i:=1) kR.nd rfl (av rfl) (qw rfl T.yi rfl T.lz (aa az ai)))
 (ao (aT (i:=2) kR.nd rfl (av rfl) (dZ ai))
 (ao (dM bX rfl (lW rfl T.lz (aa (bD cR az (bD jf (bO T.mixed (pZ T) hr (aa (bO T.jE (j9 T) hr (aa (pv 0) (aa az ai))) (aa az ai))) az)) ai)) (bE (i:=3) kR.nd rfl (av rfl))
 (aC (cQ (fW cj eL eN cN (pv 2) (aa (fW cj PySem.F.slot_list_pop PySem.F.type_list_pop CN (pv 1) (aa (bD jf (bO T.mixed (pZ T) hr (aa (bO T.jE (j9 T) hr (aa (pv 0) (aa (bD cR az (pv 3)) ai))) (aa (bD cR az (pv 3)) ai))) (bA bZ rfl T.fZ BT.fX (aa (pv 1) ai))) ai)) ai)))))
 (aC (bB (pv 2)))))),?_⟩
 show (_:TS) (Ends.mk _ _ _ _) [_,_,_,_] H
 walk_at "start"
 walk_at "go"
 refine uP ?_
 walk_at "go"
 refine ⟨8,rfl,by decide,by decide,λ l0 X5=>?_⟩
 have n1:eT H l0 (.lst (qo 0 (8:Int).toNat)) (upd H l0 (.lst (qo 0 (8:Int).toNat))):=⟨X5,rfl⟩
 rw [show qo 0 (8:Int).toNat=([0,1,2,3,4,5,6,7]:List Int).map V.int from rfl] at n1 ⊢
 generalize upd H l0 (.lst (([0,1,2,3,4,5,6,7]:List Int).map V.int))=H1 at n1 ⊢
 walk_at "go"
 rename_i f H2 n2
 have s2:=n1.same.trans n2.same
 have ff:H f=none:=n1.same.free n2.1
 have hne:l0 ≠ f:=λ z=>by have:=n1.self; rw [z,n2.1] at this; cases this
 have hl2:=n2.keep n1.self
 have hf2:=n2.self
 clear n1 n2
 refine ⟨a,ns,1,rfl,s2.seq hS,by decide,λ c1=>?_⟩
 walk_at "go"
 refine ⟨_,_,rfl,λ c2 h20 h21=>?_⟩
 have b7:=iw (a:=c2) (b:=7) (by decide)
 walk_at "go"
 refine za (λ i σ' H'=>aG H H' /\ ∃ (ls gs:List Int) (y:Option V),σ'=[some (.ref a),some (.ref l0),some (.ref f),y] /\ H' l0=some (.lst (ls.map V.int)) /\ H' f=some (.lst (gs.map V.int)) /\ gs.length=i /\ ls.length + i=8 /\ (ls++gs).Nodup /\ ∀ x∈ls++gs,0 <= x /\ x < 8) ?_ ?_ ?_
 ·exact ⟨s2,_,[],_,rfl,hl2,hf2,rfl,rfl,by decide,by decide⟩
 ·rintro i σ' H3 hi ⟨s3,ls,gs,y,rfl,hl3,TJ,eg,el,nd,RE⟩
  have NG:(ls.map V.int).length=ls.length:=aq _
  have Tj:(gs.map V.int).length=gs.length:=aq _
  walk_at "go"
  refine ⟨a,ns,_,rfl,s3.seq hS,by omega,λ c3=>?_⟩
  walk_at "go"
  refine ⟨_,_,rfl,λ c4 h40 h41=>?_⟩
  walk_at "go"
  rw [NG]
  have b1:=iw (a:=c4) (b:=(ls.length:Int)) (by omega)
  have Cm:(c4 % (ls.length:Int)).toNat < ls.length:=by omega
  obtain ⟨x,hx⟩:∃ x,ls[(c4 % (ls.length:Int)).toNat]? = some x:=⟨_,dB Cm⟩
  refine zg hl3 b1.1 rfl (y:=.int x) (by rw [aS,hx]; rfl) (by omega) ?_
  intro H4 p4
  rw [rF] at p4
  have F0:=p4.keep (aZ hne) TJ
  have XH:=p4.self
  have s4:=p4.same s3 X5
  clear p4 hl3 TJ
  walk_at "go"
  rename_i H5 p5
  have pm:=fG hx
  have X6:(ls.eraseIdx (c4 % (ls.length:Int)).toNat++(gs++[x])).Perm (ls++gs):=by
   have h1:(ls.eraseIdx (c4 % (ls.length:Int)).toNat++(gs++[x])).Perm ((x :: ls.eraseIdx (c4 % (ls.length:Int)).toNat)++gs):=by
    rw [<- c8]
    exact List.perm_append_singleton x _
   exact h1.trans (pm.append_right gs)
  refine ⟨p5.same s4 ff,_,gs++[x],_,rfl,p5.keep hne XH,by rw [bM]; exact p5.self,by simp [eg],?_,X6.nodup_iff.mpr nd,λ z hz=>RE z (X6.mem_iff.mp hz)⟩
  rw [List.length_eraseIdx,if_pos Cm]
  omega
 ·rintro σ' H3 ⟨s3,ls,gs,y,rfl,hl3,TJ,eg,el,nd,RE⟩
  walk_at "go"
  exact q f H3 gs s3 TJ (by omega) (by omega) (dJ.mp nd).2.1 λ x hx=>RE x (bg _ hx)
def ID:Sp:=λ vs H Q _=>∃ (m:Nat) (bl:Addr) (bs:List Int) (v:Int),vs=[.int m,.ref bl,.int v] /\ H bl=some (.lst (bs.map V.int)) /\ 1 <= m /\ m <= 180 /\ 2 <= bs.length /\ bs.length <= 8 /\
 ∀ (q:Addr) (us:List V) (H':Hp),aG H H'->H q=none->H' q=some (.lst us)->Rows H' us (BS m bs.length (λ i=>bs.getD i 0) v)->Q (.ref q) H'
theorem lH{xs:List V}{us:List V}(h:Rows H us rs)(hf:H f=some (.lst xs))(p:kh H f o H'):Rows H' us rs:=cg (λ _ _ ⟨a,e,x⟩=>⟨a,e,eX hf p _ _ x⟩) h
theorem IE(T:Txt w K mg):cJ P w K mg base ji 2 T.code.f T.code.d ["_law_many", "_law_boxes_here", "_law_number"] ID:=by
 refine T.code.F.ok sL (λ vs H Q E h=>?_) (λ cdv A outer s H vs Q E hr h=>?_)
 ·obtain ⟨m,bl,bs,v,rfl,_⟩:=h
  rfl
 obtain ⟨m,bl,bs,v,rfl,EK,hm,hm2,hb,hb2,q⟩:=h
 have hbm:(bs.map V.int).length=bs.length:=aq _
 refine ⟨_,(ao (kD (i:=3) sL.nd rfl (av rfl) (bY.plain rfl (by decide +kernel) (by decide +kernel) rfl (by decide +kernel) rfl) (lW rfl T.lz (aa (pv 0) ai)) (λ _ _ _ _=>gW) (λ _ _ _ _=>(dY (aa fU (aa (bD cR (pv 0) az) ai)))))
 (ao (dM bX rfl (Bq rfl T.lz (aa (bD oB (bA bZ rfl T.fZ BT.fX (aa (pv 1) ai)) az) (aa az (aa (yI rR az) ai)))) (bE (i:=4) sL.nd rfl (av rfl))
 (aC (cQ (fW cj eL eN cN (pv 3) (aa (dY (aa fU (aa az (aa (b8 cK (pv 1) (pv 4) (λ _ _=>rfl)) (aa (b8 cK (pv 1) (bD oB (pv 4) az) (λ _ _=>rfl)) (aa (bD cR (bA bZ rfl T.fZ BT.fX (aa (pv 3) ai)) az) ai)))))) ai)))))
 (ao (cQ (fW cj eL eN cN (pv 3) (aa (dY (aa fU (aa az (aa (b8 cK (pv 1) az (λ _ _=>rfl)) (aa (pv 2) (aa (bD cR (bA bZ rfl T.fZ BT.fX (aa (pv 3) ai)) az) ai)))))) ai)))
 (ao (cQ (fW cj eL eN cN (pv 3) (aa (dY (aa fU (aa (b8 cK (pv 1) (yI rR az) (λ _ _=>rfl)) (aa az (aa (bD cR (bA bZ rfl T.fZ BT.fX (aa (pv 3) ai)) az) ai))))) ai)))
 (ao (cQ (fW cj eL eN cN (pv 3) (aa (dY (aa fU (aa (b8 cK (pv 1) (yI rR az) (λ _ _=>rfl)) ai))) ai)))
 (aC (bB (pv 3)))))))),?_⟩
 show (_:TS) (Ends.mk _ _ _ _) [_,_,_,_,_] H
 walk_at "start"
 walk_at "go"
 refine GB (λ i ys H'=>aG H H' /\ Rows H' ys (Co i)) ⟨aG.refl _,.nil⟩ ?_ ?_
 ·rintro i ys H1 hi ⟨s1,hrs⟩
  refine ⟨cY (by rw [hrs.length,gM]; omega),?_⟩
  walk_at "go"
  rename_i t H2 n2
  refine ⟨s1.trans n2.same,?_⟩
  rw [Fv]
  have e:=n2.self
  rw [show (0:Int) + (i:Nat) + 1=((i:Nat):Int) + 1 by omega] at e
  exact bQ (hrs.same n2.same) ⟨t,rfl,e⟩
 rintro ys H1 ⟨s1,hrs⟩ c H2 n2
 have s2:=s1.trans n2.same
 have fc:H c=none:=s1.free n2.1
 have hc2:=n2.self
 have yp:=hrs.same n2.same
 have hyl:=hrs.length
 rw [show ((m:Int)).toNat=m by omega] at yp hyl
 rw [gM] at hyl
 have IF:=s2 _ _ EK
 clear n2 s1 hrs
 walk_at "go"
 refine Hu ?_
 walk_at "go"
 rw [hbm]
 refine Mv (by decide) (by omega) (by omega) ?_
 refine EB (λ i σ' H'=>∃ ys y,σ'=[some (.int m),some (.ref bl),some (.int v),some (.ref c),y] /\ aG H H' /\ H' c=some (.lst ys) /\ Rows H' ys (Co m++Cp m bs.length (λ i=>bs.getD i 0) i)) ?_ ?_ ?_
 ·exact ⟨ys,_,rfl,s2,hc2,by rw [show Cp m bs.length (λ i=>bs.getD i 0) 0=[] from rfl,eE]; exact yp⟩
 ·rintro i σ' H3 hi ⟨zs,y,rfl,s3,hc3,yD⟩
  have E1:=yD.length
  rw [aN,gM,sW] at E1
  have vH:=s3 _ _ EK
  walk_at "go"
  refine fj (bI.of vH) (v:=.int (bs.getD (bs.length - 1 - i) 0)) (by rw [show (bs.length:Int) - 1 - (i:Nat)=((bs.length - 1 - i:Nat):Int) by omega]; exact rG (by omega)) ?_
  walk_at "go"
  refine fj (bI.of vH) (v:=.int (bs.getD (bs.length - 2 - i) 0)) (by rw [show (bs.length:Int) - 1 - (i:Nat) - 1=((bs.length - 2 - i:Nat):Int) by omega]; exact rG (by omega)) ?_
  walk_at "go"
  rename_i t H4 n4 H5 p5
  have hc4:=n4.keep hc3
  refine ⟨_,_,rfl,p5.same (s3.trans n4.same) fc,p5.self,?_⟩
  rw [Fw,<- c8]
  have e:=eX hc4 p5 _ _ n4.self
  rw [show (zs.length:Int) + 1=(m:Int) + i + 1 by omega] at e
  exact bQ (lH (yD.same n4.same) hc4 p5) ⟨t,rfl,e⟩
 rintro σ' H3 ⟨zs,y,rfl,s3,hc3,yD⟩
 have E1:=yD.length
 rw [aN,gM,sW] at E1
 rw [show ((bs.length:Int) - 1 - 0).toNat=bs.length - 1 by omega] at yD E1
 have vH:=s3 _ _ EK
 clear IF hc2 yp s2
 walk_at "go"
 refine fj (bI.of vH) (v:=.int (bs.getD 0 0)) (rG (i:=0) (by omega)) ?_
 walk_at "go"
 rename_i t4 H4 n4 H5 p5
 have hc4:=n4.keep hc3
 have s5:=p5.same (s3.trans n4.same) fc
 have hc5:=p5.self
 have RG:Rows H5 (zs++[.ref t4]) (Co m++Cp m bs.length (λ i=>bs.getD i 0) (bs.length - 1)++[.num 2 (bs.getD 0 0) v ((m:Int) + bs.length)]):=by
  have e:=eX hc4 p5 _ _ n4.self
  rw [show (zs.length:Int) + 1=(m:Int) + bs.length by omega] at e
  exact bQ (lH (yD.same n4.same) hc4 p5) ⟨t4,rfl,e⟩
 have Xi:(zs++[V.ref t4]).length=m + bs.length:=by rw [aN,E1,dW]; omega
 generalize zs++[V.ref t4]=z5 at *
 clear n4 p5 hc4 hc3 yD s3 vH
 have yE:=s5 _ _ EK
 refine fj (bI.of yE) (Ao hb) ?_
 walk_at "go"
 rename_i t6 H6 n6 H7 p7
 have hc6:=n6.keep hc5
 have s7:=p7.same (s5.trans n6.same) fc
 have TL:=p7.self
 have WD:Rows H7 (z5++[.ref t6]) (Co m++Cp m bs.length (λ i=>bs.getD i 0) (bs.length - 1)++[.num 2 (bs.getD 0 0) v ((m:Int) + bs.length)]++[.fork (bs.getD (bs.length - 1) 0) 0 ((m:Int) + bs.length + 1)]):=by
  have e:=eX hc6 p7 _ _ n6.self
  rw [show (z5.length:Int) + 1=(m:Int) + bs.length + 1 by omega] at e
  exact bQ (lH (RG.same n6.same) hc6 p7) ⟨t6,rfl,e⟩
 have hl7:(z5++[V.ref t6]).length=m + bs.length + 1:=by rw [aN,Xi,dW]
 generalize z5++[V.ref t6]=z7 at *
 clear n6 p7 hc6 hc5 RG s5 yE
 have vA:=s7 _ _ EK
 refine fj (bI.of vA) (Ao hb) ?_
 walk_at "go"
 rename_i t8 H8 n8 H9 p9
 have WE:=n8.keep TL
 refine q c _ H9 (p9.same (s7.trans n8.same) fc) fc p9.self ?_
 exact bQ (lH (WD.same n8.same) WE p9) ⟨t8,rfl,eX WE p9 _ _ n8.self⟩
end
theorem BU{us:List V}(h:Rows H us rs)(t:mZ H H'):Rows H' us rs:=cg (λ _ _ ⟨a,e,x⟩=>⟨a,e,t _ _ x⟩) h
theorem Aq(nd:bs.Nodup):∀ i j:Nat,i < bs.length->j < bs.length->bs.getD i 0=bs.getD j 0->i=j:=λ i j hi hj e=>by
 rw [iR,iR,dB hi,dB hj] at e
 exact (lN nd).mp e
theorem getD_in(hi:i < bs.length):bs.getD i 0∈bs:=by
 rw [iR,dB hi]
 exact fS hi
section
variable {P:Program}{w:World}{K:ay}{mg:Str->Option Value}{base:Heap}
set_option maxHeartbeats 8000000 in
theorem Nk(T:Txt w K mg)(hB:base.BuiltinsAt mg bz):cJ P w K mg base ji 12 T.law.f T.law.d ["_law_script"] (sU K):=by
 refine T.law.F.ok eU (λ vs H Q E h=>?_) (λ cdv A outer s H vs Q E hr h=>?_)
 ·obtain ⟨⟨a,ns,rfl,_⟩,_⟩:=h
  rfl
 obtain ⟨⟨a,ns,rfl,hS,hn,q⟩,htb⟩:=h
 refine ⟨_,(ao (aT (i:=1) eU.nd rfl (av rfl) (bO T.jE (j9 T) hr (aa (pv 0) (aa az ai))))
 (ao (aT (i:=2) eU.nd rfl (av rfl) (bD cR az (bD jf (bD rQ (pv 1) az) az)))
 (sj (ia (aW oF (bD jf (bD rQ (pv 1) az) az) az (cI _))
 (aC (aT (i:=2) eU.nd rfl (av rfl) (bD cR az (bD jf (bD rQ (pv 1) az) az))))
 dj)
 (ao (aT (i:=3) eU.nd rfl (av rfl) (bO T.zX (Fx T) hr (aa (pv 0) ai)))
 (ao (aT (i:=4) eU.nd rfl (av rfl) (bO T.code (IE T) hr (aa (pv 2) (aa (pv 3) (aa (bO T.mixed (pZ T) hr (aa (pv 1) (aa az ai))) ai)))))
 (ao (aT (i:=5) eU.nd rfl (av rfl) (bD oE (bD oB (bA bZ rfl T.fZ BT.fX (aa (pv 3) ai)) az) (bD cR (bD cR (pv 2) (bA bZ rfl T.fZ BT.fX (aa (pv 3) ai))) az)))
 (ao (aT (i:=6) eU.nd rfl (av rfl) (gn xm rfl T.yi BT.wY (aa (pv 4) ai)))
 (ao (aT (i:=7) eU.nd rfl (av rfl) (bO T.pF (rC T) hr (aa (pv 6) ai)))
 (Dd (ia (PW.pt (tL (Kw (Kv (bA Be rfl T.sM BT.sf (aa (pv 7) (aa (F5 (v:=.ty "dict") rfl T.yh BT.wZ rfl) ai))))) (rP (aW qD (bO T.delay (Fo T) hr (aa (pv 6) ai)) (bD cR (pv 5) az) (cI _)))))
 (aC (bB qC))
 dj)
 (ao (dM bX rfl (lW rfl T.lz (aa az ai)) (bE (i:=8) eU.nd rfl (av rfl))
 (ao (ia (aW qD (qR hr.units (pv 7) (dY (aa az (aa (dY (aa (pv 8) (aa (b8 cK (pv 3) az (λ _ _=>rfl)) ai))) ai))) ⟨rfl,rfl,rfl,rfl⟩) (bD cR (pv 5) az) (cI _))
 (aC (bB qC))
 dj)
 (aC (ia (aW qD (qR hr.units (pv 7) (dY (aa (bD oB (bA bZ rfl T.fZ BT.fX (aa (pv 4) ai)) az) (aa (dY (aa (pv 8) (aa (b8 cK (pv 3) az (λ _ _=>rfl)) ai))) ai))) ⟨rfl,rfl,rfl,rfl⟩) (bD cR (pv 5) az) (cI _))
 (aC (bB qC))
 dj))))
 (ao (aT (i:=9) eU.nd rfl (av rfl) (bO T.longest (yz T hB) hr (aa (pv 6) ai)))
 (Dc (ia (PW.pt (tL (aW qD (bA bZ rfl T.fZ BT.fX (aa (pv 9) ai)) (bD cR (pv 5) az) (cI _)) (tL (aW qD (b8 fF (b8 cK (pv 9) az (λ _ _=>rfl)) az (λ _ _=>rfl)) (bD oB (bA bZ rfl T.fZ BT.fX (aa (pv 4) ai)) az) (cI _)) (rP (aW (LI hr.units) (pv 6) (pv 4) (cI _))))))
 (aC (bB qC))
 dj)
 (ao (aT (i:=10) eU.nd rfl (av rfl) (dZ (aa (b8 cK (pv 3) az (λ _ _=>rfl)) ai)))
 (ao (dM bX rfl (ck (pv 9)) (ou (n:=2) rfl (cS (bE (i:=11) eU.nd rfl (av rfl)) (cS (bE (i:=12) eU.nd rfl (av rfl)) jv)))
 (aC (ia (aW qD (b8 fF (pv 12) az (λ _ _=>rfl)) (b8 cK (pv 10) (yI rR az) (λ _ _=>rfl)) (cI _))
 (aC (cQ (fW cj eL eN cN (pv 10) (aa (b8 fF (pv 12) az (λ _ _=>rfl)) ai))))
 dj)))
 (aC (bB (F8 (xq hr.units) (pv 10) (pv 3) (cI _)))))))))))))))))),?_⟩
 show (_:TS) (Ends.mk _ _ _ _) [_,_,_,_,_,_,_,_,_,_,_,_,_] H
 walk_at "start"
 walk_at "go"
 refine ⟨a,ns,0,rfl,hS,by decide,λ c0=>?_⟩
 walk_at "go"
 refine OG (λ σ' H'=>H'=H /\ ∃ m:Nat,1 <= m /\ m <= 180 /\ σ'=[some (.ref a),some (.int c0),some (.int m),none,none,none,none,none,none,none,none,none,none]) ?_ ?_
 ·have b1:=iw (a:=c0 / 3) (b:=13) (by decide)
  have b2:=iw (a:=c0 / 312) (b:=81) (by decide)
  have nat:∀ z:Int,1 <= z->z <= 180->∃ m:Nat,1 <= m /\ m <= 180 /\ z=(m:Int):=λ z h1 h2=>⟨z.toNat,by omega,by omega,by omega⟩
  walk_at "go"
  ·obtain ⟨m,h1,h2,e⟩:=nat (100 + c0 / 312 % 81) (by omega) (by omega)
   exact ⟨rfl,m,h1,h2,by rw [e]⟩
  ·obtain ⟨m,h1,h2,e⟩:=nat (1 + c0 / 3 % 13) (by omega) (by omega)
   exact ⟨rfl,m,h1,h2,by rw [e]⟩
 rintro _ _ ⟨rfl,m,hm1,hm2,rfl⟩
 walk_at "go"
 refine ⟨a,ns,rfl,hS,λ bl H1 bs s1 Nl hb2 Ck hnd RE=>?_⟩
 have RH:=s1 _ _ htb
 clear s1 htb hS
 walk_at "go"
 refine ⟨_,_,rfl,λ v hv0 hv1=>?_⟩
 walk_at "go"
 refine ⟨m,bl,bs,v,rfl,Nl,hm1,hm2,hb2,Ck,λ c us H2 s2 fc hc2 Fy=>?_⟩
 have C:gK (BS m bs.length (λ i=>bs.getD i 0) v) m bs.length (λ i=>bs.getD i 0) v:=Nj hm1 hb2 ⟨hv0,by omega⟩ (Aq hnd) λ i hi=>RE _ (getD_in hi)
 generalize BS m bs.length (λ i=>bs.getD i 0) v=rs at *
 have IF:=s2 _ _ Nl
 have RI:BN H2:=.inl (s2 _ _ RH)
 have hbm:(bs.map V.int).length=bs.length:=aq _
 have HE:=Fy.length
 have hcl:=C.len
 clear s2 Nl RH fc
 walk_at "go"
 rename_i hd H3 n3
 rw [hbm]
 have eR:((bs.length:Int) - 1) * ((m:Int) + bs.length + 1)=((m:Int) + bs.length + 1) * ((bs.length:Int) - 1):=Int.mul_comm _ _
 generalize ((bs.length:Int) - 1) * ((m:Int) + bs.length + 1)=R at *
 have hc3:=n3.keep hc2
 have Fz:=Fy.same n3.same
 have vH:=n3.keep IF
 have pX:=RI.same n3.same
 have WG:=n3.self
 have hne:c ≠ hd:=λ z=>by rw [z,n3.1] at hc2; cases hc2
 clear n3 hc2 Fy IF RI
 have hok:=C.ok
 refine ⟨hd,us,rs,rfl,WG,Fz,hok,by omega,λ wI gj=>⟨λ H4 s4 no=>absurd (C.all gj) (no _),λ d ep kvs F H4 s4 fd JT HW hF hend=>?_⟩⟩
 have Z3:rs ≠ []:=λ z=>by rw [z] at hcl; have:0=m + bs.length + 2:=hcl; omega
 have hc4:=s4 _ _ hc3
 have FA:=Fz.same s4
 have RJ:=s4 _ _ vH
 have Ir:=pX.same s4
 have Nm:=s4 _ _ WG
 clear s4 hc3 Fz vH pX WG fd
 walk_at "go"
 ·refine Mp JT (b:=true) rfl ?_
  walk_at "go"
  refine ⟨hd,us,rs,rfl,Nm,FA,hok,by omega,Z3,λ _ _=>⟨λ H5 s5 no=>absurd (C.all gj) (no _),λ mm H5 s5 dl=>?_⟩⟩
  have X7:=BK dl (C.delay gj)
  rw [<- eR] at X7
  subst X7
  walk_at "go"
  exact ⟨rfl,s5⟩
 rename_i H5 s5
 have Nn:∀ z∈aH rs rs.length,fO kvs z=some (.int (pY m bs.length (λ i=>bs.getD i 0) z)):=λ z hz=>by
  obtain ⟨n,hn⟩:=hend.mem wI.1 hz
  obtain ⟨n',hn',ev⟩:=pU hF (o:=z) (aA.mpr ⟨_,hn,rfl⟩)
  have:=gF hend.1 (C.all gj).1 _ z n' (ak _) hn'
  obtain ⟨z',_,e⟩:=aA.mp this
  cases e
  exact ev
 have e2:((m:Int) + bs.length + 1) * ((bs.length:Int) - 1)=((m:Int) + bs.length + 1) * ((bs.length:Int) - 2 - ((0:Nat):Int)) + ((m:Int) + bs.length + 1):=by
  rw [show (bs.length:Int) - 1=((bs.length:Int) - 2 - ((0:Nat):Int)) + 1 by omega,Int.mul_add,Int.mul_one]
 have v0:vC m bs.length 0 0=R + 1:=by
  unfold vC
  rw [if_pos (by omega)]
  omega
 have v1:vC m bs.length (m + bs.length) 0=R + 2:=by
  unfold vC
  rw [if_neg (by omega),show (bs.length:Int) - 1 - ((0:Nat):Int)=(bs.length:Int) - 1 by omega]
  omega
 have X8:g9 m bs.length 0 0:=.inl ⟨by omega,by omega,by omega⟩
 have X9:g9 m bs.length (m + bs.length) 0:=.inl ⟨by omega,by omega,by omega⟩
 have hc5:=s5 _ _ hc4
 have Kg:=FA.same s5
 have yE:=s5 _ _ RJ
 have RK:=Ir.same s5
 have RL:=s5 _ _ Nm
 have P0:=s5 _ _ JT
 have WH:=HW.same s5
 clear s5 hc4 FA RJ Ir Nm JT HW
 refine za (λ i σ' H'=>(∃ y8,σ'=[some (.ref a),some (.int c0),some (.int m),some (.ref bl),some (.ref c),some (.int R),some (.ref hd),some (.ref d),y8,none,none,none,none]) /\ aG H5 H') ?_ ?_ ?_
 ·exact ⟨⟨_,rfl⟩,aG.refl _⟩
 ·rintro i σ' H6 hi ⟨⟨y8,rfl⟩,s6⟩
  have hs:(0:Int) + (i:Nat)=0 \/ (0:Int) + (i:Nat)=1:=by omega
  have BV:=s6 _ _ yE
  have M0:=s6 _ _ P0
  have hc6:=s6 _ _ hc5
  have f0:fO kvs ((0:Int),some ((0:Int) + (i:Nat),bs.getD 0 0))=some (.int (R + 1)):=by
   have h:=Nn _ (C.iQ hs (p:=0) (j:=0) (by omega) (by omega) X8)
   rw [C.eZ (p:=0) (j:=0) (by omega),v0] at h
   exact h
  have f1:fO kvs (((m + bs.length:Nat):Int),some ((0:Int) + (i:Nat),bs.getD 0 0))=some (.int (R + 2)):=by
   have h:=Nn _ (C.iQ hs (p:=m + bs.length) (j:=0) (by omega) (by omega) X9)
   rw [C.eZ (p:=m + bs.length) (j:=0) (by omega),v1] at h
   exact h
  walk_at "go"
  refine JH ?_
  walk_at "go"
  refine ⟨d,ep,kvs,rfl,M0,?_⟩
  walk_at "go"
  refine fj (bI.of BV) (v:=.int (bs.getD 0 0)) (rG (i:=0) (by omega)) ?_
  walk_at "go"
  rename_i ti H7 n7 tu H8 n8
  have TM:=n7.same.trans n8.same
  refine ⟨tu,ep,kvs,((0:Int),some ((0:Int) + (i:Nat),bs.getD 0 0)),rfl,⟨TM _ _ M0,WH.same (s6.trans TM)⟩,⟨tu,.ref ti,rfl,n8.self,⟨ti,rfl,n8.keep n7.self⟩⟩,?_⟩
  rw [f0,Option.getD_some]
  have s8:=s6.trans TM
  have WI:=s8 _ _ yE
  have NO:=s8 _ _ P0
  have WE:=s8 _ _ hc5
  clear n7 n8 TM s6 BV M0 hc6
  walk_at "go"
  refine JH ?_
  walk_at "go"
  refine ⟨d,ep,kvs,rfl,NO,?_⟩
  walk_at "go"
  refine fj (bI.of WI) (v:=.int (bs.getD 0 0)) (rG (i:=0) (by omega)) ?_
  walk_at "go"
  rename_i tj H9 n9 tv HQ NR
  have mY:=n9.same.trans NR.same
  have htv:=NR.self
  rw [show (us.length:Int) - 2=((m + bs.length:Nat):Int) by omega] at htv
  refine ⟨tv,ep,kvs,(((m + bs.length:Nat):Int),some ((0:Int) + (i:Nat),bs.getD 0 0)),rfl,⟨mY _ _ NO,WH.same (s8.trans mY)⟩,⟨tv,.ref tj,rfl,htv,⟨tj,rfl,NR.keep n9.self⟩⟩,?_⟩
  rw [f1,Option.getD_some]
  walk_at "go"
  exact ⟨⟨_,rfl⟩,s8.trans mY⟩
 ·rintro σ' H6 ⟨⟨y8,rfl⟩,s6⟩
  have hc6:=s6 _ _ hc5
  have FD:=Kg.same s6
  have BV:=s6 _ _ yE
  have IG:=RK.same s6
  have II:=s6 _ _ RL
  clear s6 hc5 Kg yE RK RL P0 WH Nn v0 v1 X8 X9 e2
  walk_at "go"
  refine ⟨hd,us,rs,rfl,II,FD,hok,by omega,IG,λ _ _=>⟨λ H7 s7 no=>absurd (C.all gj) (no _),λ b vs F2 H7 s7 Z4 fb NQ RM hvs=>?_⟩⟩
  generalize ew:gk (bP rs) (dO F2 (aH rs rs.length).length) (aH rs rs.length).length (aH rs rs.length)=way at *
  obtain ⟨hwl,s,hs,hw0,RN⟩:=C.WC wI gj RM ew
  have hch:=(rD (L:=bP rs) (g:=dO F2 (aH rs rs.length).length) (aH rs rs.length).length (aH rs rs.length)).2
  rw [ew] at hch
  have nl:∀ {x:Addr} {xs:List V},H6 x=some (.lst xs)->x ≠ bz:=λ h=>IG.ne h λ _ z=>nomatch z
  have TL:=s7 _ _ (nl hc6) hc6
  have vA:=s7 _ _ (nl BV) BV
  have RO:=s7 _ _ (nl II) II
  have FE:=BU FD (fY.tups IG s7)
  have hvl:=hvs.length
  obtain ⟨v0,hv0,a0,x0,rfl,ha0,Z5⟩:=fR hvs RN
  dsimp only at ha0
  clear s7 hc6 FD BV IG II nl
  walk_at "go"
  ·refine fj (bI.of NQ) (v:=.ref a0) (fK hv0) ?_
   walk_at "go"
   refine LK (.list (rs.map Row.data)) 2 (by decide) (.lst (bI.of RO) FE.rd) (.lst (bI.of TL) FE.rd) (Hz hok) ?_
   walk_at "go"
  refine fj (bI.of vA) (v:=.int (bs.getD 0 0)) (rG (i:=0) (by omega)) ?_
  walk_at "go"
  rename_i gl H8 n8
  have Ck:=n8.keep NQ
  have BH:=aQ.same hvs n8.same
  have RP:=n8.keep vA
  have Yb:=n8.self
  have nb:b ≠ gl:=n8.ne NQ
  have Z6:bl ≠ gl:=n8.ne vA
  clear n8 NQ hvs vA TL RO FE ha0 Z5 hv0
  have hs2:=hs
  refine f_list (xs:=vs) (λ i σ' H'=>(∃ WJ WK,σ'=[some (.ref a),some (.int c0),some (.int m),some (.ref bl),some (.ref c),some (.int R),some (.ref hd),some (.ref d),y8,some (.ref b),some (.ref gl),WJ,WK]) /\ (∀ x o,x ≠ gl->H8 x=some o->H' x=some o) /\ ∃ j:Nat,j < bs.length /\ H' gl=some (.lst ((bs.take (j + 1)).map V.int)) /\ ((i=0 /\ j=0) \/ ∃ i',i=i' + 1 /\ rE m bs.length (λ i=>bs.getD i 0) s way i' j)) ?_ ?_ ?_ ?_
  ·refine ⟨⟨_,_,rfl⟩,λ _ _ _ h=>h,0,by omega,?_,.inl ⟨rfl,rfl⟩⟩
   rw [Yb]
   cases bs with
   | nil=>exact absurd hb2 (by decide)
   | cons x xs=>rfl
  ·rintro i σ' H' _ ⟨_,k,_⟩
   exact bI.of (k _ _ nb Ck)
  ·rintro i x σ' H9 hx ⟨⟨WJ,WK,rfl⟩,k9,j,hj,RQ,hij⟩
   have hil:=(e9 hx).1
   obtain ⟨j',BP,Z7⟩:∃ j',rE m bs.length (λ i=>bs.getD i 0) s way i j' /\ (j'=j \/ j'=j + 1):=by
    rcases hij with ⟨rfl,rfl⟩ | ⟨i',rfl,BP⟩
    ·exact ⟨0,hw0,.inl rfl⟩
    ·exact C.Nh gj hs hch BP (by omega)
   obtain ⟨p,Yc,hp,hj',_,_⟩:=id BP
   obtain ⟨v,hv,JX⟩:=fR BH Yc
   rw [hx] at hv
   cases hv
   obtain ⟨va,vx,rfl,WL,ta,rfl,WM⟩:=JX
   dsimp only at WL WM Yc
   have nt:∀ {x:Addr} {xs:List V},H8 x=some (.tup xs)->x ≠ gl:=λ h z=>by rw [z,Yb] at h; cases h
   have Z8:=k9 _ _ (nt WL) WL
   have Z9:=k9 _ _ (nt WM) WM
   have RS:rW ((bs.take (j + 1)).map V.int) (-1)=some (.int (bs.getD j 0)):=rH (n:=j) (by rw [aq,bV]; omega) (by rw [aS,lM (by omega),dB hj,iR,dB hj]; rfl)
   have Tj:((bs.take (j + 1)).map V.int).length < 1000000:=by rw [aq,bV]; omega
   walk_at "go"
   refine fj (bI.of RQ) RS ?_
   walk_at "go"
   ·rename_i hd0 HQ Yd
    have WN:j'=j + 1:=Z7.resolve_left λ z=>hd0 (by rw [z])
    subst WN
    refine ⟨⟨_,_,rfl⟩,λ x o hx h=>Yd.keep hx (k9 x o hx h),j + 1,hj',?_,.inr ⟨i,rfl,BP⟩⟩
    rw [Yd.self,bW (i:=j + 1),dB hj',bM,iR,dB hj']
    rfl
   ·rename_i hd0
    have WN:=Aq hnd j' j hj' hj hd0
    subst WN
    exact ⟨⟨_,_,rfl⟩,k9,j',hj',RQ,.inr ⟨i,rfl,BP⟩⟩
  ·rintro σ' H9 ⟨⟨WJ,WK,rfl⟩,k9,j,hj,RQ,hij⟩
   walk_at "go"
   have X4:j + 1=bs.length:=by
    rcases hij with ⟨e,_⟩ | ⟨i',e,BP⟩
    ·rw [hvl] at e
     have h0:=(e9 RN).1
     omega
    ·have e1:i'=way.length - 1:=by omega
     subst e1
     exact C.IA hwl BP
   rw [X4,cz] at RQ
   refine LJ (.list (bs.map PyData.int)) 1 (by decide) (.lst (bI.of RQ) (kF.ints bs)) (.lst (bI.of (k9 _ _ Z6 RP)) (kF.ints bs)) Sh.ints ?_
   exact q _
end
theorem Kh(h:us.length=1):∃ v0,us=[v0]:=match us,h with | [v0],_=>⟨v0,rfl⟩
theorem RT(h:us.length=2):∃ v0 v1,us=[v0,v1]:=match us,h with | [v0,v1],_=>⟨v0,v1,rfl⟩
theorem RU(h:us.length=3):∃ v0 v1 v2,us=[v0,v1,v2]:=match us,h with | [v0,v1,v2],_=>⟨v0,v1,v2,rfl⟩
theorem RW(h:us.length=4):∃ v0 v1 v2 v3,us=[v0,v1,v2,v3]:=match us,h with | [v0,v1,v2,v3],_=>⟨v0,v1,v2,v3,rfl⟩
def IJ{w:World}{h:Heap}{mg:Str->Option Value}(X:K.In h)(G:h.Ns mainGlobals mg){sX:Addr}{Np:Nat}{nJ:Addr}{vI:Tok}{nK:Addr}{vJ:Tok}{nL:Addr}{vK:Tok}{nM:Addr}{vL:Tok}{nN:Addr}{vN:Tok}{nO:Addr}{vO:Tok}{nP:Addr}{vP:Tok}{nQ:Addr}{vQ:Tok}{FF:Nat}{BW:Option Addr}{BX:Array (Option Value)}{vR:Tok}{vS:Tok}{vU:Tok}{vV:Tok}{FG:Nat}{BY:Option Addr}{BZ:Array (Option Value)}{vW:Tok}{vX:Tok}{vY:Tok}{vZ:Tok}{FH:Nat}{B0:Option Addr}{B3:Array (Option Value)}{v5:Tok}{v7:Tok}{v8:Tok}{v9:Tok}{wc:Tok}{we:Tok}{FI:Nat}{B4:Option Addr}{B5:Array (Option Value)}{wg:Tok}{wj:Tok}{FJ:Nat}{B6:Option Addr}{B7:Array (Option Value)}{wk:Tok}{wm:Tok}{wo:Tok}{FL:Nat}{B8:Option Addr}{B9:Array (Option Value)}{wu:Tok}{wz:Tok}{FN:Nat}{Ca:Option Addr}{Cb:Array (Option Value)}{wA:Tok}{FO:Nat}{Cc:Option Addr}{Cd:Array (Option Value)}{wB:Tok}(sY:PySem.W.nsIn K mainGlobals "PARTS" = some (some (.ref sX)))(sZ:K.lookup sX=some ⟨.type "dict", none,.dict #[{ hash:=PyData.keyHash w.params "num", key:=.str "num" vI,val:=.ref nJ },{ hash:=PyData.keyHash w.params "copy", key:=.str "copy" vJ,val:=.ref nK },{ hash:=PyData.keyHash w.params "op", key:=.str "op" vK,val:=.ref nL },{ hash:=PyData.keyHash w.params "out", key:=.str "out" vL,val:=.ref nM },{ hash:=PyData.keyHash w.params "fork", key:=.str "fork" vN,val:=.ref nN },{ hash:=PyData.keyHash w.params "look", key:=.str "look" vO,val:=.ref nO },{ hash:=PyData.keyHash w.params "mark", key:=.str "mark" vP,val:=.ref nP },{ hash:=PyData.keyHash w.params "back", key:=.str "back" vQ,val:=.ref nQ }] Np,#[]⟩)(tw:(sX == sysModules)=false)(qa:K.lookup nJ=some ⟨.type "tuple", BW,.seq #[.str "side" vR,.str "box" vS,.str "value" vU,.str "place" vV] FF,BX⟩)(qb:K.lookup nK=some ⟨.type "tuple", BY,.seq #[.str "side" vW,.str "box" vX,.str "box" vY,.str "place" vZ] FG,BZ⟩)(qc:K.lookup nL=some ⟨.type "tuple", B0,.seq #[.str "side" v5,.str "sign" v7,.str "box" v8,.str "box" v9,.str "box" wc,.str "place" we] FH,B3⟩)(qd:K.lookup nM=some ⟨.type "tuple", B4,.seq #[.str "box" wg,.str "place" wj] FI,B5⟩)(qe:K.lookup nN=some ⟨.type "tuple", B6,.seq #[.str "box" wk,.str "place" wm,.str "place" wo] FJ,B7⟩)(qf:K.lookup nO=some ⟨.type "tuple", B8,.seq #[.str "box" wu,.str "place" wz] FL,B9⟩)(qg:K.lookup nP=some ⟨.type "tuple", Ca,.seq #[.str "place" wA] FN,Cb⟩)(qh:K.lookup nQ=some ⟨.type "tuple", Cc,.seq #[.str "box" wB] FO,Cd⟩):zU w K mg:={ nC:=sX,zV:=PySem.W.mg_of X G sY,kT:=nJ,uX:=fN.mk' qa (.cons ⟨_,rfl⟩ (.cons ⟨_,rfl⟩ (.cons ⟨_,rfl⟩ (.cons ⟨_,rfl⟩ (.nil))))) (by show (4:Nat) <= 1000; decide),kU:=nK,uY:=fN.mk' qb (.cons ⟨_,rfl⟩ (.cons ⟨_,rfl⟩ (.cons ⟨_,rfl⟩ (.cons ⟨_,rfl⟩ (.nil))))) (by show (4:Nat) <= 1000; decide),kW:=nL,uZ:=fN.mk' qc (.cons ⟨_,rfl⟩ (.cons ⟨_,rfl⟩ (.cons ⟨_,rfl⟩ (.cons ⟨_,rfl⟩ (.cons ⟨_,rfl⟩ (.cons ⟨_,rfl⟩ (.nil))))))) (by show (6:Nat) <= 1000; decide),kX:=nM,u0:=fN.mk' qd (.cons ⟨_,rfl⟩ (.cons ⟨_,rfl⟩ (.nil))) (by show (2:Nat) <= 1000; decide),kY:=nN,u5:=fN.mk' qe (.cons ⟨_,rfl⟩ (.cons ⟨_,rfl⟩ (.cons ⟨_,rfl⟩ (.nil)))) (by show (3:Nat) <= 1000; decide),kZ:=nO,u7:=fN.mk' qf (.cons ⟨_,rfl⟩ (.cons ⟨_,rfl⟩ (.nil))) (by show (2:Nat) <= 1000; decide),k6:=nP,u9:=fN.mk' qg (.cons ⟨_,rfl⟩ (.nil)) (by show (1:Nat) <= 1000; decide),k7:=nQ,vc:=fN.mk' qh (.cons ⟨_,rfl⟩ (.nil)) (by show (1:Nat) <= 1000; decide),zW:=tY.mk' (es:=[("num", vI,.ref nJ),("copy", vJ,.ref nK),("op", vK,.ref nL),("out", vL,.ref nM),("fork", vN,.ref nN),("look", vO,.ref nO),("mark", vP,.ref nP),("back", vQ,.ref nQ)]) sZ tw (show (["num", "copy", "op", "out", "fork", "look", "mark", "back"]:List Str).Nodup from by decide +kernel) (.cons ⟨rfl,rfl⟩ (.cons ⟨rfl,rfl⟩ (.cons ⟨rfl,rfl⟩ (.cons ⟨rfl,rfl⟩ (.cons ⟨rfl,rfl⟩ (.cons ⟨rfl,rfl⟩ (.cons ⟨rfl,rfl⟩ (.cons ⟨rfl,rfl⟩ (.nil))))))))) }
theorem Nq{l:PySem.W.OpenLaw}{w:World}{mg:Str->Option Value}{fa:Addr}(T:Txt w K mg)(VD:mg "law" = some (.ref fa)):∃ fd:FuncData,(∀ (s:Shared) (v:Value),BindsTo s fd ⟨[v],[]⟩ [("_law_script", v)]) /\ ∀ base:Heap,K.In base->base.Ns mainGlobals mg->(∀ b∈[bz],base.BuiltinsAt mg b)->cJ l.prog w K mg base ji 12 fa fd ["_law_script"] (sU K):=by
 have e:=VD.symm.trans T.law.m
 cases e
 exact ⟨T.law.d,T.law.bind1 (λ _ _ _ _ _ _ us hl=>by obtain ⟨v0,rfl⟩:=Kh hl; rfl),λ base kb nb hb=>Nk T (hb _ (au.mpr rfl))⟩
theorem walk{l:PySem.W.OpenLaw}{q:Program}{loose:List Str}{XP:(Str->Option Value)->Heap->Prop}{YP:World->Heap->Prop}{d:DefRec}{K:Params->ay}(hn:l.most=some 63)(hdf:d.params.defaults=[])
  (hY:∀ (w:World) (h:Heap),YP w h->(K w.params).In h)(hT:∀ (w:World) (h:Heap),YP w h->∀ b∈[bz],h.get? b=some (PySem.W.tabObj #[]))
  (hC:∀ w:World,PySem.W.codeHdIn (K w.params) 141 bz=true)(U4:∀ w:World,(K w.params).lookup bz=none)
  (F:∀ (w:World) (mg:Str->Option Value) (fa:Addr) (h:Heap),(K w.params).In h->h.Ns mainGlobals mg->mg d.name=some (.ref fa) ->
   ∃ fd:FuncData,(∀ (s:Shared) (u:Value),BindsTo s fd ⟨[u],[]⟩ [("_law_script", u)]) /\ ∀ base:Heap,(K w.params).In base->base.Ns mainGlobals mg->(∀ b∈[bz],base.BuiltinsAt mg b)->cJ l.prog w (K w.params) mg base ji 12 fa fd ["_law_script"] (sU (K w.params))):
  PySem.W.WalkO q loose XP YP l.row.toRowW d [] (λ f vs=>PySem.call f vs) :=
 L2.Bm (n:=63) (k:=12) (x := "_law_script") (ts:=[bz]) (sp:=sU) hn (by decide) hdf ⟨rfl,by decide,by decide⟩ hY
  (λ w h Y b hb=>⟨hT w h Y b hb,by obtain rfl:=au.mp hb; exact ((PySem.W.codeHd_of_K (hY w h Y) (hC w)).tab (hT w h Y _ hb)).isCodeTable⟩) (λ w b hb=>by obtain rfl:=au.mp hb; exact U4 w)
  F (λ _ _ a ns hl hS hT=>⟨⟨a,ns,rfl,hS,hl,λ _=>rfl⟩,hT _ (au.mpr rfl)⟩)
end TG
open PySem PySem.W PyProof.Rows
set_option hygiene false in
local macro_rules | `(tactic| walk_at "bd") => `(tactic| (intro _ _ _ _ _ _ us hl; first | (obtain ⟨v0, rfl⟩ := TG.Kh hl; rfl) | (obtain ⟨v0, v1, rfl⟩ := TG.RT hl; rfl) | (obtain ⟨v0, v1, v2, rfl⟩ := TG.RU hl; rfl) | (obtain ⟨v0, v1, v2, v3, rfl⟩ := TG.RW hl; rfl)))
set_option hygiene false in
local macro_rules | `(tactic| walk_at "dd") => `(tactic| (refine' L2.JF KX G ?b ?a ?l ?c ?k; (case b => walk_at "bd"); (case a => k_is); (case l => k_is); (case c => k_is); (case k => k_is)))
set_option hygiene false in
local macro_rules | `(tactic| walk_at "dl") => `(tactic| (refine' L2.Qa KX G ?b ?a ?l ?c ?k ?h; (case b => walk_at "bd"); (case a => k_is); (case l => k_is); (case c => k_is); (case k => k_is); (case h => kernel_rfl)))
set_option hygiene false in
local macro_rules | `(tactic| walk_at "nn") => `(tactic| (refine PySem.W.mg_none_of KX G ?_; k_is))
set_option hygiene false in
local macro_rules | `(tactic| walk_at "ci") => `(tactic| (refine' L2.Qc KX G ?a; (case a => k_is)))
set_option hygiene false in
local macro_rules | `(tactic| walk_at "ct") => `(tactic| (refine' L2.Qd KX G ?a ?l ?r ?z; (case a => k_is); (case l => k_is); (case r => (repeat (first | exact .nil | refine .cons ⟨_, rfl⟩ ?_))); (case z => exact Nat.le_of_ble_eq_true rfl)))
namespace PySem.W.Fast
theorem tw12192952784218852673:True:=trivial
theorem tw5798087708213253817:True:=trivial
theorem tw15159508330633395836:True:=trivial
theorem tw14255780127383265468:True:=trivial
theorem tw3071728352212804966:True:=trivial
theorem tw13603109832791535887:True:=trivial
theorem tw1961093170256032992:True:=trivial
theorem tw11789281558489493266:True:=trivial
theorem tw903234991997363288:True:=trivial
theorem tw2607540536245443528:True:=trivial
theorem tw1045018899246712282:True:=trivial
theorem tw12082449537113042163:True:=trivial
theorem tw5297375447304435014:True:=trivial
theorem tw4004866342435910260:True:=trivial
theorem tw6746342770851189752:True:=trivial
theorem tw7726202306753840946:True:=trivial
theorem tw11139860947551572756:True:=trivial
theorem tw17763475335305824131:True:=trivial
theorem tw7942217422584765220:True:=trivial
theorem tw1827488678975200588:True:=trivial
theorem tw9072190274744678010:True:=trivial
theorem tw1576564672141434501:True:=trivial
theorem tw8641256785440378039:True:=trivial
theorem tw14520158786883993815:True:=trivial
theorem tw12086142270756364377:True:=trivial
theorem tw2007487388160693464:True:=trivial
theorem tw4052024599206800837:True:=trivial
theorem tw5400334874976014877:True:=trivial
theorem tw18180361914212015185:True:=trivial
theorem tw17588122764939383603:True:=trivial
theorem tw3696047788367582505:True:=trivial
theorem tw13700739355393342263:True:=trivial
theorem tw14527692294332898019:True:=trivial
theorem tw11974961348376795554:True:=trivial
theorem tw9873875017201505782:True:=trivial
theorem tw6907182790821166839:True:=trivial
theorem tw17614793875052629229:True:=trivial
theorem tw9981394267514728837:True:=trivial
theorem tw10036681033418170755:True:=trivial
theorem tw15375367701691642452:True:=trivial
theorem tw18073675317290902188:True:=trivial
theorem tw8251199858297254354:True:=trivial
theorem tw340696896878750679:True:=trivial
theorem tw3816735291768952974:True:=trivial
theorem tw3392561184375563914:True:=trivial
theorem tw898918635131158405:True:=trivial
theorem tw12086099444041333953:True:=trivial
theorem tw15804884506251566484:True:=trivial
theorem tw4130477785898610828:True:=trivial
theorem tw2473748249251775328:True:=trivial
theorem tw18019390869156910489:True:=trivial
theorem tw13931325818117589512:True:=trivial
theorem tw17076473101103914972:True:=trivial
theorem tw14604683171687745649:True:=trivial
theorem tw8945918016768154812:True:=trivial
end PySem.W.Fast
set_option maxRecDepth 100000 in
set_option maxHeartbeats 0 in
theorem PySem.Challenge.cw_turnguard_k55_long_ways_holds : PySem.Challenge.rw_turnguard_k55_long_ways.Holds := by
 w_on; o_law; k_head; (case hw=>w_witness2)
 k_fill
 refine TG.walk (l:=PySem.Challenge.rw_turnguard_k55_long_ways) rfl rfl (λ w h Y=>PySem.W.km_in_of Y) (λ w h Y=>PySem.W.km_tabs_of Y) (λ w=>by kernel_rfl) (λ w=>by kernel_rfl) ?F
 case F =>
  intro w mg fa h KX G hmg
  refine' TG.Nq (w:=w) ⟨?q0,?q1,?q2,?q3,?q4,?q5,?q6,?q7,?q8,?q9,?q10,?q11,?q12,?q13,?q14,?q15,?q16,?q17,?q18,?q19,?q20,?q21,?q22,?q23,?q24,?q25,?q26,?q27,?q28,?q29,?q30,?q31,?q32,?q33,?q34,?q35,?q36,?q37,?q38,?q39,?q40,?q41,?q42,?q43,?q44,?q45,?q46⟩ hmg
  case q0|q1|q2|q3|q4|q5|q6|q7|q8|q9|q10|q11|q12|q13|q14|q15|q16|q17|q19|q20|q21|q22|q23=>walk_at "dd"
  case q18=>walk_at "dl"
  case q24|q25|q26|q27|q28|q29|q30|q31|q32|q33|q34|q35|q36|q37|q38|q39|q40=>walk_at "nn"
  case q41=>walk_at "ci"
  case q42|q43|q44|q46=>walk_at "ct"
  case q45 =>
   refine' TG.IJ KX G ?sY ?sZ ?tw ?qa ?qb ?qc ?qd ?qe ?qf ?qg ?qh
   case sY|sZ|qa|qb|qc|qd|qe|qf|qg|qh=>k_is
   case tw=>rfl
end
