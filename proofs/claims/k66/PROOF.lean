import PyProof.Rows.All
import Wide.All
import OpenK.AllK
import Wide.FinOn
import Lean
import PyProof.EqAt
import PyProof.EqKinds
import PyProof.TupleCall
import KE.KRevIter
import KE.KRevSl
import PyProof.AttrMiss
import KE.KDictOf
import PyProof.FactsAll.enumerate
import PyProof.FactsAll.zip
import PyProof.ListRange
import PyProof.FactsAll.list_1
import KE.KDictList
import PyProof.StrOps2
import PyProof.Rows.SetFrom
import PyProof.CollectStr
import PyProof.Rows.SortWalk
import KE.KSortTup
import KE.KDictList
import PyProof.FactsAll.range_2
import PyProof.P3Eq
import KE.KEqDict
import PyProof.FString5
import PyProof.FitsInt
import PySem.Challenge.RW_turnguard_k66_too_late
set_option Elab.async false
set_option linter.all false
set_option maxRecDepth 100000
theorem af:type_of% @PySem.wpAny_bind:=@PySem.wpAny_bind
theorem aE:type_of% @PySem.wpAny_pure:=@PySem.wpAny_pure
theorem bO:type_of% @PySem.Heap.get?_push_of_some:=@PySem.Heap.get?_push_of_some
theorem fK:type_of% @PySem.Heap.get?_push_size:=@PySem.Heap.get?_push_size
theorem eU{α:Type}{l:List α}{i:Nat}{a:α}(h:l[i]? = some a):∃ h:i < l.length,l[i]=a:=List.getElem?_eq_some_iff.mp h
theorem fM{α:Type}{l:List α}{i:Nat}(h:i < l.length):l[i]? = some l[i]:=List.getElem?_eq_getElem h
theorem fL{α:Type}{l:List α}{i:Nat}{a:α}(h:l[i]? = some a):a∈l:=List.mem_of_getElem? h
theorem kg{α:Type}{l:List α}{i:Nat}{a:α}:l.getD i a=l[i]?.getD a:=List.getD_eq_getElem?_getD
theorem j0:¬ (false=true):=Bool.false_ne_true
noncomputable section
local macro_rules | `(tactic| walk_at "sc") => `(tactic| exact ⟨rfl, rfl, rfl, by decide +kernel, rfl, by decide +kernel, by decide +kernel⟩)
abbrev az:=PySem.W.Frag
section
open PySem PySem.Spec PyProof.Rows
theorem f7:type_of% @Around.under_plainId:=@Around.under_plainId
theorem jg:type_of% @Array.forIn_toList:=@Array.forIn_toList
theorem dM:type_of% @Array.getElem?_eq_getElem:=@Array.getElem?_eq_getElem
theorem oH:type_of% @Array.getElem?_eq_none:=@Array.getElem?_eq_none
theorem gE:type_of% @Array.getElem?_eq_some_iff:=@Array.getElem?_eq_some_iff
theorem dz:type_of% @Array.getElem?_toList:=@Array.getElem?_toList
theorem cg:type_of% @Array.length_toList:=@Array.length_toList
theorem fB:type_of% @Bool.and_eq_true:=@Bool.and_eq_true
theorem oJ:type_of% @Bool.and_false:=@Bool.and_false
theorem oK:type_of% @Bool.false_and:=@Bool.false_and
theorem aS:type_of% @Bool.false_eq_true:=@Bool.false_eq_true
theorem dG:type_of% @Bool.not_true:=@Bool.not_true
theorem sr:type_of% @Calls.callWith_builtin:=@Calls.callWith_builtin
theorem su:type_of% @Calls.call_function_entry:=@Calls.call_function_entry
theorem oM:type_of% @Classical.byContradiction:=@Classical.byContradiction
theorem iG:type_of% @F.plain_max_loop:=@F.plain_max_loop
theorem sy:type_of% @F.slot_dict_keyiterator_next:=@F.slot_dict_keyiterator_next
theorem sA:type_of% @F.slot_dict_valueiterator_next:=@F.slot_dict_valueiterator_next
theorem sC:type_of% @F.slot_tuple_iterator_next:=@F.slot_tuple_iterator_next
theorem oN:type_of% @Heap.SameBut.refl:=@Heap.SameBut.refl
theorem f9:type_of% @Heap.SameBut.update:=@Heap.SameBut.update
theorem dH:type_of% @Heap.get?_update_ne:=@Heap.get?_update_ne
theorem c7:type_of% @Heap.get?_update_other:=@Heap.get?_update_other
theorem cj:type_of% @Heap.get?_update_self:=@Heap.get?_update_self
theorem aA:type_of% @Heap.lt_size:=@Heap.lt_size
theorem oO:type_of% @Heap.size_after_update:=@Heap.size_after_update
theorem dI:type_of% @Heap.size_push:=@Heap.size_push
theorem gT:type_of% @Int.toNat_natCast:=@Int.toNat_natCast
theorem kh:type_of% @List.Perm.refl:=@List.Perm.refl
theorem gU:type_of% @List.any_cons:=@List.any_cons
theorem dY:type_of% @List.append_nil:=@List.append_nil
theorem iH:type_of% @List.filter_append:=@List.filter_append
theorem lZ:type_of% @List.filter_cons:=@List.filter_cons
theorem oQ:type_of% @List.filter_cons_of_neg:=@List.filter_cons_of_neg
theorem oR:type_of% @List.filter_cons_of_pos:=@List.filter_cons_of_pos
theorem eE:type_of% @List.find?_cons:=@List.find?_cons
theorem oS:type_of% @List.flatMap_cons:=@List.flatMap_cons
theorem gW:type_of% @List.forIn_cons:=@List.forIn_cons
theorem jh:type_of% @List.forIn_nil:=@List.forIn_nil
theorem sD:type_of% @List.getElem?_append_right:=@List.getElem?_append_right
theorem gX:type_of% @List.getElem?_eq_none:=@List.getElem?_eq_none
theorem bh:type_of% @List.getElem?_map:=@List.getElem?_map
theorem sE:type_of% @List.getElem?_set_self:=@List.getElem?_set_self
theorem oU:type_of% @List.getElem?_take_of_lt:=@List.getElem?_take_of_lt
theorem ji:type_of% @List.getElem?_toArray:=@List.getElem?_toArray
theorem l0:type_of% @List.getElem?_zip_eq_some:=@List.getElem?_zip_eq_some
theorem oW:type_of% @List.getElem_inj:=@List.getElem_inj
theorem oX:type_of% @List.getElem_map:=@List.getElem_map
theorem gY:type_of% @List.getElem_mem:=@List.getElem_mem
theorem aX:type_of% @List.length_append:=@List.length_append
theorem dZ:type_of% @List.length_cons:=@List.length_cons
theorem oY:type_of% @List.length_drop:=@List.length_drop
theorem gZ:type_of% @List.length_filter_le:=@List.length_filter_le
theorem au:type_of% @List.length_map:=@List.length_map
theorem oZ:type_of% @List.length_range:=@List.length_range
theorem g6:type_of% @List.length_singleton:=@List.length_singleton
theorem bQ:type_of% @List.length_take:=@List.length_take
theorem bD:type_of% @List.map_append:=@List.map_append
theorem bR:type_of% @List.map_cons:=@List.map_cons
theorem eV:type_of% @List.map_map:=@List.map_map
theorem aK:type_of% @List.mem_append:=@List.mem_append
theorem ki:type_of% @List.mem_append_left:=@List.mem_append_left
theorem bF:type_of% @List.mem_append_right:=@List.mem_append_right
theorem aG:type_of% @List.mem_cons:=@List.mem_cons
theorem cX:type_of% @List.mem_cons_of_mem:=@List.mem_cons_of_mem
theorem gc:type_of% @List.mem_cons_self:=@List.mem_cons_self
theorem eW:type_of% @List.mem_filter:=@List.mem_filter
theorem kj:type_of% @List.mem_flatMap:=@List.mem_flatMap
theorem o4:type_of% @List.mem_iff_getElem:=@List.mem_iff_getElem
theorem eX:type_of% @List.mem_iff_getElem?:=@List.mem_iff_getElem?
theorem aF:type_of% @List.mem_map:=@List.mem_map
theorem l8:type_of% @List.mem_map_of_mem:=@List.mem_map_of_mem
theorem fN:type_of% @List.mem_range:=@List.mem_range
theorem aC:type_of% @List.mem_singleton:=@List.mem_singleton
theorem d7:type_of% @List.nodup_append:=@List.nodup_append
theorem gf:type_of% @List.nodup_cons:=@List.nodup_cons
theorem iI:type_of% @List.nodup_nil:=@List.nodup_nil
theorem eF:type_of% @List.not_mem_nil:=@List.not_mem_nil
theorem l9:type_of% @List.pairwise_cons:=@List.pairwise_cons
theorem jj:type_of% @List.pairwise_iff_getElem:=@List.pairwise_iff_getElem
theorem ko:type_of% @List.pairwise_map:=@List.pairwise_map
theorem aT:type_of% @List.size_toArray:=@List.size_toArray
theorem bS:type_of% @List.take_add_one:=@List.take_add_one
theorem ck:type_of% @List.take_length:=@List.take_length
theorem o5:type_of% @List.take_subset:=@List.take_subset
theorem kq:type_of% @Nat.le_add_right:=@Nat.le_add_right
theorem o6:type_of% @Nat.le_of_ble_eq_true:=@Nat.le_of_ble_eq_true
theorem g7:type_of% @Nat.le_of_lt:=@Nat.le_of_lt
theorem ay:type_of% @Nat.le_refl:=@Nat.le_refl
theorem jk:type_of% @Nat.le_succ:=@Nat.le_succ
theorem bq:type_of% @Nat.le_trans:=@Nat.le_trans
theorem cY:type_of% @Nat.lt_irrefl:=@Nat.lt_irrefl
theorem bz:type_of% @Nat.lt_of_lt_of_le:=@Nat.lt_of_lt_of_le
theorem bX:type_of% @Nat.lt_or_ge:=@Nat.lt_or_ge
theorem jl:type_of% @Nat.lt_succ_of_lt:=@Nat.lt_succ_of_lt
theorem kr:type_of% @Nat.lt_succ_self:=@Nat.lt_succ_self
theorem fO:type_of% @Nat.ne_of_gt:=@Nat.ne_of_gt
theorem aM:type_of% @Nat.ne_of_lt:=@Nat.ne_of_lt
theorem aO:type_of% @Nat.zero_le:=@Nat.zero_le
theorem aV:type_of% @Ne.symm:=@Ne.symm
theorem iJ:type_of% @Obj.cls_mapFields:=@Obj.cls_mapFields
theorem bW:type_of% @Obj.data_mapFields:=@Obj.data_mapFields
theorem fk:type_of% @Obj.isFreed_of_fields:=@Obj.isFreed_of_fields
theorem cO:type_of% @Option.map_eq_some_iff:=@Option.map_eq_some_iff
theorem jI:type_of% @Option.toList_some:=@Option.toList_some
theorem aq:type_of% @Or.inl:=@Or.inl
theorem bH:type_of% @Or.inr:=@Or.inr
theorem fR:type_of% @Paired.length:=@Paired.length
theorem cH:type_of% @Paired.mono:=@Paired.mono
theorem cC:type_of% @Paired.snoc:=@Paired.snoc
theorem b4:type_of% @PassesOwn.never:=@PassesOwn.never
theorem nJ:type_of% @PyProof.Rows.callWith_type1:=@PyProof.Rows.callWith_type1
theorem fm:type_of% @PySem.F.plainAttrs_list:=@PySem.F.plainAttrs_list
theorem nK:type_of% @PySem.F.slot_list_append:=@PySem.F.slot_list_append
theorem nL:type_of% @PySem.F.slot_list_extend:=@PySem.F.slot_list_extend
theorem nM:type_of% @PySem.F.type_list_append:=@PySem.F.type_list_append
theorem nN:type_of% @PySem.F.type_list_extend:=@PySem.F.type_list_extend
theorem dN:type_of% @PySem.W.kia_one:=@PySem.W.kia_one
theorem gF:type_of% @PySem.mem_of_lookup:=@PySem.mem_of_lookup
theorem dO:type_of% @True.intro:=@True.intro
end
namespace L2
open PySem PySem.Spec PyProof.Rows
variable {x:Str}{u:Value}{H:Hp}{a b C:Addr}{o:HO}{P:Program}{w:World}{h base:Heap}{t' i k n:Nat}{ch fp:List Addr}{N ps:List Str}{M:Model}{A:Around}{E Q:Value->Shared->Prop}{v:V}{X:Cx}{e c tg:Expr}{s:Shared}{pins:List (Addr × Obj)}{pos:Pos}{op:CmpOp}{t te:TE}{K:az}{D:Ends}{g:TG}{body:List Stmt}{tb:TS}{xs:List V}{f:Value->Value->Sem Value}{r:R2}{us:List Value}{mg:Str->Option Value}{CX:xO}{outer:List Env}
abbrev Key:=Sum Int Str
def qT:Key->Value->Bool
 | .inl k,v=>Value.isInt k v
 | .inr x,v=>Value.isStrOf x v
def U0(w:World):Key->Int
 | .inl k=>hashInt k
 | .inr x=>hashStr w x
theorem cD:∀ {k:Key} {v:Value},qT k v=true->(∃ i t,k=Sum.inl i /\ v=Value.int i t) \/ (∃ x t,k=Sum.inr x /\ v=Value.str x t)
 | .inl i,v,h=>by
  obtain ⟨t,e⟩:=Value.isInt_shape (k:=i) (v:=v) h
  exact .inl ⟨i,t,rfl,e⟩
 | .inr x,v,h=>by
  obtain ⟨t,e⟩:=Value.isStrOf_shape (x:=x) (v:=v) h
  exact .inr ⟨x,t,rfl,e⟩
theorem AM(i:Int)(t:Tok):qT (.inl i) (.int i t)=true:=by simp [qT,Value.isInt]
theorem AN(x:Str)(t:Tok):qT (.inr x) (.str x t)=true:=by simp [qT,Value.isStrOf]
theorem K7(a b:Int):decide ((Sum.inl a:Key)=Sum.inl b)=(a == b):=by
 by_cases e:a=b
 ·subst e; simp
 ·have h:¬ (Sum.inl a:Key)=Sum.inl b:=λ q=>e (Sum.inl.inj q)
  rw [decide_eq_false h]
  exact (beq_eq_false_iff_ne.mpr e).symm
theorem K8(a b:Str):decide ((Sum.inr a:Key)=Sum.inr b)=decide (a=b):=by
 by_cases e:a=b
 ·subst e; simp
 ·have h:¬ (Sum.inr a:Key)=Sum.inr b:=λ q=>e (Sum.inr.inj q)
  rw [decide_eq_false h,decide_eq_false e]
theorem K9(a:Int)(b:Str):decide ((Sum.inl a:Key)=Sum.inr b)=false:=decide_eq_false (λ q=>nomatch q)
theorem La(a:Str)(b:Int):decide ((Sum.inr a:Key)=Sum.inl b)=false:=decide_eq_false (λ q=>nomatch q)
def bI(prog:Program)(w:World):PySem.KeyKind prog w Key where
 is:=qT
 hash:=U0 w
 inj:=λ v a b ha hb=>by
  rcases cD ha with ⟨i,t,rfl,rfl⟩ | ⟨x,t,rfl,rfl⟩
  ·rcases cD hb with ⟨j,u,rfl,e⟩ | ⟨y,u,rfl,e⟩
   ·injection e with e1 _; rw [e1]
   ·exact nomatch e
  ·rcases cD hb with ⟨j,u,rfl,e⟩ | ⟨y,u,rfl,e⟩
   ·exact nomatch e
   ·injection e with e1 _; rw [e1]
 byValue:=λ k v h=>by
  rcases cD h with ⟨i,t,rfl,rfl⟩ | ⟨x,t,rfl,rfl⟩ <;> rfl
 pyHash:=λ hv h=>by
  rcases cD hv with ⟨i,t,rfl,rfl⟩ | ⟨x,t,rfl,rfl⟩
  ·exact wpAny_pyHash_int h
  ·exact wpAny_pyHash_str h
 eqBool:=λ hu hv h=>by
  rcases cD hu with ⟨i,t,rfl,rfl⟩ | ⟨x,t,rfl,rfl⟩
  ·rcases cD hv with ⟨j,u,rfl,rfl⟩ | ⟨y,u,rfl,rfl⟩
   ·rw [K7] at h; exact wpAny_eqBool_int h
   ·rw [K9] at h; exact SeqAt.EqAt.int_str i t y u _ _ _ _ h
  ·rcases cD hv with ⟨j,u,rfl,rfl⟩ | ⟨y,u,rfl,rfl⟩
   ·rw [La] at h; exact SeqAt.EqAt.str_int x t j u _ _ _ _ h
   ·rw [K8] at h; exact wpAny_eqBool_str h
 «strs»:=λ k x t v h=>by
  rcases cD h with ⟨i,u,rfl,e⟩ | ⟨y,u,rfl,e⟩
  ·exact nomatch e
  ·injection e with e1 _
   subst e1
   cases v <;> rfl
theorem uw(prog:Program)(w:World)(i:Int)(t:Tok):(bI prog w).is (.inl i) (.int i t)=true:=AM i t
theorem jm(prog:Program)(w:World)(x:Str)(t:Tok):(bI prog w).is (.inr x) (.str x t)=true:=AN x t
inductive V where
 | bZ | bl (b:Bool) | int (i:Int) | str (x:Str) | CB (b:Array UInt8) | Lb (b:UInt64) | ref (a:Addr) | ty (n:String)
 deriving DecidableEq
def RelV:V->Value->Prop
 | .bZ,u=>u=Value.none
 | .bl b,u=>u=Value.bool b
 | .int i,u=>∃ t,u=Value.int i t
 | .str x,u=>∃ t,u=Value.str x t
 | .CB b,u=>∃ t,u=Value.bytes b t
 | .Lb b,u=>∃ t,u=Value.float b t
 | .ref a,u=>u=Value.ref a
 | .ty n,u=>u=Value.type n
abbrev Vals:List V->List Value->Prop:=Paired RelV
theorem Vals.length{xs:List V}{us:List Value}(r:Vals xs us):xs.length=us.length:=fR r
theorem Vals.get:∀ {xs:List V} {us:List Value} {i:Nat} {x:V},Vals xs us->xs[i]? = some x->∃ u,us[i]? = some u /\ RelV x u
 | _,_,_,_,.nil,e=>by simp at e
 | _,_,0,_,.cons r _,e=>by simp at e; subst e; exact ⟨_,rfl,r⟩
 | _,_,i + 1,x,.cons _ t,e=>by
  obtain ⟨u,h1,h2⟩:=Vals.get (i:=i) (x:=x) t (by simpa using e)
  exact ⟨u,by simpa using h1,h2⟩
theorem Vals.set{x:V}(r:RelV x u):∀ {xs:List V} {us:List Value} (i:Nat),Vals xs us->Vals (xs.set i x) (us.set i u)
 | _,_,_,.nil=>.nil
 | _,_,0,.cons _ t=>.cons r t
 | _,_,i + 1,.cons q t=>.cons q (Vals.set r i t)
theorem Vals.append:∀ {xs ys:List V} {us ws:List Value},Vals xs us->Vals ys ws->Vals (xs++ys) (us++ws)
 | _,_,_,_,.nil,s=>s
 | _,_,_,_,.cons r t,s=>.cons r (Vals.append t s)
theorem Vals.take:∀ {xs:List V} {us:List Value} (n:Nat),Vals xs us->Vals (xs.take n) (us.take n)
 | _,_,0,_=>.nil
 | _,_,_ + 1,.nil=>.nil
 | _,_,n + 1,.cons r t=>.cons r (Vals.take n t)
theorem Vals.drop:∀ {xs:List V} {us:List Value} (n:Nat),Vals xs us->Vals (xs.drop n) (us.drop n)
 | _,_,0,r=>r
 | _,_,_ + 1,.nil=>.nil
 | _,_,n + 1,.cons _ t=>Vals.drop n t
def iK:Option V->Option Value->Prop
 | some v,some u=>RelV v u
 | none,none=>True
 | _,_=>False
def KV{κ:Type}:List (κ × V)->List (κ × Value)->Prop:=Paired λ (p:κ × V) (q:κ × Value)=>p.1=q.1 /\ RelV p.2 q.2
def kV:Key->V
 | .inl i=>.int i
 | .inr x=>.str x
inductive HO where
 | lst (xs:List V)
 | tup (xs:List V)
 | dK (kvs:List (Key × V)) | dT (kvs:List (List Key × V))
 | set (S:Int->Bool) (n:Nat)
 | ins (C dx:Addr) (fs:List (Str × V))
 | own (x:Addr)
 | xd (fs:List (Str × V))
 | met (f x:Addr)
 | U1 (lo hi:Int)
 | zm (o:Obj) (u:HO)
 | Lc (ps:Array Value)
 | ext (φ:Heap->Prop)
abbrev Hp:=Addr->Option HO
def upd(H:Hp)(a:Addr)(o:HO):Hp:=λ b=>if b=a then some o else H b
theorem cL:upd H a o a=some o:=by unfold upd; rw [if_pos rfl]
theorem aR(h:b ≠ a):upd H a o b=H b:=by unfold upd; rw [if_neg h]
theorem Gs{u:HO}:upd (upd H a o) a u=upd H a u:=by
 funext b; unfold upd; split <;> rfl
theorem qU{H:Hp}{o u:HO}(h:H a=some o)(h':H b=some u)(d:o ≠ u):a ≠ b:=by
 intro e; subst e; rw [h] at h'; exact d (Option.some.inj h')
theorem bw{H:Hp}{o:HO}(h:H a=some o)(h':H b=none):a ≠ b:=by
 intro e; subst e; rw [h] at h'; cases h'
section
variable (P:Program)(w:World)
def bT(H:Hp)(h:Heap)(a:Addr):HO->Prop
 | .lst xs=>xs.length <= sizeLine /\ ∃ (its:List Value) (n:Nat),Vals xs its /\ h.get? a=some { cls:=.type "list", data:=.seq its.toArray n }
 | .tup xs=>xs.length <= sizeLine /\ ∃ its:List Value,Vals xs its /\ IsTup h a its.toArray
 | .dK kvs=>kvs.length <= sizeLine /\ (a == sysModules)=false /\ ∃ vs,KV kvs vs /\ h.DictOf (bI P w) a vs
 | .dT kvs=>kvs.length <= sizeLine /\ (a == sysModules)=false /\ ∃ xs:List (List Key × Addr × Value),
   Paired (λ (p:List Key × V) (q:List Key × Addr × Value)=>p.1=q.1 /\ H q.2.1=some (.tup (p.1.map kV)) /\ RelV p.2 q.2.2) kvs xs /\
   ∃ o es ep,h.get? a=some o /\ o.ExactDict /\ o.data=.dict es ep /\ es.toList=xs.map (entryOfKey (tupleKind (bI P w))) /\ (xs.map (·.1)).Nodup
 | .set S n=>h.SetOf (intKind P w) a S n
 | .ins C dx fs=>H dx=some (.own a) /\ fs.length <= 1000 /\ dx ≠ a /\ h.get? a=some (PySem.W.instObj C dx) /\
   ∃ mA,h.Ns1 dx mA /\ (∀ f,iK (fs.lookup f) (mA f)) /\ PySem.Within mA (fs.map (·.1))
 | .own _=>∃ o,h.get? a=some o
 | .xd fs=>∃ mA,h.Ns1 a mA /\ ∀ f,iK (fs.lookup f) (mA f)
 | .U1 lo hi=>∃ t u v,h.get? a=some { cls:=.type "range", data:=.fields #[.int lo t,.int hi u,.int 1 v] }
 | .zm o u=>h.get? a=some o /\ bT H h a u
 | .Lc ps=>h.get? a=some { cls:=.none,data:=.fields ps }
 | .met f x=>h.get? a=some (PySem.W.methodObj (.ref f) (.ref x))
 | .ext φ=>φ h /\ (∃ o,h.get? a=some o) /\ ∀ h1 h2:Heap,φ h1->(∀ o,h1.get? a=some o->h2.get? a=some o)->φ h2
def j3(H:Hp)(h:Heap):Prop:=∀ a o,H a=some o->bT P w H h a o
end
section
variable {P:Program}{w:World}{H H':Hp}{h h':Heap}{a:Addr}{o:HO}
theorem bT.lt(x:bT P w H h a o):a < h.objs.size:=by
 cases o with
 | lst xs=>obtain ⟨_,_,_,_,e⟩:=x; exact aA e
 | tup xs=>obtain ⟨_,_,_,p⟩:=x; exact p.lt
 | dK kvs=>obtain ⟨_,_,_,_,o,_,_,e,_⟩:=x; exact aA e
 | dT kvs=>obtain ⟨_,_,_,_,o,_,_,e,_⟩:=x; exact aA e
 | set S n=>obtain ⟨o,_,_,_,e,_⟩:=x; exact aA e
 | ins C dx fs=>obtain ⟨_,_,_,e,_⟩:=x; exact aA e
 | own y=>obtain ⟨_,e⟩:=x; exact aA e
 | xd fs=>obtain ⟨_,⟨_,_,_,e,_⟩,_⟩:=x; exact aA e
 | U1 lo hi=>obtain ⟨_,_,_,e⟩:=x; exact aA e
 | zm ob u=>obtain ⟨e,_⟩:=x; exact aA e
 | Lc ps=>exact aA (show h.get? a=some _ from x)
 | met f y=>exact aA (show h.get? a=some _ from x)
 | ext φ=>obtain ⟨_,⟨_,e⟩,_⟩:=x; exact aA e
theorem Paired.AO{α β:Type}{F G:α->β->Prop}:∀ {l₁:List α} {l₂:List β},Paired F l₁ l₂->(∀ a b,F a b->G a b)->Paired G l₁ l₂
 | _,_,.nil,_=>.nil
 | _,_,.cons r t,f=>.cons (f _ _ r) (Paired.AO t f)
theorem bT.stay(x:bT P w H h a o)(k:∀ b u,(b=a \/ H b=some (.own a))->h.get? b=some u->h'.get? b=some u)
  (ho:∀ b,H b=some (.own a)->H' b=some (.own a))(ht:∀ b xs,H b=some (.tup xs)->H' b=some (.tup xs)):bT P w H' h' a o:=by
 induction o with
 | lst xs=>obtain ⟨z,its,n,r,e⟩:=x; exact ⟨z,its,n,r,k _ _ (.inl rfl) e⟩
 | tup xs=>obtain ⟨z,its,r,ob,e,c⟩:=x; exact ⟨z,its,r,ob,k _ _ (.inl rfl) e,c⟩
 | dK kvs=>obtain ⟨z,y,vs,r,ob,es,ep,e,c⟩:=x; exact ⟨z,y,vs,r,ob,es,ep,k _ _ (.inl rfl) e,c⟩
 | dT kvs =>
  obtain ⟨z,y,xs,r,ob,es,ep,e,c⟩:=x
  exact ⟨z,y,xs,Paired.AO r λ p q z=>⟨z.1,ht _ _ z.2.1,z.2.2⟩,ob,es,ep,k _ _ (.inl rfl) e,c⟩
 | set S n=>obtain ⟨ob,es,ep,t,e,c⟩:=x; exact ⟨ob,es,ep,t,k _ _ (.inl rfl) e,c⟩
 | ins C dx fs =>
  obtain ⟨d,z,ne,e,mA,⟨od,es,ep,e2,c⟩,r⟩:=x
  exact ⟨ho _ d,z,ne,k _ _ (.inl rfl) e,mA,⟨od,es,ep,k _ _ (.inr d) e2,c⟩,r⟩
 | own y=>obtain ⟨ob,e⟩:=x; exact ⟨ob,k _ _ (.inl rfl) e⟩
 | xd fs=>obtain ⟨mA,⟨od,es,ep,e,c⟩,r⟩:=x; exact ⟨mA,⟨od,es,ep,k _ _ (.inl rfl) e,c⟩,r⟩
 | U1 lo hi=>obtain ⟨t,u,v,e⟩:=x; exact ⟨t,u,v,k _ _ (.inl rfl) e⟩
 | zm ob u ih=>obtain ⟨e,q⟩:=x; exact ⟨k _ _ (.inl rfl) e,ih q⟩
 | Lc ps =>
  have e:h.get? a=some { cls:=.none,data:=.fields ps }:=x
  show h'.get? a=some { cls:=.none,data:=.fields ps }
  exact k a _ (.inl rfl) e
 | met f y =>
  have e:h.get? a=some (PySem.W.methodObj (.ref f) (.ref y)):=x
  show h'.get? a=some (PySem.W.methodObj (.ref f) (.ref y))
  exact k a _ (.inl rfl) e
 | ext φ=>obtain ⟨p,⟨o,e⟩,st⟩:=x; exact ⟨st _ _ p λ o q=>k _ _ (.inl rfl) q,⟨o,k _ _ (.inl rfl) e⟩,st⟩
theorem j3.lt(x:j3 P w H h)(e:H a=some o):a < h.objs.size:=(x a o e).lt
theorem j3.fresh(x:j3 P w H h)(e:h.objs.size <= a):H a=none:=by
 cases q:H a with
 | none=>rfl
 | some u=>exact absurd (bz (x.lt q) e) (cY _)
theorem j3.kept(x:j3 P w H h)(k:∀ b u,h.get? b=some u->h'.get? b=some u):j3 P w H h':=λ a o e =>
 (x a o e).stay (λ b u _ q=>k b u q) (λ _ q=>q) λ _ _ q=>q
theorem j3.laid(x:j3 P w H h)(k:∀ b u,h.get? b=some u->h'.get? b=some u)(hp:h.objs.size <= a)(new:bT P w (upd H a o) h' a o):j3 P w (upd H a o) h':=λ b u e=>by
 have hn:=x.fresh hp
 by_cases hb:b=a
 ·subst hb; rw [cL] at e; cases e; exact new
 ·rw [aR hb] at e
  exact (x b u e).stay (λ c v _ q=>k c v q) (λ c q=>by rw [aR (bw q hn)]; exact q) λ c xs q=>by rw [aR (bw q hn)]; exact q
end
def Rd(H:Hp)(a:Addr)(u:HO):Prop:=H a=some u \/ ∃ o,H a=some (.zm o u)
theorem Rd.of{u:HO}(h:H a=some u):Rd H a u:=.inl h
theorem Rd.ok{u:HO}(r:Rd H a u)(x:j3 P w H h):bT P w H h a u:=by
 rcases r with r | ⟨o,r⟩
 ·exact x a u r
 ·obtain ⟨_,q⟩:=x a _ r
  exact q
def O7:Option HO->Prop
 | some (.lst _)=>True
 | some (.dK _)=>True
 | some (.dT _)=>True
 | some (.set _ _)=>True
 | some (.ins _ _ _)=>True
 | some (.ext _)=>True
 | _=>False
section
variable {P:Program}{w:World}{H:Hp}{h h':Heap}{x e:Addr}{o':HO}
theorem j3.write(ok:j3 P w H h)(mu:O7 (H x))(he:e=x \/ H e=some (.own x))(k:∀ b u,b ≠ e->h.get? b=some u->h'.get? b=some u)(OP:∃ u,h'.get? e=some u)
  (new:bT P w (upd H x o') h' x o'):j3 P w (upd H x o') h':=λ b u q=>by
 have O8:∀ c y,H c=some (.own y)->c ≠ x:=λ c y r z=>by subst z; rw [r] at mu; exact mu
 have U3:∀ c xs,H c=some (.tup xs)->c ≠ x:=λ c xs r z=>by subst z; rw [r] at mu; exact mu
 by_cases hb:b=x
 ·subst hb; rw [cL] at q; cases q; exact new
 ·rw [aR hb] at q
  by_cases Gu:b=e
  ·have q':H b=some (.own x):=by
    rcases he with z | z
    ·exact absurd (Gu.trans z) hb
    ·rw [Gu]; exact z
   rw [q] at q'; cases q'
   obtain ⟨v,hv⟩:=OP
   exact ⟨v,by rw [Gu]; exact hv⟩
  ·refine (ok b u q).stay (λ c v hc r=>k c v ?_ r) (λ c r=>by rw [aR (O8 c b r)]; exact r) λ c xs r=>by rw [aR (U3 c xs r)]; exact r
   rcases hc with rfl | hc
   ·exact Gu
   ·rintro rfl
    rcases he with z | z
    ·exact O8 c b hc z
    ·rw [hc] at z; cases z; exact hb rfl
end
structure Un (fs ex:List Addr) (H H':Hp) (h h':Heap):Prop where
 keep:∀ b o,h.get? b=some o->H b=none->b ∉ fs->b ∉ ex->h'.get? b=some o
 slot:∀ b o,h.get? b=some o->H b=none->b∈fs->b ∉ ex->∃ sl,h'.get? b=some { o with slots:=sl }
 free:∀ b o,h.get? b=some o->H b=none->b ∉ ex->H' b=none
 there:∀ b o,h.get? b=some o->b ∉ ex->∃ o',h'.get? b=some o'
 tups:∀ b xs,H b=some (.tup xs)->H' b=some (.tup xs)
 ku:∀ b o u,H b=some (.zm o u)->H' b=some (.zm o u)
 kK:∀ b ps,H b=some (.Lc ps)->∃ more,H' b=some (.Lc (ps++more))
section
variable {fs fs' ex ex':List Addr}{H H1 H2:Hp}{h h1 h2 h':Heap}{a x e:Addr}{o:HO}
theorem Un.any(u:Un fs ex H H1 h h1){ob:Obj}(q:h.get? b=some ob)(n:H b=none)(hx:b ∉ ex):∃ sl,h1.get? b=some { ob with slots:=sl }:=by
 by_cases hb:b∈fs
 ·exact u.slot b ob q n hb hx
 ·exact ⟨ob.slots,u.keep b ob q n hb hx⟩
theorem Un.trans(a:Un fs ex H H1 h h1)(b:Un fs ex H1 H2 h1 h2):Un fs ex H H2 h h2 where
 keep:=λ c ob q n hc hx=>b.keep c ob (a.keep c ob q n hc hx) (a.free c ob q n hx) hc hx
 slot:=λ c ob q n hc hx=>by
  obtain ⟨sl,e1⟩:=a.slot c ob q n hc hx
  obtain ⟨zo,e2⟩:=b.slot c _ e1 (a.free c ob q n hx) hc hx
  exact ⟨zo,e2⟩
 free:=λ c ob q n hx=>by
  obtain ⟨o',e1⟩:=a.there c ob q hx
  exact b.free c o' e1 (a.free c ob q n hx) hx
 there:=λ c ob q hx=>by
  obtain ⟨o',e1⟩:=a.there c ob q hx
  exact b.there c o' e1 hx
 tups:=λ c xs q=>b.tups c xs (a.tups c xs q)
 ku:=λ c ob xs q=>b.ku c ob xs (a.ku c ob xs q)
 kK:=λ c ps q=>by
  obtain ⟨m1,e1⟩:=a.kK c ps q
  obtain ⟨m2,e2⟩:=b.kK c _ e1
  exact ⟨m1++m2,by rw [e2,Array.append_assoc]⟩
theorem Un.kept(k:∀ b u,h.get? b=some u->h'.get? b=some u):Un fs ex H H h h' :=
 ⟨λ b ob q _ _ _=>k b ob q,λ b ob q _ _ _=>⟨ob.slots,k b ob q⟩,λ _ _ _ n _=>n,λ b ob q _=>⟨ob,k b ob q⟩,λ _ _ q=>q,λ _ _ _ q=>q,λ _ ps q=>⟨#[],by rw [q]; simp⟩⟩
theorem Un.refl:Un fs ex H H h h:=Un.kept λ _ _ q=>q
theorem Un.laid(k:∀ b u,h.get? b=some u->h'.get? b=some u)(hp:h.objs.size <= a)(hn:H a=none):Un fs ex H (upd H a o) h h' where
 keep:=λ b u q _ _ _=>k b u q
 slot:=λ b u q _ _ _=>⟨u.slots,k b u q⟩
 free:=λ b u q n _=>by rw [aR (aM (bz (aA q) hp))]; exact n
 there:=λ b u q _=>⟨u,k b u q⟩
 tups:=λ b xs q=>by rw [aR (bw q hn)]; exact q
 ku:=λ b u xs q=>by rw [aR (bw q hn)]; exact q
 kK:=λ b ps q=>⟨#[],by rw [aR (bw q hn),q]; simp⟩
theorem Un.write(mu:O7 (H x))(he:e=x \/ H e=some (.own x))(k:∀ b u,b ≠ e->h.get? b=some u->h'.get? b=some u)(OP:∃ u,h'.get? e=some u):Un fs ex H (upd H x o) h h':=by
 have hx:∀ b,H b=none->b ≠ x:=λ b n z=>by subst z; rw [n] at mu; exact mu
 have hb:∀ b,H b=none->b ≠ e:=λ b n z=>by
  subst z
  rcases he with r | r
  ·exact hx b n r
  ·rw [n] at r; cases r
 have hm:∀ b u,H b=some u->¬ O7 (some u)->b ≠ x:=λ b u q nm z=>by subst z; rw [q] at mu; exact nm mu
 refine ⟨λ b u q n _ _=>k b u (hb b n) q,λ b u q n _ _=>⟨u.slots,k b u (hb b n) q⟩,λ b u q n _=>by rw [aR (hx b n)]; exact n,λ b u q _=>?_,
  λ b xs q=>by rw [aR (hm b _ q λ z=>z)]; exact q,λ b u xs q=>by rw [aR (hm b _ q λ z=>z)]; exact q,λ b ps q=>⟨#[],by rw [aR (hm b _ q λ z=>z),q]; simp⟩⟩
 by_cases Gu:b=e
 ·subst Gu; exact OP
 ·exact ⟨u,k b u Gu q⟩
theorem Un.mono(u:Un fs ex H H1 h h1)(hs:∀ b∈fs,b∈fs')(hx:∀ b∈ex,b∈ex'):Un fs' ex' H H1 h h1 :=
 ⟨λ b ob q n hb he=>u.keep b ob q n (λ z=>hb (hs b z)) λ z=>he (hx b z),λ _ _ q n _ he=>u.any q n λ z=>he (hx _ z),λ b ob q n he=>u.free b ob q n λ z=>he (hx b z),λ b ob q he=>u.there b ob q λ z=>he (hx b z),u.tups,u.ku,u.kK⟩
end
def To(h:Heap)(H:Hp):List Addr:=(List.range h.objs.size).filter λ a=>(H a).isSome
def sF(h:Heap)(H:Hp):Heap:=PySem.W.hideAll h (To h H)
theorem AQ(h:Heap)(H:Hp):(sF h H).objs.size=h.objs.size:=PySem.W.hideAll_size _ _
theorem CK{o:Obj}(e:h.get? b=some o)(n:H b=none):(sF h H).get? b=some o :=
 PySem.W.hideAll_get _ e λ hm=>by
  have q:(H b).isSome=true:=(eW.mp hm).2
  rw [n] at q; simp at q
theorem Gv{o:Obj}(e:(sF h H).get? b=some o):h.get? b=some o /\ H b=none:=by
 have e':h.get? b=some o:=PySem.W.of_hideAll (To h H) e
 refine ⟨e',?_⟩
 cases q:H b with
 | none=>rfl
 | some x =>
  have hm:b∈To h H:=eW.mpr ⟨fN.mpr (aA e'),by simp [q]⟩
  have z:(sF h H).get? b=none:=PySem.W.hideAll_none (To h H) hm
  rw [z] at e; cases e
def Gw(g h:Heap)(L:Addr):List (Addr × Obj):=(List.range h.objs.size).filterMap λ a=>if a=L \/ (g.get? a).isSome=true then none else (h.get? a).map λ o=>(a,o)
def rest(g h:Heap)(L d:Addr):List (Addr × Obj):=(Gw g h L).filter λ p=>decide (p.1 ≠ d)
structure Mod (K:az) (mg:Str->Option Value) (base:Heap):Prop where
 Ld:K.In base
 glob:base.Ns mainGlobals mg
 blt:∃ mb,base.Ns builtinsNs mb /\ ∀ x:Str,x ≠ "__name__" -> mb x=bootBuiltins x
 nolimit:base.NoLimit
structure Cx where
 prog:Program
 w:World
 K:az
 mg:Str->Option Value
 base:Heap
 A:Around
 N:List Str
 s₀:Shared
 H₀:Hp
 env:Env
 outer:List Env
 stack:List Env
 ex:List Addr
 fn:Str->Bool
 calm:Bool
 pn:List (Addr × Obj)
 xe:Value->Shared->Prop
def frs(l:List Env):List Addr:=l.filterMap (·.frame)
abbrev Cx.fs(X:Cx):List Addr:=frs X.outer
def Tp(sc:Scope)(x:Str):Prop:=sc.names.lookup x=some .local \/ sc.names.lookup x=some .cell \/ sc.names.lookup x=some .free
def Loc(sc:Scope)(x:Str):Prop:=sc.names.lookup x=some .local \/ sc.names.lookup x=some .cell
def Look(env:Env)(h:Heap)(m:Str->Option Value)(x:Str)(u:Value):Prop :=
 (env.kindOf x=some .local /\ m x=some u) \/ ((env.kindOf x=some .cell \/ env.kindOf x=some .free) /\ ∃ c,env.cells.lookup x=some c /\ h.IsCell c (some u))
structure Cx.Ok (X:Cx):Prop where
 mod:Mod X.K X.mg X.base
 kind:X.env.scope.kind=.function
 glob:X.env.globals=mainGlobals
 blt:X.env.builtins=builtinsNs
 above:X.s₀.heap.objs.size <= X.env.locals
 inj:∀ x y c,X.env.cells.lookup x=some c->X.env.cells.lookup y=some c->x=y
 has:∀ x,(X.env.kindOf x=some .cell \/ X.env.kindOf x=some .free)->∃ c,X.env.cells.lookup x=some c
 OQ:∀ x c,X.fn x=true->X.env.cells.lookup x=some c->X.s₀.heap.objs.size <= c
 hd:X.calm=true->X.A.handled=none
 frames:X.A.frames=some X.stack
 stk:X.stack=X.outer \/ (X.stack=X.env :: X.outer /\ X.env.frame=some X.env.locals)
 U4:∀ b∈X.ex,b ≠ X.env.locals /\ ∀ x c,X.env.cells.lookup x=some c->c ≠ b
 bs:∀ b o,X.base.get? b=some o->X.s₀.heap.get? b=some o /\ X.H₀ b=none
 CC:X.base.objs.size <= X.s₀.heap.objs.size
 xD:∀ b o,X.base.get? b=some o->b ∉ X.ex
 xE:∀ b∈X.ex,b ∉ X.fs
 kB:X.s₀.heap.FunFrames X.base X.outer
 Gf:∀ b∈X.fs,X.H₀ b=none
structure Inv (X:Cx) (pins:List (Addr × Obj)) (σ:List (Option V)) (H:Hp) (s:Shared):Prop where
 ok:X.Ok
 os:s.os=X.s₀.os
 bare:AllBare s.gens
 base:Un X.fs X.ex X.H₀ H X.s₀.heap s.heap
 loc:∃ m,s.heap.Ns X.env.locals m /\ ∀ (i:Nat) (x:Str) (v:V),X.N[i]? = some x->σ[i]? = some (some v)->Tp X.env.scope x->∃ u,RelV v u /\ Look X.env s.heap m x u
 cell:∀ x c,X.env.cells.lookup x=some c->∃ v,s.heap.IsCell c v
 free:H X.env.locals=none
 gh:∀ x c,X.env.cells.lookup x=some c->H c=none
 pin:∀ p∈X.pn++pins,s.heap.get? p.1=some p.2 /\ H p.1=none /\ p.1 ≠ X.env.locals /\ p.1 ∉ X.fs /\ ∀ v,p.2.data ≠ .cell v
 hok:j3 X.prog X.w H s.heap
 len:σ.length=X.N.length
section
variable {X:Cx}{pins:List (Addr × Obj)}{σ:List (Option V)}{H H':Hp}{s:Shared}{h':Heap}
theorem Cx.Ok.U5(ok:X.Ok){o:Obj}(e:X.base.get? b=some o):b ∉ X.fs:=λ hb=>by
 have:=(ok.kB.mem hb).1
 rw [e] at this; cases this
theorem Inv.bs(I:Inv X pins σ H s):∀ b o,X.base.get? b=some o->s.heap.get? b=some o /\ H b=none:=λ b o e =>
 ⟨I.base.keep b o (I.ok.bs b o e).1 (I.ok.bs b o e).2 (I.ok.U5 e) (I.ok.xD b o e),I.base.free b o (I.ok.bs b o e).1 (I.ok.bs b o e).2 (I.ok.xD b o e)⟩
theorem Inv.bk(I:Inv X pins σ H s):∀ b o,X.base.get? b=some o->s.heap.get? b=some o:=λ b o e=>(I.bs b o e).1
theorem Inv.mod(I:Inv X pins σ H s):Mod X.K X.mg X.base:=I.ok.mod
theorem Inv.jc(I:Inv X pins σ H s):X.K.In s.heap:=I.ok.mod.Ld.keeps I.bk
theorem Inv.nolimit(I:Inv X pins σ H s):s.heap.NoLimit:=I.ok.mod.nolimit.keeps I.bk
theorem Inv.fr(I:Inv X pins σ H s):∃ m,Fr X.base X.env.locals s.heap m :=
 let ⟨m,hn,_⟩:=I.loc
 ⟨m,hn,I.bk,bq I.ok.CC I.ok.above⟩
theorem Inv.lt(I:Inv X pins σ H s):X.env.locals < s.heap.objs.size:=let ⟨_,hn,_⟩:=I.loc; hn.lt
theorem Inv.sz(I:Inv X pins σ H s):X.s₀.heap.objs.size <= s.heap.objs.size:=bq I.ok.above (g7 I.lt)
theorem Inv.Le(I:Inv X pins σ H s)(h:s.heap.objs.size <= a):a ∉ X.fs:=λ hb=>by
 obtain ⟨_,o,ho,_⟩:=I.ok.kB.mem hb
 exact absurd (bz (aA ho) (bq I.sz h)) (cY _)
theorem Inv.CL(I:Inv X pins σ H s):∀ x c,X.env.cells.lookup x=some c->c ≠ X.env.locals:=λ x c e z=>by
 obtain ⟨v,o,ho,hd⟩:=I.cell x c e
 obtain ⟨m,⟨o',es,ep,ho',hd',_⟩,_⟩:=I.loc
 rw [z,ho'] at ho; cases ho; rw [hd'] at hd; cases hd
theorem Inv.kB(I:Inv X pins σ H s):s.heap.FunFrames X.base X.outer:=by
 have all:∀ (l:List Env),(∀ b∈frs l,b∈X.fs)->X.s₀.heap.FunFrames X.base l->s.heap.FunFrames X.base l:=by
  intro l
  induction l with
  | nil=>intro _ _; trivial
  | cons env r ih =>
   intro hs hl
   obtain ⟨hk,⟨L,o,hf,hn,ho,hd⟩,hr⟩:=hl
   have hL:L∈X.fs:=hs L (by unfold frs; rw [List.filterMap_cons,hf]; exact gc)
   obtain ⟨sl,e⟩:=I.base.slot L o ho (I.ok.Gf L hL) hL λ z=>I.ok.xE L z hL
   exact ⟨hk,⟨L,_,hf,hn,e,hd⟩,ih (λ b hb=>hs b (by unfold frs; rw [List.filterMap_cons,hf]; exact cX _ hb)) hr⟩
 exact all X.outer (λ _ hb=>hb) I.ok.kB
theorem Inv.stack(I:Inv X pins σ H s):s.heap.FunFrames X.base X.stack:=by
 rcases I.ok.stk with e | ⟨e,hf⟩
 ·rw [e]; exact I.kB
 ·rw [e]
  obtain ⟨m,hn,_⟩:=I.loc
  refine .cons (by rw [I.ok.kind]; decide) hf hn ?_ I.kB
  exact Heap.get?_none_of_le (bq I.ok.CC I.ok.above)
theorem Inv.sG(I:Inv X pins σ H s):∀ b∈frs X.stack,b∈X.env.locals :: X.fs:=λ b hb=>by
 rcases I.ok.stk with e | ⟨e,hf⟩
 ·rw [e] at hb; exact cX _ hb
 ·rw [e] at hb
  unfold frs at hb
  rw [List.filterMap_cons,hf] at hb
  exact hb
theorem Inv.nO(I:Inv X pins σ H s):∀ b∈frs X.stack,H b=none:=λ b hb=>by
 rcases aG.mp (I.sG b hb) with e | hb
 ·rw [e]; exact I.free
 ·obtain ⟨_,o,ho,_⟩:=I.ok.kB.mem hb
  exact I.base.free b o ho (I.ok.Gf b hb) λ z=>I.ok.xE b z hb
theorem Inv.step{g':Array GenState}{d':Drawn}(I:Inv X pins σ H s)
  (hch:∀ b∈ch,(b∈X.ex \/ X.s₀.heap.objs.size <= b) /\ b ≠ X.env.locals /\ (∀ x c,X.env.cells.lookup x=some c->c ≠ b) /\ ∀ p∈X.pn++pins,p.1 ≠ b)
  (keep:∀ b o,b ≠ X.env.locals->b ∉ X.fs->b ∉ ch->s.heap.get? b=some o->H b=none->h'.get? b=some o)
  (slot:∀ b o,b ≠ X.env.locals->b∈X.fs->b ∉ ch->s.heap.get? b=some o->H b=none->∃ sl,h'.get? b=some { o with slots:=sl })(free:∀ b o,b ∉ ch->s.heap.get? b=some o->H b=none->H' b=none)
  (there:∀ b o,b ∉ ch->s.heap.get? b=some o->∃ o',h'.get? b=some o')
  (tups:∀ b xs,H b=some (.tup xs)->H' b=some (.tup xs))(ku:∀ b o u,H b=some (.zm o u)->H' b=some (.zm o u))(kK:∀ b ps,H b=some (.Lc ps)->∃ more,H' b=some (.Lc (ps++more)))
  (ns:∀ m,s.heap.Ns X.env.locals m->h'.Ns X.env.locals m)(hok:j3 X.prog X.w H' h')(hg:AllBare g'):
  Inv X pins σ H' { s with heap:=h',gens:=g',drawn:=d',toks:=t' }:=by
 have XU:∀ b o,X.s₀.heap.get? b=some o->b ≠ X.env.locals:=λ b o e=>aM (bz (aA e) I.ok.above)
 have Tq:∀ b o,X.s₀.heap.get? b=some o->b ∉ X.ex->b ∉ ch:=λ b o e hx hb=>by
  rcases (hch b hb).1 with z | z
  ·exact hx z
  ·exact absurd (bz (aA e) z) (cY _)
 have cellK:∀ x c,X.env.cells.lookup x=some c->∀ v,s.heap.IsCell c v->h'.IsCell c v:=λ x c e v ⟨o,ho,hd⟩=>by
  have O9:c ∉ ch:=λ z=>(hch c z).2.2.1 x c e rfl
  by_cases hc:c∈X.fs
  ·obtain ⟨sl,q⟩:=slot c o (I.CL x c e) hc O9 ho (I.gh x c e)
   exact ⟨_,q,hd⟩
  ·exact ⟨o,keep c o (I.CL x c e) hc O9 ho (I.gh x c e),hd⟩
 refine ⟨I.ok,I.os,hg,⟨λ b o e n hb hx=>?_,λ b o e n hb hx=>?_,λ b o e n hx=>?_,λ b o e hx=>?_,λ b xs e=>tups b xs (I.base.tups b xs e),λ b o xs e=>ku b o xs (I.base.ku b o xs e),λ b ps e=>?_⟩,?_,λ x c e=>?_,?_,λ x c e=>?_,λ p hp=>?_,hok,I.len⟩
 ·exact keep b o (XU b o e) hb (Tq b o e hx) (I.base.keep b o e n hb hx) (I.base.free b o e n hx)
 ·obtain ⟨sl,e1⟩:=I.base.slot b o e n hb hx
  obtain ⟨zo,e2⟩:=slot b _ (XU b o e) hb (Tq b o e hx) e1 (I.base.free b o e n hx)
  exact ⟨zo,e2⟩
 ·obtain ⟨o',e1⟩:=I.base.there b o e hx
  exact free b o' (Tq b o e hx) e1 (I.base.free b o e n hx)
 ·obtain ⟨o',e1⟩:=I.base.there b o e hx
  exact there b o' (Tq b o e hx) e1
 ·obtain ⟨m1,e1⟩:=I.base.kK b ps e
  obtain ⟨m2,e2⟩:=kK b _ e1
  exact ⟨m1++m2,by rw [e2,Array.append_assoc]⟩
 ·obtain ⟨m,hn,hl⟩:=I.loc
  refine ⟨m,ns m hn,λ i x v e1 e2 e3=>?_⟩
  obtain ⟨u,r,l⟩:=hl i x v e1 e2 e3
  refine ⟨u,r,?_⟩
  rcases l with l | ⟨k,c,e,z⟩
  ·exact .inl l
  ·exact .inr ⟨k,c,e,cellK x c e _ z⟩
 ·obtain ⟨v,z⟩:=I.cell x c e
  exact ⟨v,cellK x c e v z⟩
 ·obtain ⟨m,⟨o,_,_,ho,_⟩,_⟩:=I.loc
  exact free _ o (λ z=>(hch _ z).2.1 rfl) ho I.free
 ·obtain ⟨v,o,ho,hd⟩:=I.cell x c e
  exact free c o (λ z=>(hch c z).2.2.1 x c e rfl) ho (I.gh x c e)
 ·obtain ⟨e,n,ne,nf,d⟩:=I.pin p hp
  have O9:p.1 ∉ ch:=λ z=>(hch p.1 z).2.2.2 p hp rfl
  exact ⟨keep p.1 p.2 ne nf O9 e n,free p.1 p.2 O9 e n,ne,nf,d⟩
theorem Inv.un(I:Inv X pins σ H s)(u:Un X.fs [] H H' s.heap h')(hok:j3 X.prog X.w H' h'):Inv X pins σ H' { s with heap:=h',toks:=t' }:=by
 obtain ⟨m,⟨o,es,ep,ho,r⟩,_⟩:=id I.loc
 obtain ⟨sl,hL⟩:=u.any ho I.free (by simp)
 exact I.step (g':=s.gens) (d':=s.drawn) (ch:=[]) (λ _ z=>nomatch z) (λ b o _ hb _ e n=>u.keep b o e n hb (by simp)) (λ b o _ hb _ e n=>u.slot b o e n hb (by simp)) (λ b o _ e n=>u.free b o e n (by simp)) (λ b o _ e=>u.there b o e (by simp)) u.tups u.ku u.kK (λ m' hm=>by
  obtain ⟨o',es',m9,ho',r'⟩:=hm
  rw [ho] at ho'; cases ho'
  exact ⟨_,es',m9,hL,r'⟩) hok I.bare
theorem Inv.call{g':Array GenState}{d':Drawn}(I:Inv X pins σ H s)(u:Un (frs X.stack) ch H H' s.heap h')(hok:j3 X.prog X.w H' h')(hg:AllBare g')
  (hch:∀ b∈ch,(b∈X.ex \/ X.s₀.heap.objs.size <= b) /\ b ≠ X.env.locals /\ (∀ x c,X.env.cells.lookup x=some c->c ≠ b) /\ ∀ p∈X.pn++pins,p.1 ≠ b):
  Inv X pins σ H' { s with heap:=h',gens:=g',drawn:=d',toks:=t' }:=by
 obtain ⟨m,⟨o,es,ep,ho,r⟩,_⟩:=id I.loc
 obtain ⟨sl,hL⟩:=u.any ho I.free λ z=>(hch _ z).2.1 rfl
 exact I.step (ch:=ch) hch (λ b o hL hb hc e n=>u.keep b o e n (λ z=>(aG.mp (I.sG b z)).elim hL hb) hc) (λ b o _ _ hc e n=>u.any e n hc) (λ b o hc e n=>u.free b o e n hc) (λ b o hc e=>u.there b o e hc) u.tups u.ku u.kK (λ m' hm=>by
  obtain ⟨o',es',m9,ho',r'⟩:=hm
  rw [ho] at ho'; cases ho'
  exact ⟨_,es',m9,hL,r'⟩) hok hg
theorem Inv.turned{it:Addr}(I:Inv X pins σ H s)(k:∀ b o,b ≠ it->s.heap.get? b=some o->h'.get? b=some o)(hn:H it=none)(hL:it ≠ X.env.locals)
  (h1:it∈X.ex \/ X.s₀.heap.objs.size <= it)(h2:∀ x c,X.env.cells.lookup x=some c->c ≠ it)(h3:∀ p∈X.pn++pins,p.1 ≠ it):Inv X pins σ H { s with heap:=h',toks:=t' }:=by
 have Pa:∀ b u,H b=some u->b ≠ it:=λ b u e z=>by rw [z,hn] at e; cases e
 refine I.step (g':=s.gens) (d':=s.drawn) (ch:=[it]) (λ b hb=>?_) (λ b o _ _ hc e _=>k b o (λ z=>hc (by simp [z])) e) (λ b o _ _ hc e _=>⟨o.slots,k b o (λ z=>hc (by simp [z])) e⟩) (λ _ _ _ _ n=>n)
  (λ b o hc e=>⟨o,k b o (λ z=>hc (by simp [z])) e⟩) (λ _ _ e=>e) (λ _ _ _ e=>e) (λ b ps e=>⟨#[],by rw [e]; simp⟩) (λ m hm=>?_) (λ b u e=>?_) I.bare
 ·have e:b=it:=by simpa using hb
  subst e
  exact ⟨h1,hL,h2,h3⟩
 ·obtain ⟨o,es,ep,ho,r⟩:=hm
  exact ⟨o,es,ep,k _ o (aV hL) ho,r⟩
 ·refine (I.hok b u e).stay (λ c v hc q=>k c v ?_ q) (λ _ q=>q) λ _ _ q=>q
  rcases hc with z | z
  ·rw [z]; exact Pa b u e
  ·exact Pa c _ z
theorem Inv.tok(I:Inv X pins σ H s)(t:Nat):Inv X pins σ H { s with toks:=t }:=I.un (h':=s.heap) (t':=t) Un.refl I.hok
theorem Inv.kept(I:Inv X pins σ H s)(k:∀ b u,s.heap.get? b=some u->h'.get? b=some u):Inv X pins σ H { s with heap:=h',toks:=t' }:=I.un (Un.kept k) (I.hok.kept k)
theorem Inv.laid(I:Inv X pins σ H s)(k:∀ b u,s.heap.get? b=some u->h'.get? b=some u)(hp:s.heap.objs.size <= a)(new:bT X.prog X.w (upd H a o) h' a o):
  Inv X pins σ (upd H a o) { s with heap:=h',toks:=t' }:=I.un (Un.laid k hp (I.hok.fresh hp)) (I.hok.laid k hp new)
theorem Inv.write{x e:Addr}(I:Inv X pins σ H s)(mu:O7 (H x))(he:e=x \/ H e=some (.own x))(k:∀ b u,b ≠ e->s.heap.get? b=some u->h'.get? b=some u)(OP:∃ u,h'.get? e=some u)
  (new:bT X.prog X.w (upd H x o) h' x o):Inv X pins σ (upd H x o) { s with heap:=h',toks:=t' }:=I.un (Un.write mu he k OP) (I.hok.write mu he k OP new)
theorem Inv.jJ{Jy:List (Addr × Obj)}(I:Inv X pins σ H s)(h:∀ p∈Jy,s.heap.get? p.1=some p.2 /\ H p.1=none /\ p.1 ≠ X.env.locals /\ p.1 ∉ X.fs /\ ∀ v,p.2.data ≠ .cell v):Inv X Jy σ H s :=
 ⟨I.ok,I.os,I.bare,I.base,I.loc,I.cell,I.free,I.gh,λ p hp=>(aK.mp hp).elim (λ z=>I.pin p (ki _ z)) (h p),I.hok,I.len⟩
theorem o7(hN:N.Nodup){j:Nat}(a:N[i]? = some x)(b:N[j]? = some x):i=j:=by
 obtain ⟨h1,e1⟩:=eU a
 obtain ⟨h2,e2⟩:=eU b
 exact (oW hN).mp (e1.trans e2.symm)
theorem mh{Q:Unit->Shared->Prop}(I:Inv X pins σ H s)(hN:X.N.Nodup)(hi:X.N[i]? = some x)(hx:Loc X.env.scope x)(r:RelV v u)
  (h:∀ s',Inv X pins (σ.set i (some v)) H s'->(∃ a,Heap.SameBut a s.heap s'.heap /\ (a=X.env.locals \/ X.env.cells.lookup x=some a))->Q () s')(hf:X.fn x=true \/ X.env.scope.names.lookup x=some .local:=by first | exact .inl rfl | exact .inr rfl | assumption):wpAny M A (storeName X.env x u) Q E s:=by
 obtain ⟨m,hn,hl⟩:=id I.loc
 have hcls:(X.env.scope.kind == .class || (X.env.scope.kind == .module && X.env.locals != X.env.globals))=false:=by rw [I.ok.kind]; rfl
 have Tr:i < σ.length:=by rw [I.len]; exact (eU hi).1
 have CL:=I.CL
 have tracked:∀ {a:Addr} {h':Heap},(∃ o,s.heap.get? a=some o /\ H a=none)->Heap.SameBut a s.heap h'->j3 X.prog X.w H h':=λ {a h'} ha hs b ob e=>by
  obtain ⟨_,_,hfree⟩:=ha
  refine (I.hok b ob e).stay (λ c w' hc q=>(hs.2 c ?_).trans q) (λ _ q=>q) λ _ _ q=>q
  rintro rfl
  rcases hc with rfl | hc
  ·rw [hfree] at e; cases e
  ·rw [hfree] at hc; cases hc
 rcases hx with hk | hk
 ·refine wpAny_storeName_local hk hn (λ h' hn' hs=>?_) hcls
  obtain ⟨oL,_,_,XW,_⟩:=id hn
  refine h _ ⟨I.ok,I.os,I.bare,⟨λ b o e n hb hx=>?_,λ b o e n hb hx=>?_,I.base.free,λ b o e hx=>?_,I.base.tups,I.base.ku,I.base.kK⟩,⟨_,hn',λ j y v' e1 e2 e3=>?_⟩,λ y c e=>?_,I.free,I.gh,λ p hp=>?_,tracked ⟨oL,XW,I.free⟩ hs,by simpa using I.len⟩ ⟨_,hs,.inl rfl⟩
  ·exact (hs.2 b (aM (bz (aA e) I.ok.above))).trans (I.base.keep b o e n hb hx)
  ·obtain ⟨sl,e1⟩:=I.base.slot b o e n hb hx
   exact ⟨sl,(hs.2 b (aM (bz (aA e) I.ok.above))).trans e1⟩
  ·obtain ⟨o',e1⟩:=I.base.there b o e hx
   exact ⟨o',(hs.2 b (aM (bz (aA e) I.ok.above))).trans e1⟩
  ·by_cases hj:j=i
   ·subst hj
    rw [hi] at e1; cases e1
    rw [sE Tr] at e2
    cases e2
    exact ⟨u,r,.inl ⟨hk,by simp⟩⟩
   ·rw [List.getElem?_set_ne (aV hj)] at e2
    obtain ⟨u',r',q⟩:=hl j y v' e1 e2 e3
    refine ⟨u',r',?_⟩
    rcases q with ⟨k,e⟩ | ⟨k,c,e,z⟩
    ·refine .inl ⟨k,?_⟩
     have:y ≠ x:=λ e=>hj (o7 hN e1 (e ▸ hi))
     simp [this,e]
    ·exact .inr ⟨k,c,e,z.sameBut hs (CL y c e)⟩
  ·obtain ⟨w',z⟩:=I.cell y c e
   exact ⟨w',z.sameBut hs (CL y c e)⟩
  ·obtain ⟨e,n,ne,nf,d⟩:=I.pin p hp
   exact ⟨(hs.2 p.1 ne).trans e,n,ne,nf,d⟩
 ·have hfn:X.fn x=true:=by
   rcases hf with z | z
   ·exact z
   ·rw [z] at hk; cases hk
  obtain ⟨c,hc⟩:=I.ok.has x (.inl hk)
  obtain ⟨w',z⟩:=I.cell x c hc
  refine wpAny_storeName_cell I.ok.kind hk hc z (λ h' hc' hs=>?_)
  obtain ⟨oc,hoc,U6⟩:=id z
  refine h { s with heap:=h' } ⟨I.ok,I.os,I.bare,⟨λ b o e n hb hx=>?_,λ b o e n hb hx=>?_,I.base.free,λ b o e hx=>?_,I.base.tups,I.base.ku,I.base.kK⟩,⟨m,hn.sameBut hs (aV (CL x c hc)),λ j y v' e1 e2 e3=>?_⟩,λ y c' e=>?_,I.free,I.gh,λ p hp=>?_,tracked ⟨oc,hoc,I.gh x c hc⟩ hs,by simpa using I.len⟩ ⟨c,hs,.inr hc⟩
  ·exact (hs.2 b (aM (bz (aA e) (I.ok.OQ x c hfn hc)))).trans (I.base.keep b o e n hb hx)
  ·obtain ⟨sl,e1⟩:=I.base.slot b o e n hb hx
   exact ⟨sl,(hs.2 b (aM (bz (aA e) (I.ok.OQ x c hfn hc)))).trans e1⟩
  ·obtain ⟨o',e1⟩:=I.base.there b o e hx
   exact ⟨o',(hs.2 b (aM (bz (aA e) (I.ok.OQ x c hfn hc)))).trans e1⟩
  ·by_cases hj:j=i
   ·subst hj
    rw [hi] at e1; cases e1
    rw [sE Tr] at e2
    cases e2
    exact ⟨u,r,.inr ⟨.inl hk,c,hc,hc'⟩⟩
   ·rw [List.getElem?_set_ne (aV hj)] at e2
    obtain ⟨u',r',q⟩:=hl j y v' e1 e2 e3
    refine ⟨u',r',?_⟩
    rcases q with q | ⟨k,c',e,z'⟩
    ·exact .inl q
    ·refine .inr ⟨k,c',e,z'.sameBut hs ?_⟩
     rintro rfl
     exact hj (o7 hN e1 (I.ok.inj _ _ _ e hc ▸ hi))
  ·by_cases hcc:c'=c
   ·subst hcc; exact ⟨_,hc'⟩
   ·obtain ⟨w2,z2⟩:=I.cell y c' e
    exact ⟨w2,z2.sameBut hs hcc⟩
  ·obtain ⟨e,n,ne,nf,d⟩:=I.pin p hp
   refine ⟨(hs.2 p.1 ?_).trans e,n,ne,nf,d⟩
   intro q
   rw [q,hoc] at e
   have q':oc=p.2:=Option.some.inj e
   exact d w' (by rw [<- q']; exact U6)
theorem iu{Q:Unit->Shared->Prop}(I:Inv X pins σ H s)(hN:X.N.Nodup)(hi:X.N[i]? = some x)(hx:Loc X.env.scope x)(r:RelV v u)
  (h:∀ s',Inv X pins (σ.set i (some v)) H s'->Q () s')(hf:X.fn x=true \/ X.env.scope.names.lookup x=some .local:=by first | exact .inl rfl | exact .inr rfl | assumption):wpAny M A (storeName X.env x u) Q E s :=
 mh I hN hi hx r (λ s' I' _=>h s' I') hf
theorem Inv.zp{s':Shared}(I:Inv X pins σ H s)(ho:s'.os=s.os)(u:Un (frs X.stack) ch H H' s.heap s'.heap)(hok:j3 X.prog X.w H' s'.heap)(hg:AllBare s'.gens)
  (hch:∀ b∈ch,(b∈X.ex \/ X.s₀.heap.objs.size <= b) /\ b ≠ X.env.locals /\ (∀ x c,X.env.cells.lookup x=some c->c ≠ b) /\ ∀ p∈X.pn++pins,p.1 ≠ b):Inv X pins σ H' s':=by
 obtain ⟨h',g',d',t',o'⟩:=s'
 have e:o'=s.os:=ho
 subst e
 exact I.call (g':=g') (t':=t') (d':=d') u hok hg hch
end
abbrev XK:=Value->Option Addr->Hp->Prop
abbrev St:=List (Option V)
abbrev VK:=V->Hp->Prop
abbrev TE:=St->Hp->VK->Prop
abbrev TT:=St->Hp->(Bool->Hp->Prop)->Prop
abbrev TA:=St->Hp->(List V->Hp->Prop)->Prop
structure Ends where
 nx:St->Hp->Prop
 rt:VK
 bk:St->Hp->Prop:=λ _ _=>False
 ct:St->Hp->Prop:=λ _ _=>False
abbrev TS:=Ends->St->Hp->Prop
def EP(X:Cx)(pins:List (Addr × Obj))(σ:St)(Q:VK)(u:Value)(s':Shared):Prop:=∃ v H',Inv X pins σ H' s' /\ RelV v u /\ Q v H'
def TP(X:Cx)(pins:List (Addr × Obj))(σ:St)(Q:Bool->Hp->Prop)(b:Bool)(s':Shared):Prop:=∃ H',Inv X pins σ H' s' /\ Q b H'
def AP(X:Cx)(pins:List (Addr × Obj))(σ:St)(Q:List V->Hp->Prop)(us:List Value)(s':Shared):Prop:=∃ vs H',Inv X pins σ H' s' /\ Vals vs us /\ Q vs H'
def SP(X:Cx)(pins:List (Addr × Obj))(D:Ends)(f:Flow)(s':Shared):Prop :=
 match f with
 | .next=>∃ σ' H',Inv X pins σ' H' s' /\ D.nx σ' H'
 | .brk=>∃ σ' H',Inv X pins σ' H' s' /\ D.bk σ' H'
 | .cont=>∃ σ' H',Inv X pins σ' H' s' /\ D.ct σ' H'
 | .ret u=>∃ v σ' H',Inv X pins σ' H' s' /\ RelV v u /\ D.rt v H'
def PE(X:Cx)(e:Expr)(t:TE):Prop :=
 ∀ (pins:List (Addr × Obj)) (s:Shared) (σ:St) (H:Hp) (Q:VK),Inv X pins σ H s->t σ H Q->wpAny (model X.prog X.w) X.A (eval e X.env) (EP X pins σ Q) X.xe s
def PT(X:Cx)(e:Expr)(t:TT):Prop :=
 ∀ (pins:List (Addr × Obj)) (s:Shared) (σ:St) (H:Hp) (Q:Bool->Hp->Prop),Inv X pins σ H s->t σ H Q->wpAny (model X.prog X.w) X.A (isTrue e X.env (eval e X.env)) (TP X pins σ Q) X.xe s
def PW(X:Cx)(e:Expr)(t:TT):Prop :=
 ∀ (whole:Sem Value) (pins:List (Addr × Obj)) (s:Shared) (σ:St) (H:Hp) (Q:Bool->Hp->Prop),Inv X pins σ H s->t σ H Q->wpAny (model X.prog X.w) X.A (isTrue e X.env whole) (TP X pins σ Q) X.xe s
theorem PW.pt{t:TT}(h:PW X e t):PT X e t:=h _
def PA(X:Cx)(es:List Expr)(t:TA):Prop :=
 ∀ (pos:Pos) (pins:List (Addr × Obj)) (s:Shared) (σ:St) (H:Hp) (Q:List V->Hp->Prop),Inv X pins σ H s->t σ H Q->wpAny (model X.prog X.w) X.A (spliced (backTo pos (starEach es X.env))) (AP X pins σ Q) X.xe s
def PS(X:Cx)(st:Stmt)(t:TS):Prop :=
 ∀ (pins:List (Addr × Obj)) (s:Shared) (σ:St) (H:Hp) (D:Ends),Inv X pins σ H s->t D σ H->wpAny (model X.prog X.w) X.A (exec st X.env) (SP X pins D) X.xe s
def nE(X:Cx)(st:List Stmt)(t:TS):Prop :=
 ∀ (pins:List (Addr × Obj)) (s:Shared) (σ:St) (H:Hp) (D:Ends),Inv X pins σ H s->t D σ H->wpAny (model X.prog X.w) X.A (execs st X.env) (SP X pins D) X.xe s
theorem bV{α:Type}{t:Sem α}{Q Q':α->Shared->Prop}(h:wpAny M A t Q E s)(hQ:∀ a s,Q a s->Q' a s):wpAny M A t Q' E s:=wpAny_mono h hQ λ _ _ x=>x
section
variable {X:Cx}
theorem bin{a b:Expr}{ta tb:TE}(ha:PE X a ta)(hb:PE X b tb){σ:St}{R:V->V->Hp->Prop}(I:Inv X pins σ H s)(h:ta σ H λ x H1=>tb σ H1 λ y H2=>R x y H2)
  {α:Type}{Q:α->Shared->Prop}{f:Value->Value->Sem α}
  (hf:∀ v u s2 x y H2,Inv X pins σ H2 s2->RelV x v->RelV y u->R x y H2->wpAny (model X.prog X.w) X.A (f v u) Q X.xe s2):
  wpAny (model X.prog X.w) X.A (eval a X.env) (λ v s₁=>wpAny (model X.prog X.w) X.A (eval b X.env) (λ u s₂=>wpAny (model X.prog X.w) X.A (f v u) Q X.xe s₂) X.xe s₁) X.xe s:=by
 refine bV (ha pins s σ H _ I h) λ v s1 ⟨x,H1,I1,r1,q1⟩=>?_
 refine bV (hb pins s1 σ H1 _ I1 q1) λ u s2 ⟨y,H2,I2,r2,q2⟩=>?_
 exact hf v u s2 x y H2 I2 r1 r2 q2
def j4(i:Nat):TE:=λ σ H Q=>∃ v,σ[i]? = some (some v) /\ Q v H
def tC(v:V):TE:=λ _ H Q=>Q v H
theorem Lf(hN:X.N[i]? = some x)(hv:Tp X.env.scope x)(hd:(x == ("__debug__" : Str))=false:=by decide)(hcd:(x == ("__classdict__" : Str))=false:=by decide):PE X (.Name x pos) (j4 i):=by
 intro pins s σ H Q I h
 obtain ⟨v,e,h⟩:=h
 obtain ⟨m,hn,hl⟩:=I.loc
 obtain ⟨u,r,l⟩:=hl i x v hN e hv
 have fin:EP X pins σ Q u s:=⟨v,H,I,r,h⟩
 rcases l with ⟨hk,hm⟩ | ⟨hk,c,hc,hcell⟩
 ·exact wpAny_Name (wpAny_loadName_local I.ok.kind hk hn hm fin) hd
 ·rcases hk with hk | hk
  ·exact wpAny_Name (wpAny_loadName_cell I.ok.kind hk hc hcell fin) hd
  ·exact wpAny_Name (wpAny_loadName_free I.ok.kind hk hc hcell fin hcd) hd
theorem ao{i j pos}:PE X (.Constant (.int i) j pos) (tC (.int i)):=λ _ _ _ H _ I h=>wpAny_Constant_int ⟨.int i,H,I.tok _,⟨_,rfl⟩,h⟩
theorem qV{b j pos}:PE X (.Constant (.bool b) j pos) (tC (.bl b)):=λ _ _ _ H _ I h=>Constant_bool ⟨.bl b,H,I,rfl,h⟩
theorem jn{j pos}:PE X (.Constant .none j pos) (tC .bZ):=λ _ _ _ H _ I h=>Constant_none ⟨.bZ,H,I,rfl,h⟩
theorem cP{x j pos}:PE X (.Constant (.str x) j pos) (tC (.str x)):=λ _ _ _ H _ I h=>Calls.Constant_str ⟨.str x,H,I.tok _,⟨_,rfl⟩,h⟩
def Gl(X:Cx)(x:Str):Prop:=X.env.kindOf x=some .globalImplicit
theorem jK{σ:St}(I:Inv X pins σ H s)(hg:Gl X x)(hm:X.mg x=some u)(h:Q u s)
  (hd:(x == ("__debug__" : Str))=false:=by decide):wpAny (model X.prog X.w) X.A (eval (.Name x pos) X.env) Q E s :=
 Calls.Name_function_global I.ok.kind hg (Calls.loadGlobal_global (by rw [I.ok.glob]; exact I.mod.glob.keeps I.bk) hm h) hd
theorem kC{σ:St}(I:Inv X pins σ H s)(hg:Gl X x)(hm:X.mg x=none)(hv:bootBuiltins x=some u)(h:Q u s)
  (hn:x ≠ "__name__" := by decide)(hd:(x == ("__debug__" : Str))=false:=by decide):wpAny (model X.prog X.w) X.A (eval (.Name x pos) X.env) Q E s:=by
 obtain ⟨mb,h1,h2⟩:=I.mod.blt
 exact Calls.Name_function_global I.ok.kind hg (Calls.loadGlobal_builtin (by rw [I.ok.glob]; exact I.mod.glob.keeps I.bk) hm (by rw [I.ok.blt]; exact h1.keeps I.bk) ((h2 x hn).trans hv) h) hd
theorem eG(hg:Gl X x)(hm:X.mg x=some u)(r:RelV v u)(hd:(x == ("__debug__" : Str))=false:=by decide):PE X (.Name x pos) (tC v) :=
 λ _ _ _ H _ I h=>jK I hg hm ⟨v,H,I,r,h⟩ hd
theorem sH{u:Value}(hg:Gl X x)(hm:X.mg x=none)(hv:bootBuiltins x=some u)(r:RelV v u)(hn:x ≠ "__name__" := by decide)(hd:(x == ("__debug__" : Str))=false:=by decide):PE X (.Name x pos) (tC v) :=
 λ _ _ _ H _ I h=>kC I hg hm hv ⟨v,H,I,r,h⟩ hn hd
variable {a b:Expr}{ta tb:TE}{pos:Pos}
def PC(X:Cx)(op:CmpOp)(a b:Expr)(t:TE):Prop :=
 ∀ (pins:List (Addr × Obj)) (s:Shared) (σ:St) (H:Hp) (Q:VK),Inv X pins σ H s->t σ H Q ->
  wpAny (model X.prog X.w) X.A (eval a X.env) (λ v s₁=>wpAny (model X.prog X.w) X.A (eval b X.env) (λ u s₂=>wpAny (model X.prog X.w) X.A (compareOp op v u) (EP X pins σ Q) X.xe s₂) X.xe s₁) X.xe s
theorem CM(b:Expr)(h:op ≠ .In)(h2:op ≠ .NotIn):behindInMarks op b=false:=by
 have e1:(op == CmpOp.In)=false:=by cases op <;> first | rfl | exact absurd rfl h
 have e2:(op == CmpOp.NotIn)=false:=by cases op <;> first | rfl | exact absurd rfl h2
 cases b <;> simp [behindInMarks,e1,e2]
def tB(t:TE):TT:=λ σ H Q=>t σ H λ x H1=>∃ c,x=.bl c /\ Q c H1
theorem Lg(h:PC X op a b t)(h1:behindInMarks op b=false:=by first | exact CM _ (by decide) (by decide) | rfl):PT X (.Compare a [op] [b] pos) (tB t):=by
 intro pins s σ H Q I hw
 refine wpAny_isTrue_Compare1 (bV (h pins s σ H _ I hw) λ v s1 h1=>bV h1 λ u s2 h2=>bV h2 λ c s3 ⟨x,H1,I1,r1,q1⟩=>?_) h1
 obtain ⟨d,rfl,q⟩:=q1
 cases r1
 exact wpAny_truthy_bool ⟨H1,I1,q⟩
theorem jo(h:PE X e t)(he:∀ whole,isTrue e X.env whole=(do let v <- whole; standAt e.pos; holding [v] (truthy v)):=by intro _; rfl):PT X e (tB t):=by
 intro pins s σ H Q I hw
 refine isTrue_plain (bV (h pins s σ H _ I hw) λ v s1 ⟨x,H1,I1,r1,q1⟩=>?_) (he _)
 obtain ⟨d,rfl,q⟩:=q1
 cases r1
 exact wpAny_truthy_bool ⟨H1,I1,q⟩
variable {tA Tt:TT}{rest:List Expr}
def Pb(t u:TT):TT:=λ σ H Q=>t σ H λ c H1=>if c=true then u σ H1 Q else Q false H1
def XX(t u:TT):TT:=λ σ H Q=>t σ H λ c H1=>if c=true then Q true H1 else u σ H1 Q
def Pc(t:TT):TT:=λ σ H Q=>t σ H λ c H1=>Q (!c) H1
theorem jL(ha:PT X a tA):PW X (.BoolOp .And [a] pos) tA:=by
 intro wh pins s σ H Q I h
 refine isTrue_and (bV (ha pins s σ H Q I h) λ c s1 e=>?_)
 cases c with
 | true=>exact isTrue_and_nil e
 | false=>exact e
theorem mq(ha:PT X a tA):PW X (.BoolOp .Or [a] pos) tA:=by
 intro wh pins s σ H Q I h
 refine isTrue_or (bV (ha pins s σ H Q I h) λ c s1 e=>?_)
 cases c with
 | false=>exact isTrue_or_nil e
 | true=>exact e
theorem mw(ha:PT X a tA)(hb:PW X (.BoolOp .And (b :: rest) pos) Tt):PW X (.BoolOp .And (a :: b :: rest) pos) (Pb tA Tt):=by
 intro wh pins s σ H Q I h
 refine isTrue_and (bV (ha pins s σ H _ I h) λ c s1 ⟨H1,I1,q1⟩=>?_)
 cases c with
 | true=>exact hb wh pins s1 σ H1 Q I1 q1
 | false=>exact ⟨H1,I1,q1⟩
theorem nc(ha:PT X a tA)(hb:PW X (.BoolOp .Or (b :: rest) pos) Tt):PW X (.BoolOp .Or (a :: b :: rest) pos) (XX tA Tt):=by
 intro wh pins s σ H Q I h
 refine isTrue_or (bV (ha pins s σ H _ I h) λ c s1 ⟨H1,I1,q1⟩=>?_)
 cases c with
 | true=>exact ⟨H1,I1,q1⟩
 | false=>exact hb wh pins s1 σ H1 Q I1 q1
theorem jq(ha:PT X a tA):PT X (.UnaryOp .Not a pos) (Pc tA):=by
 intro pins s σ H Q I h
 exact isTrue_not (ha pins s σ H (λ c H1=>Q (!c) H1) I h)
def Jz(ta tb:TE):TE:=λ σ H Q=>ta σ H λ x H1=>∃ c,x=.bl c /\ if c=true then tb σ H1 Q else Q (.bl false) H1
def Pd(ta tb:TE):TE:=λ σ H Q=>ta σ H λ x H1=>∃ c,x=.bl c /\ if c=true then Q (.bl true) H1 else tb σ H1 Q
def JA(ta:TE):TE:=λ σ H Q=>ta σ H λ x H1=>∃ c,x=.bl c /\ Q (.bl (!c)) H1
theorem o8{op}(h:PE X a t):PE X (.BoolOp op [a] pos) t:=λ pins s σ H Q I hw=>BoolOp_one (h pins s σ H Q I hw)
theorem sI(ha:PE X a ta)(hb:PE X (.BoolOp .And (b :: rest) pos) tb):PE X (.BoolOp .And (a :: b :: rest) pos) (Jz ta tb):=by
 intro pins s σ H Q I h
 refine BoolOp_and (bV (ha pins s σ H _ I h) λ v s1 ⟨x,H1,I1,r1,q1⟩=>?_)
 obtain ⟨c,rfl,q1⟩:=q1
 cases r1
 refine wpAny_truthy_bool ?_
 cases c with
 | true=>exact hb pins s1 σ H1 Q I1 q1
 | false=>exact ⟨.bl false,H1,I1,rfl,q1⟩
theorem Pe(ha:PE X a ta)(hb:PE X (.BoolOp .Or (b :: rest) pos) tb):PE X (.BoolOp .Or (a :: b :: rest) pos) (Pd ta tb):=by
 intro pins s σ H Q I h
 refine BoolOp_or (bV (ha pins s σ H _ I h) λ v s1 ⟨x,H1,I1,r1,q1⟩=>?_)
 obtain ⟨c,rfl,q1⟩:=q1
 cases r1
 refine wpAny_truthy_bool ?_
 cases c with
 | false=>exact hb pins s1 σ H1 Q I1 q1
 | true=>exact ⟨.bl true,H1,I1,rfl,q1⟩
theorem Lh(ha:PE X a ta):PE X (.UnaryOp .Not a pos) (JA ta):=by
 intro pins s σ H Q I h
 refine UnaryOp_ (bV (ha pins s σ H _ I h) λ v s1 ⟨x,H1,I1,r1,q1⟩=>?_)
 obtain ⟨c,rfl,q1⟩:=q1
 cases r1
 exact not_of (wpAny_truthy_bool ⟨.bl (!c),H1,I1,rfl,q1⟩)
def XY(t:TT)(ta tb:TE):TE:=λ σ H Q=>t σ H λ c H1=>if c=true then ta σ H1 Q else tb σ H1 Q
theorem fE(hc:PT X c tA)(ha:PE X a ta)(hb:PE X b tb):PE X (.IfExp c a b pos) (XY tA ta tb):=by
 intro pins s σ H Q I h
 refine wpAny_IfExp (bV (hc pins s σ H _ I h) λ d s1 ⟨H1,I1,q1⟩=>?_)
 cases d with
 | true=>exact ha pins s1 σ H1 Q I1 q1
 | false=>exact hb pins s1 σ H1 Q I1 q1
end
def bK(K:az)(H:Hp)(a:Addr)(xs:List V):Prop :=
 Rd H a (.lst xs) \/
  ∃ (o:Obj) (its:Array Value) (n:Nat),K.lookup a=some o /\ o.cls=.type "list" /\ o.dict=none /\ o.data=.seq its n /\ its.size <= sizeLine /\ Vals xs its.toList
def fF(K:az)(H:Hp)(a:Addr)(xs:List V):Prop :=
 Rd H a (.tup xs) \/
  ∃ (o:Obj) (its:Array Value) (n:Nat),K.lookup a=some o /\ o.cls=.type "tuple" /\ o.data=.seq its n /\ its.size <= sizeLine /\ Vals xs its.toList
def U7:Value->Option V
 | .none=>some .bZ
 | .bool b=>some (.bl b)
 | .int i _=>some (.int i)
 | .str x _=>some (.str x)
 | .bytes b _=>some (.CB b)
 | .float b _=>some (.Lb b)
 | .ref a=>some (.ref a)
 | .type n=>some (.ty n)
 | _=>none
theorem RelV.abs{x:V}(r:RelV x u):U7 u=some x:=by
 cases x with
 | bZ=>cases r; rfl
 | bl _=>cases r; rfl
 | int _=>obtain ⟨t,rfl⟩:=r; rfl
 | str _=>obtain ⟨t,rfl⟩:=r; rfl
 | CB _=>obtain ⟨t,rfl⟩:=r; rfl
 | Lb _=>obtain ⟨t,rfl⟩:=r; rfl
 | ref _=>cases r; rfl
 | ty _=>cases r; rfl
theorem RelV.inj{x y:V}(r:RelV x u)(q:RelV y u):x=y:=Option.some.inj (r.abs.symm.trans q.abs)
theorem Vals.inj:∀ {xs ys:List V} {us:List Value},Vals xs us->Vals ys us->xs=ys
 | _,_,_,.nil,.nil=>rfl
 | _,_,_,.cons r t,.cons r' t'=>by rw [r.inj r',Vals.inj t t']
section
variable {X:Cx}{pins:List (Addr × Obj)}{σ:St}{H:Hp}{s:Shared}{a:Addr}{xs ys:List V}
theorem bK.of(h:H a=some (.lst xs)):bK K H a xs:=.inl (.inl h)
theorem fF.of(h:H a=some (.tup xs)):fF K H a xs:=.inl (.inl h)
theorem Inv.list(I:Inv X pins σ H s)(h:bK X.K H a xs):∃ its:List Value,Vals xs its /\ PlainL s.heap a its.toArray /\ xs.length <= sizeLine:=by
 rcases h with h | ⟨o,its,n,hk,hc,hd,hs,hz,r⟩
 ·obtain ⟨z,its,n,r,e⟩:=h.ok I.hok
  exact ⟨its,r,⟨_,n,e,rfl,rfl,rfl⟩,z⟩
 ·refine ⟨its.toList,r,⟨o,n,I.jc a o hk,hc,hd,by simpa using hs⟩,?_⟩
  have e:=r.length
  simp only [cg] at e
  omega
theorem Inv.tuple(I:Inv X pins σ H s)(h:fF X.K H a xs):∃ its:List Value,Vals xs its /\ IsTup s.heap a its.toArray /\ xs.length <= sizeLine:=by
 rcases h with h | ⟨o,its,n,hk,hc,hs,hz,r⟩
 ·obtain ⟨z,its,r,p⟩:=h.ok I.hok
  exact ⟨its,r,p,z⟩
 ·refine ⟨its.toList,r,⟨o,I.jc a o hk,hc,n,by simpa using hs⟩,?_⟩
  have e:=r.length
  simp only [cg] at e
  omega
theorem Inv.CN(I:Inv X pins σ H s)(h:bK X.K H a xs)(h':bK X.K H a ys):xs=ys:=by
 obtain ⟨its,r,⟨o,n,e,_,_,d⟩,_⟩:=I.list h
 obtain ⟨its',r',⟨o',n',e',_,_,d'⟩,_⟩:=I.list h'
 rw [e] at e'; cases e'
 rw [d] at d'
 injection d' with d1 _
 have:its=its':=by simpa using congrArg Array.toList d1
 subst this
 exact r.inj r'
theorem Inv.AR(I:Inv X pins σ H s)(h:fF X.K H a xs)(h':fF X.K H a ys):xs=ys:=by
 obtain ⟨its,r,⟨o,e,_,n,d⟩,_⟩:=I.tuple h
 obtain ⟨its',r',⟨o',e',_,n',d'⟩,_⟩:=I.tuple h'
 rw [e] at e'; cases e'
 rw [d] at d'
 injection d' with d1 _
 have:its=its':=by simpa using congrArg Array.toList d1
 subst this
 exact r.inj r'
end
abbrev Cx.kL(X:Cx)(E:Value->Shared->Prop):Cx:={ X with xe:=E }
abbrev Cx.AS(X:Cx):Cx:=X.kL λ _ _=>False
theorem Cx.Ok.kL(ok:X.Ok)(E:Value->Shared->Prop):(X.kL E).Ok :=
 ⟨ok.mod,ok.kind,ok.glob,ok.blt,ok.above,ok.inj,ok.has,ok.OQ,ok.hd,ok.frames,ok.stk,ok.U4,ok.bs,ok.CC,ok.xD,ok.xE,ok.kB,ok.Gf⟩
theorem Cx.Ok.gj(ok:(X.kL E).Ok):X.Ok :=
 ⟨ok.mod,ok.kind,ok.glob,ok.blt,ok.above,ok.inj,ok.has,ok.OQ,ok.hd,ok.frames,ok.stk,ok.U4,ok.bs,ok.CC,ok.xD,ok.xE,ok.kB,ok.Gf⟩
section
variable {X:Cx}{pins:List (Addr × Obj)}{σ:St}{H:Hp}{s:Shared}{E:Value->Shared->Prop}
theorem Inv.kL(I:Inv X pins σ H s)(E:Value->Shared->Prop):Inv (X.kL E) pins σ H s:=⟨I.ok.kL E,I.os,I.bare,I.base,I.loc,I.cell,I.free,I.gh,I.pin,I.hok,I.len⟩
theorem Inv.gj(I:Inv (X.kL E) pins σ H s):Inv X pins σ H s:=⟨I.ok.gj,I.os,I.bare,I.base,I.loc,I.cell,I.free,I.gh,I.pin,I.hok,I.len⟩
theorem SP.gj{f:Flow}{s':Shared}(h:SP (X.kL E) pins D f s'):SP X pins D f s':=by
 cases f with
 | next=>obtain ⟨σ',H',I,q⟩:=h; exact ⟨σ',H',I.gj,q⟩
 | brk=>obtain ⟨σ',H',I,q⟩:=h; exact ⟨σ',H',I.gj,q⟩
 | cont=>obtain ⟨σ',H',I,q⟩:=h; exact ⟨σ',H',I.gj,q⟩
 | ret u=>obtain ⟨v,σ',H',I,r,q⟩:=h; exact ⟨v,σ',H',I.gj,r,q⟩
theorem PE.AS(h:PE X.AS e t):PE X e t:=λ pins s σ H Q I hw =>
 wpAny_mono (h pins s σ H Q (I.kL _) hw) (λ _ _ ⟨v,H',I',r,q⟩=>⟨v,H',I'.gj,r,q⟩) λ _ _ z=>False.elim z
theorem PT.AS{t:TT}(h:PT X.AS e t):PT X e t:=λ pins s σ H Q I hw =>
 wpAny_mono (h pins s σ H Q (I.kL _) hw) (λ _ _ ⟨H',I',q⟩=>⟨H',I'.gj,q⟩) λ _ _ z=>False.elim z
theorem nE.AS{st:List Stmt}{t:TS}(h:nE X.AS st t):nE X st t:=λ pins s σ H D I hw =>
 wpAny_mono (h pins s σ H D (I.kL _) hw) (λ _ _ q=>q.gj) λ _ _ z=>False.elim z
end
section
variable {X:Cx}{st:Stmt}{rest:List Stmt}{t u:TS}{e:Expr}{te:TE}{pos:Pos}
def JB:TS:=λ D σ H=>D.nx σ H
def Li(t u:TS):TS:=λ D σ H=>t { D with nx:=u D } σ H
theorem bC:nE X [] JB:=λ _ _ σ H _ I h=>wpAny_execs_nil ⟨σ,H,I,h⟩
theorem ak(h1:PS X st t)(h2:nE X rest u):nE X (st :: rest) (Li t u):=by
 intro pins s σ H D I h
 refine wpAny_execs_cons (bV (h1 pins s σ H { D with nx:=u D } I h) λ f s1 q=>?_)
 cases f with
 | next =>
  obtain ⟨σ',H',I',q⟩:=q
  exact h2 pins s1 σ' H' D I' q
 | ret v=>exact q
 | brk=>exact q
 | cont=>exact q
theorem av(h1:PS X st t):nE X [st] t:=by
 intro pins s σ H D I h
 refine wpAny_execs_cons (bV (h1 pins s σ H D I h) λ f s1 q=>?_)
 cases f with
 | next=>exact wpAny_execs_nil q
 | ret v=>exact q
 | brk=>exact q
 | cont=>exact q
theorem Inv.quiet{σ:St}(I:Inv X pins σ H s):interactive X.env=false:=by simp [interactive,I.ok.kind]
def JC(te:TE):TS:=λ D σ H=>te σ H λ _ H1=>D.nx σ H1
theorem fS(he:PE X e te)(hs:swapsWith e none pos.line X.env=pure false:=by rfl):PS X (.Expr e pos) (JC te):=by
 intro pins s σ H D I h
 exact wpAny_Expr_any (bV (he pins s σ H _ I h) λ v s1 ⟨x,H1,I1,r1,q1⟩=>⟨σ,H1,I1,q1⟩) I.quiet hs
def Pf(te:TE):TS:=λ D σ H=>te σ H D.rt
theorem aN(he:PE X e te):PS X (.Return (some e) pos) (Pf te):=by
 intro pins s σ H D I h
 exact wpAny_Return_some (bV (he pins s σ H _ I h) λ v s1 ⟨x,H1,I1,r1,q1⟩=>⟨x,σ,H1,I1,r1,q1⟩)
def Pg(c:TT)(t u:TS):TS:=λ D σ H=>c σ H λ b H1=>if b=true then t D σ H1 else u D σ H1
theorem cS{a b:List Stmt}{tc:TT}(hc:PT X c tc)(ha:nE X a t)(hb:nE X b u):PS X (.If c a b pos) (Pg tc t u):=by
 intro pins s σ H D I h
 refine wpAny_If (bV (hc pins s σ H _ I h) λ d s1 ⟨H1,I1,q1⟩=>?_)
 cases d with
 | true=>exact ha pins s1 σ H1 D I1 q1
 | false=>exact hb pins s1 σ H1 D I1 q1
def Lj:TS:=λ _ _ _=>False
theorem CO:PS X st Lj:=λ _ _ _ _ _ _ h=>h.elim
end
abbrev TG:=V->St->Hp->(St->Hp->Prop)->Prop
abbrev AU:=List V->St->Hp->(St->Hp->Prop)->Prop
def PG(X:Cx)(target:Expr)(t:TG):Prop :=
 ∀ (pins:List (Addr × Obj)) (s:Shared) (σ:St) (H:Hp) (v:V) (u:Value) (Q:St->Hp->Prop),Inv X pins σ H s->RelV v u->t v σ H Q ->
  wpAny (model X.prog X.w) X.A (assign target X.env u) (λ _ s'=>∃ σ' H',Inv X pins σ' H' s' /\ Q σ' H') X.xe s
def OR(X:Cx)(ts:List Expr)(t:AU):Prop :=
 ∀ (pins:List (Addr × Obj)) (s:Shared) (σ:St) (H:Hp) (vs:List V) (us:List Value) (Q:St->Hp->Prop),Inv X pins σ H s->Vals vs us->t vs σ H Q ->
  wpAny (model X.prog X.w) X.A (assignInOrder ((assignEach ts X.env).map (·.2)) us) (λ _ s'=>∃ σ' H',Inv X pins σ' H' s' /\ Q σ' H') X.xe s
abbrev Gx:=V->V->V->Hp->(Hp->Prop)->Prop
def Ph(X:Cx)(t:Gx):Prop :=
 ∀ (pins:List (Addr × Obj)) (s:Shared) (σ:St) (H:Hp) (o i v:V) (ov iv u:Value) (Q:Hp->Prop),Inv X pins σ H s->RelV o ov->RelV i iv->RelV v u->t o i v H Q ->
  wpAny (model X.prog X.w) X.A (setItem ov iv u) (λ _ s'=>∃ H',Inv X pins σ H' s' /\ Q H') X.xe s
abbrev Pj:=V->V->Hp->VK->Prop
def XZ(X:Cx)(op:Operator)(t:Pj):Prop :=
 ∀ (pins:List (Addr × Obj)) (s:Shared) (σ:St) (H:Hp) (x y:V) (v u:Value) (Q:VK),Inv X pins σ H s->RelV x v->RelV y u->t x y H Q ->
  wpAny (model X.prog X.w) X.A (inplaceOp op v u) (EP X pins σ Q) X.xe s
section
variable {X:Cx}{pos:Pos}
def fG(i:Nat):TG:=λ v σ H Q=>Q (σ.set i (some v)) H
theorem bu(hN:X.N.Nodup)(hi:X.N[i]? = some x)(hx:Loc X.env.scope x)(hf:X.fn x=true \/ X.env.scope.names.lookup x=some .local:=by first | exact .inl rfl | exact .inr rfl | assumption):PG X (.Name x pos) (fG i):=by
 intro pins s σ H v u Q I r h
 exact wpAny_assign_Name (iu I hN hi hx r (λ s' I'=>⟨_,H,I',h⟩) hf)
def Pk:AU:=λ vs σ H Q=>vs=[] /\ Q σ H
def JD(t:TG)(u:AU):AU:=λ vs σ H Q=>∃ v r,vs=v :: r /\ t v σ H λ σ' H'=>u r σ' H' Q
theorem gG:OR X [] Pk:=by
 intro pins s σ H vs us Q I r h
 obtain ⟨e,h⟩:=h
 subst e
 cases r
 exact assignInOrder_nil ⟨σ,H,I,h⟩
theorem bU{es:List Expr}{t:TG}{u:AU}(h1:PG X e t)(h2:OR X es u)
  (hs:(assignEach (e :: es) X.env).map (·.2)=assign e X.env :: (assignEach es X.env).map (·.2):=by rfl):OR X (e :: es) (JD t u):=by
 intro pins s σ H vs us Q I r h
 obtain ⟨v,vr,e1,h⟩:=h
 subst e1
 cases r with
 | cons r rr =>
  rw [hs]
  refine assignInOrder_cons (bV (h1 pins s σ H _ _ _ I r h) λ _ s1 ⟨σ1,H1,I1,q1⟩=>?_)
  exact h2 pins s1 σ1 H1 _ _ Q I1 rr q1
def Lk(K:az)(n:Nat)(t:AU):TG:=λ v σ H Q=>∃ a xs,v=.ref a /\ fF K H a xs /\ xs.length=n /\ t xs σ H Q
theorem o9{es:List Expr}{t:AU}(hc:X.calm=true)(h:OR X es t)
  (hn:(assignEach es X.env).length=n:=by rfl)(hst:(assignEach es X.env).findIdx? (·.1)=none:=by rfl):PG X (.Tuple es k pos) (Lk X.K n t):=by
 intro pins s σ H v u Q I r hw
 obtain ⟨a,xs,e1,hq,hl,hw⟩:=hw
 subst e1
 cases r
 obtain ⟨its,rv,ht,hz⟩:=I.tuple hq
 refine assign_Tuple_tuple (I.ok.hd hc) ht (by simp [hn,<- hl,rv.length]) hst λ h' hx=>?_
 have I1:Inv X pins σ H { s with heap:=h' }:=I.kept (t':=s.toks) λ b o e=>hx b o (aM (aA e)) e
 exact h pins _ σ H xs _ Q I1 (by simpa using rv) hw
def Pn(to ti:TE)(t:Gx):TG:=λ v σ H Q=>to σ H λ o H1=>ti σ H1 λ i H2=>t o i v H2 λ H3=>Q σ H3
theorem Ll{o i:Expr}{to ti:TE}{t:Gx}(ho:PE X o to)(hi:PE X i ti)(hs:Ph X t)
  (ha:∀ v,assign (.Subscript o i pos) X.env v=(do
   let ov <- holding [v] (eval o X.env)
   let iv <- holding [v,ov] (eval i X.env)
   standAt pos
   holding [v,ov,iv] (setItem ov iv v)
   release [v,ov,iv] []):=by intro _; rfl):PG X (.Subscript o i pos) (Pn to ti t):=by
 intro pins s σ H v u Q I r h
 rw [ha]
 refine af (wpAny_holding (bV (ho pins s σ H _ I h) λ ov s1 ⟨x,H1,I1,r1,q1⟩=>?_))
 refine af (wpAny_holding (bV (hi pins s1 σ H1 _ I1 q1) λ iv s2 ⟨y,H2,I2,r2,q2⟩=>?_))
 refine af (wpAny_standAt (af (wpAny_holding (bV (hs pins s2 σ H2 x y v ov iv u _ I2 r1 r2 r q2) λ _ s3 ⟨H3,I3,q3⟩=>?_))))
 exact wpAny_release ⟨σ,H3,I3,q3⟩
def Lm(te:TE)(g:TG):TS:=λ D σ H=>te σ H λ x H1=>g x σ H1 D.nx
theorem CP(he:PE X e te)(hg:PG X tg g)(hs:swapsWithSole [tg] e pos.line X.env=pure false:=by rfl)(hw:swappedStores [tg] e X.env=pure none:=by rfl)
  (h1:(assignEach [tg] X.env).map (·.2)=[assign tg X.env]:=by rfl):PS X (.Assign [tg] e pos) (Lm te g):=by
 intro pins s σ H D I h
 refine wpAny_Assign_stores (bV (he pins s σ H _ I h) λ v s1 ⟨x,H1,I1,r1,q1⟩=>?_) hs hw
 rw [h1]
 exact bV (hg pins s1 σ H1 x v _ I1 r1 q1) λ _ s2 q=>q
theorem aH{pos':Pos}(hN:X.N.Nodup)(hi:X.N[i]? = some x)(hx:Loc X.env.scope x)(he:PE X e te)(hs:swapsWith e (some (.Name x pos')) pos.line X.env=pure false:=by rfl)(hf:X.fn x=true \/ X.env.scope.names.lookup x=some .local:=by first | exact .inl rfl | exact .inr rfl | assumption):
  PS X (.Assign [.Name x pos'] e pos) (Lm te (fG i)):=by
 intro pins s σ H D I h
 refine wpAny_Assign_Name (bV (he pins s σ H _ I h) λ v s1 ⟨y,H1,I1,r1,q1⟩=>?_) hs
 exact iu I1 hN hi hx r1 (λ s2 I2=>⟨_,H1,I2,q1⟩) hf
def Po(i:Nat)(te:TE)(ti:Pj):TS:=λ D σ H=>∃ x,σ[i]? = some (some x) /\ te σ H λ y H1=>ti x y H1 λ z H2=>D.nx (σ.set i (some z)) H2
theorem Ln{op:Operator}{ti:Pj}{pos':Pos}(hN:X.N.Nodup)(hi:X.N[i]? = some x)(hx:Loc X.env.scope x)(he:PE X e te)(ho:XZ X op ti)(hf:X.fn x=true \/ X.env.scope.names.lookup x=some .local:=by first | exact .inl rfl | exact .inr rfl | assumption):
  PS X (.AugAssign (.Name x pos') op e pos) (Po i te ti):=by
 intro pins s σ H D I h
 obtain ⟨v,e1,h⟩:=h
 obtain ⟨m,hn,hl⟩:=I.loc
 have Zm:Tp X.env.scope x:=by rcases hx with k | k; exact .inl k; exact .inr (.inl k)
 obtain ⟨u,r,l⟩:=hl i x v hi e1 Zm
 refine wpAny_AugAssign_Name ?_
 have go:wpAny (model X.prog X.w) X.A (eval e X.env) (λ w s₂=>wpAny (model X.prog X.w) X.A (inplaceOp op u w) (λ r s₃=>wpAny (model X.prog X.w) X.A (storeName X.env x r) (λ _=>SP X pins D .next) X.xe s₃) X.xe s₂) X.xe s:=by
  refine bV (he pins s σ H _ I h) λ w s1 ⟨y,H1,I1,r1,q1⟩=>?_
  refine bV (ho pins s1 σ H1 v y u w _ I1 r r1 q1) λ z s2 ⟨zv,H2,I2,r2,q2⟩=>?_
  exact iu I2 hN hi hx r2 (λ s3 I3=>⟨_,H2,I3,q2⟩) hf
 rcases l with ⟨hk,hm⟩ | ⟨hk,c,hc,hcell⟩
 ·exact wpAny_loadName_local I.ok.kind hk hn hm go
 ·rcases hk with hk | hk
  ·exact wpAny_loadName_cell I.ok.kind hk hc hcell go
  ·rcases hx with k | k
   ·have:X.env.scope.names.lookup x=some .free:=hk
    rw [k] at this; cases this
   ·have:X.env.scope.names.lookup x=some .free:=hk
    rw [k] at this; cases this
def X0(f:Int->Int->Int):Pj:=λ x y H Q=>∃ i j,x=.int i /\ y=.int j /\ Q (.int (f i j)) H
theorem Lo:XZ X .Add (X0 λ i j=>i + j):=by
 intro pins s σ H x y v u Q I r1 r2 h
 obtain ⟨i,j,e1,e2,q⟩:=h
 subst e1; subst e2
 obtain ⟨t,rfl⟩:=r1
 obtain ⟨t',rfl⟩:=r2
 exact iadd_int ⟨.int _,H,I.tok _,⟨_,rfl⟩,q⟩
def CQ(c:TT)(tb:TS):TS:=λ D σ H=>∃ W:Nat->St->Hp->Prop,(∃ m,W m σ H) /\ ∀ m σ H,W m σ H ->
 c σ H λ b H1=>if b=true then ∃ N:St->Hp->Prop,(∀ σ' H',N σ' H'->∃ m',m' < m /\ W m' σ' H') /\ tb { D with nx:=N,ct:=N,bk:=D.nx } σ H1 else D.nx σ H1
theorem jr{tc:TT}(hp:PassesOwn (model X.prog X.w) X.A X.env X.xe)(hc:PT X c tc)(hb:nE X body tb):PS X (.While c body [] pos) (CQ tc tb):=by
 intro pins s σ H D I h
 obtain ⟨W,⟨m0,w0⟩,turn⟩:=h
 refine wpAny_While (codeAny_whileLoop (λ n s'=>∃ σ' H',Inv X pins σ' H' s' /\ W n σ' H') ?_ m0 ⟨σ,H,I,w0⟩)
 rintro n s1 ⟨σ1,H1,I1,w1⟩
 refine wpAny_passesOwn hp (bV (hc pins s1 σ1 H1 _ I1 (turn n σ1 H1 w1)) λ b s2 ⟨H2,I2,q2⟩=>?_)
 cases b with
 | true =>
  obtain ⟨N,hN,q2⟩:=q2
  rw [if_pos rfl]
  refine wpAny_passesOwn hp (bV (hb pins s2 σ1 H2 _ I2 q2) λ f s3 q3=>?_)
  cases f with
  | next =>
   obtain ⟨σ3,H3,I3,n3⟩:=q3
   obtain ⟨m',hm,w3⟩:=hN σ3 H3 n3
   exact ⟨m',hm,σ3,H3,I3,w3⟩
  | cont =>
   obtain ⟨σ3,H3,I3,n3⟩:=q3
   obtain ⟨m',hm,w3⟩:=hN σ3 H3 n3
   exact ⟨m',hm,σ3,H3,I3,w3⟩
  | brk=>exact q3
  | ret v=>exact q3
 | false =>
  rw [if_neg j0]
  exact wpAny_execs_nil ⟨σ1,H2,I2,q2⟩
end
structure It where
 go:Nat->Hp->Prop
 CD:Nat->Hp->V->Hp->Prop
 stop:Nat->Hp->Prop
def fT(X:Cx)(pins:List (Addr × Obj))(H:Hp)(b:Addr):Prop :=
 H b=none /\ b ≠ X.env.locals /\ b ∉ X.fs /\ (b∈X.ex \/ X.s₀.heap.objs.size <= b) /\ (∀ x c,X.env.cells.lookup x=some c->c ≠ b) /\ ∀ p∈X.pn++pins,p.1 ≠ b
theorem Inv.mz{σ:St}{H':Hp}{s:Shared}(I:Inv X pins σ H s)(hb:s.heap.objs.size <= b)(hn:H' b=none):fT X pins H' b:=by
 refine ⟨hn,fO (bz I.lt hb),I.Le hb,.inr (bq I.sz hb),λ x c e z=>?_,λ p hp z=>?_⟩
 ·obtain ⟨v,q⟩:=I.cell x c e
  exact absurd (bz q.lt (by rw [z]; exact hb)) (cY _)
 ·exact absurd (bz (aA (I.pin p hp).1) (by rw [z]; exact hb)) (cY _)
structure Turn (P:Program) (w:World) (K:az) (tg:Expr) (J:It) (fp:List Addr) (it:Addr) (tn:Nat->Heap->Prop):Prop where
 mem:it∈fp
 obj:∀ i h,tn i h->∀ b∈fp,∃ o,h.get? b=some o /\ ∀ v,o.data ≠ .cell v
 keep:∀ i h h',tn i h->(∀ b∈fp,∀ o,h.get? b=some o->h'.get? b=some o)->tn i h'
 item:∀ (X:Cx),X.prog=P->X.w=w->X.K=K->X.calm=true->∀ (i:Nat) (pins:List (Addr × Obj)) (s:Shared) (σ:St) (H:Hp) (E:Value->Shared->Prop),Inv X pins σ H s->(∀ b∈fp,fT X pins H b)->tn i s.heap->J.go i H ->
  wpAny (model P w) X.A (pyNext (.ref it)) (λ r s1=>∃ u,r=some u /\
   wpAny (model P w) X.A (letOwnedTupleGo tg (.ref it) u) (λ _ s2=>∃ x H',Inv X pins σ H' s2 /\ RelV x u /\ J.CD i H x H' /\ tn (i + 1) s2.heap /\ ∀ b∈fp,H' b=none) E s1) E s
 done:∀ (X:Cx),X.prog=P->X.w=w->X.K=K->X.calm=true->∀ (i:Nat) (pins:List (Addr × Obj)) (s:Shared) (σ:St) (H:Hp) (E:Value->Shared->Prop),Inv X pins σ H s->(∀ b∈fp,fT X pins H b)->tn i s.heap->J.stop i H ->
  wpAny (model P w) X.A (pyNext (.ref it)) (λ r s1=>r=none /\ Inv X pins σ H s1) E s
 self:∀ (A:Around) (i:Nat) (s:Shared) (Q:Value->Shared->Prop) (E:Value->Shared->Prop),tn i s.heap->Q (.ref it) s->wpAny (model P w) A (pyIter (.ref it)) Q E s
abbrev TI:=St->Hp->(It->Hp->Prop)->Prop
def X3(X:Cx)(pins:List (Addr × Obj))(σ:St)(tg:Expr)(R:It->Hp->Prop)(itv:Value)(s2:Shared):Prop :=
 ∃ (it:Addr) (fp:List Addr) (tn:Nat->Heap->Prop) (J:It) (H':Hp),itv=.ref it /\ Inv X pins σ H' s2 /\ Turn X.prog X.w X.K tg J fp it tn /\ tn 0 s2.heap /\ (∀ b∈fp,fT X pins H' b) /\ R J H'
def PI(X:Cx)(tg iter:Expr)(wi:TI):Prop :=
 ∀ (pins:List (Addr × Obj)) (s:Shared) (σ:St) (H:Hp) (R:It->Hp->Prop),Inv X pins σ H s->wi σ H R ->
  wpAny (model X.prog X.w) X.A (eval iter X.env) (λ v s1=>wpAny (model X.prog X.w) X.A (pyIter v) (X3 X pins σ tg R) X.xe s1) X.xe s
theorem zq{it:Addr}{o:Obj}{n:String}{vs:Array Value}{Q:Unit->Shared->Prop}(ho:s.heap.get? it=some o)(hc:o.cls=.type n)(hd:o.data=.fields vs)
    (hn:["enumerate", "zip", "dict_itemiterator", "dict_reverseitemiterator", "odict_iterator", "itertools.zip_longest", "itertools.pairwise"].contains n=false)(hQ:Q () s):wpAny M A (letOwnedTupleGo tg (.ref it) u) Q E s:=by
  unfold letOwnedTupleGo
  cases tg <;> first
    | exact aE hQ
    | (cases u <;> first
        | exact aE hQ
        | (refine af (wpAny_load ho ?_)
           rw [hc,hd]
           show wpAny M A (if (["enumerate", "zip", "dict_itemiterator", "dict_reverseitemiterator", "odict_iterator", "itertools.zip_longest", "itertools.pairwise"].contains n && vs[0]? == some (rawInt _))=true then _ else _) Q E s
           rw [if_neg (by intro h; rw [hn,oK] at h; cases h)]
           exact aE hQ))
def Gg(K:az)(a:Addr):It :=
 ⟨λ i H=>∃ xs x,bK K H a xs /\ xs[i]? = some x,λ i H x H'=>H'=H /\ ∀ xs,bK K H a xs->xs[i]? = some x,λ i H=>∃ xs,bK K H a xs /\ xs.length <= i⟩
def JE(K:az)(a:Addr):It :=
 ⟨λ i H=>∃ xs x,fF K H a xs /\ xs[i]? = some x,λ i H x H'=>H'=H /\ ∀ xs,fF K H a xs->xs[i]? = some x,λ i H=>∃ xs,fF K H a xs /\ xs.length <= i⟩
def kM(lo:Int)(n:Nat):It:=⟨λ i _=>i < n,λ i H x H'=>H'=H /\ x=.int (lo + i),λ i _=>n <= i⟩
theorem AV(a it:Addr):Turn P w K tg (Gg K a) [it] it (λ i h=>h.IsListIter it a i) where
 mem:=by simp
 obj:=λ i h st b hb=>by
  have e:b=it:=by simpa using hb
  subst e
  obtain ⟨o,e,c,d⟩:=st
  exact ⟨o,e,λ v z=>by rw [d] at z; cases z⟩
 keep:=λ i h h' st k=>st.at λ o e=>k it (by simp) o e
 item:=by
  intro X hP hw hK hc i pins s σ H E I hf st hg
  subst hP hw hK
  obtain ⟨xs,x,hq,hx⟩:=hg
  obtain ⟨its,rv,p,hz⟩:=I.list hq
  obtain ⟨u,hu,ru⟩:=rv.get hx
  obtain ⟨f0,f1,f2,f3,f4,f5⟩:=hf it (by simp)
  refine wpAny_pyNext_list_item st p.isList (x:=u) (by simpa using hu) λ h' st' sb=>?_
  have I1:Inv X pins σ H { s with heap:=h' }:=I.turned (t':=s.toks) (λ b o hb e=>(sb.2 b hb).trans e) f0 f1 f3 f4 f5
  obtain ⟨o,e,c,d⟩:=id st'
  exact ⟨u,rfl,zq (s:={ s with heap:=h' }) e c d (by decide) ⟨x,H,I1,ru,⟨rfl,λ ys hy=>by rw [I.CN hy hq]; exact hx⟩,st',λ b hb=>(hf b hb).1⟩⟩
 done:=by
  intro X hP hw hK hc i pins s σ H E I hf st hg
  subst hP hw hK
  obtain ⟨xs,hq,hx⟩:=hg
  obtain ⟨its,rv,p,hz⟩:=I.list hq
  obtain ⟨f0,f1,f2,f3,f4,f5⟩:=hf it (by simp)
  have hl:=rv.length
  exact wpAny_pyNext_list_end (I.ok.hd hc) st p.isList (by simp; omega) λ h' eb=>⟨rfl,I.turned (t':=s.toks) (λ b o hb e=>eb b o hb e) f0 f1 f3 f4 f5⟩
 self:=λ _ _ _ _ _ st h=>wpAny_pyIter_listiter st h
theorem xF(a it:Addr):Turn P w K tg (JE K a) [it] it (λ i h=>h.IsTupleIter it a i) where
 mem:=by simp
 obj:=λ i h st b hb=>by
  have e:b=it:=by simpa using hb
  subst e
  obtain ⟨o,e,c,d⟩:=st
  exact ⟨o,e,λ v z=>by rw [d] at z; cases z⟩
 keep:=λ i h h' st k=>st.at λ o e=>k it (by simp) o e
 item:=by
  intro X hP hw hK hc i pins s σ H E I hf st hg
  subst hP hw hK
  obtain ⟨xs,x,hq,hx⟩:=hg
  obtain ⟨its,rv,p,hz⟩:=I.tuple hq
  obtain ⟨u,hu,ru⟩:=rv.get hx
  obtain ⟨f0,f1,f2,f3,f4,f5⟩:=hf it (by simp)
  refine wpAny_pyNext_tuple_item st (show s.heap.IsTuple a its.toArray from p) (x:=u) (by simpa using hu) λ h' st' sb=>?_
  have I1:Inv X pins σ H { s with heap:=h' }:=I.turned (t':=s.toks) (λ b o hb e=>(sb.2 b hb).trans e) f0 f1 f3 f4 f5
  obtain ⟨o,e,c,d⟩:=id st'
  exact ⟨u,rfl,zq (s:={ s with heap:=h' }) e c d (by decide) ⟨x,H,I1,ru,⟨rfl,λ ys hy=>by rw [I.AR hy hq]; exact hx⟩,st',λ b hb=>(hf b hb).1⟩⟩
 done:=by
  intro X hP hw hK hc i pins s σ H E I hf st hg
  subst hP hw hK
  obtain ⟨xs,hq,hx⟩:=hg
  obtain ⟨its,rv,p,hz⟩:=I.tuple hq
  obtain ⟨f0,f1,f2,f3,f4,f5⟩:=hf it (by simp)
  have hl:=rv.length
  exact wpAny_pyNext_tuple_end (I.ok.hd hc) st (show s.heap.IsTuple a its.toArray from p) (by simp; omega) λ h' eb=>⟨rfl,I.turned (t':=s.toks) (λ b o hb e=>eb b o hb e) f0 f1 f3 f4 f5⟩
 self:=λ _ _ _ _ _ st h=>wpAny_pyIter_tupleiter st h
theorem xH(it:Addr)(lo:Int)(n:Nat):Turn P w K tg (kM lo n) [it] it (λ i h=>IsRangeIter h it (lo + (i:Nat) * 1) ((n:Int) - (i:Nat)) 1) where
 mem:=by simp
 obj:=λ i h st b hb=>by
  have e:b=it:=by simpa using hb
  subst e
  exact ⟨_,st,λ v z=>by
   have z':Data.fields _=Data.cell v:=z
   cases z'⟩
 keep:=λ i h h' st k=>k it (by simp) _ st
 item:=by
  intro X hP hw hK hc i pins s σ H E I hf st hg
  subst hP hw hK
  obtain ⟨f0,f1,f2,f3,f4,f5⟩:=hf it (by simp)
  have W:=Walks.range (prog:=X.prog) (w:=X.w) (I.ok.hd hc) it lo 1 n
  refine W.item i s _ _ hg st λ v h' tk hv st' kk=>?_
  obtain ⟨t,rfl⟩:=hv
  have I1:Inv X pins σ H { s with heap:=h',toks:=tk }:=I.turned (λ b o hb e=>kk b o (by simpa using hb) e) f0 f1 f3 f4 f5
  refine ⟨_,rfl,zq (s:={ s with heap:=h',toks:=tk }) (n := "range_iterator") st' rfl rfl (by decide) ⟨.int (lo + i),H,I1,⟨t,?_⟩,⟨rfl,rfl⟩,st',λ b hb=>(hf b hb).1⟩⟩
  rw [Int.mul_one]
 done:=by
  intro X hP hw hK hc i pins s σ H E I hf st hg
  subst hP hw hK
  obtain ⟨f0,f1,f2,f3,f4,f5⟩:=hf it (by simp)
  exact wpAny_pyNext_range_end (I.ok.hd hc) st (by have:n <= i:=hg; omega) λ h' eb=>⟨rfl,I.turned (t':=s.toks) (λ b o hb e=>eb b o hb e) f0 f1 f3 f4 f5⟩
 self:=λ _ _ _ _ _ st h=>wpAny_pyIter_rangeiter st h
section
variable {X:Cx}{tg:Expr}
def JF(K:az)(tl:TE):TI:=λ σ H R=>tl σ H λ x H1=>∃ a,x=.ref a /\ (∃ xs,bK K H1 a xs) /\ R (Gg K a) H1
def Pp(K:az)(tl:TE):TI:=λ σ H R=>tl σ H λ x H1=>∃ a,x=.ref a /\ (∃ xs,fF K H1 a xs) /\ R (JE K a) H1
theorem b6{l:Expr}{tl:TE}(hl:PE X l tl):PI X tg l (JF X.K tl):=by
 intro pins s σ H R I h
 refine bV (hl pins s σ H _ I h) λ v s1 ⟨x,H1,I1,r1,q1⟩=>?_
 obtain ⟨a,e,⟨xs,hq⟩,q⟩:=q1
 subst e
 cases r1
 obtain ⟨its,rv,p,hz⟩:=I1.list hq
 refine wpAny_pyIter_list p.isList ?_
 refine ⟨s1.heap.objs.size,[s1.heap.objs.size],_,_,H1,rfl,I1.kept (t':=s1.toks) λ b o e=>bO _ e,AV a _,⟨_,fK _ rfl,rfl,rfl⟩,λ b hb=>?_,q⟩
 have e:b=s1.heap.objs.size:=by simpa using hb
 subst e
 exact I1.mz (ay _) (I1.hok.fresh (ay _))
theorem Lp{l:Expr}{tl:TE}(hl:PE X l tl):PI X tg l (Pp X.K tl):=by
 intro pins s σ H R I h
 refine bV (hl pins s σ H _ I h) λ v s1 ⟨x,H1,I1,r1,q1⟩=>?_
 obtain ⟨a,e,⟨xs,hq⟩,q⟩:=q1
 subst e
 cases r1
 obtain ⟨its,rv,p,hz⟩:=I1.tuple hq
 refine wpAny_pyIter_tuple (show s1.heap.IsTuple a its.toArray from p) ?_
 refine ⟨s1.heap.objs.size,[s1.heap.objs.size],_,_,H1,rfl,I1.kept (t':=s1.toks) λ b o e=>bO _ e,xF a _,⟨_,fK _ rfl,rfl,rfl⟩,λ b hb=>?_,q⟩
 have e:b=s1.heap.objs.size:=by simpa using hb
 subst e
 exact I1.mz (ay _) (I1.hok.fresh (ay _))
theorem CS{σ:St}{R:It->Hp->Prop}{lo hi:Int}{t u v:Tok}{tk:Nat}(I:Inv X pins σ H s)(h1:-(2 ^ 62) <= lo)(h2:lo < 2 ^ 62)(h3:-(2 ^ 62) <= hi)(h4:hi < 2 ^ 62)
  (q:R (kM lo (hi - lo).toNat) H):wpAny (model X.prog X.w) X.A (pyIter (.ref s.heap.objs.size)) (X3 X pins σ tg R) E { s with heap:=s.heap.push { cls:=.type "range", data:=.fields #[.int lo t,.int hi u,.int 1 v] },toks:=tk }:=by
 refine wpAny_pyIter_range (IsRange.new ..) (small_one h1 h2 h3 h4) ?_
 have I1:Inv X pins σ H { s with heap:=s.heap.push { cls:=.type "range", data:=.fields #[.int lo t,.int hi u,.int 1 v] },toks:=tk }:=I.kept λ b o e=>bO _ e
 refine ⟨(s.heap.push { cls:=.type "range", data:=.fields #[.int lo t,.int hi u,.int 1 v] }).objs.size,[(s.heap.push { cls:=.type "range", data:=.fields #[.int lo t,.int hi u,.int 1 v] }).objs.size],_,_,H,rfl,
  I1.kept (t':=tk) λ b o e=>bO _ e,xH _ lo (hi - lo).toNat,?_,λ b hb=>?_,q⟩
 ·have e1:lo + ((0:Nat):Int) * 1=lo:=by simp
  have e2:(((hi - lo).toNat:Nat):Int) - ((0:Nat):Int)=Builtin.Range.rangeSize lo hi 1:=by rw [rangeSize_one]; split <;> omega
  show IsRangeIter _ _ (lo + ((0:Nat):Int) * 1) ((((hi - lo).toNat:Nat):Int) - ((0:Nat):Int)) 1
  rw [e1,e2]
  exact fK _ rfl
 ·have e:b=(s.heap.push { cls:=.type "range", data:=.fields #[.int lo t,.int hi u,.int 1 v] }).objs.size:=by simpa using hb
  subst e
  exact I1.mz (ay _) (I1.hok.fresh (ay _))
def JG(ta:TA):TI:=λ σ H R=>ta σ H λ vs H1=>∃ j:Int,vs=[.int j] /\ -(2 ^ 62) <= j /\ j < 2 ^ 62 /\ R (kM 0 j.toNat) H1
theorem eY{a:Expr}{ta:TA}{p:Pos}(hg:Gl X "range")(hm:X.mg "range" = none)(ha:PA X [a] ta)(hs:starEach [a] X.env=[(false,eval a X.env)]:=by rfl):PI X tg (.Call (.Name "range" p) [a] [] pos) (JG ta):=by
 intro pins s σ H R I h
 refine Call_ (kC I hg hm boot_range (nJ (bV (ha pos pins s σ H _ I h) λ us s1 ⟨vs,H1,I1,r1,q1⟩=>?_) hs rfl))
 obtain ⟨j,e,q1,q2,q⟩:=q1
 subst e
 cases r1 with
 | cons r rr =>
  cases rr
  obtain ⟨t,rfl⟩:=r
  exact call_range_1 (CS I1 (by omega) (by omega) q1 q2 (by simpa using q))
def Pq(wi:TI)(g:TG)(tb:TS):TS:=λ D σ H=>wi σ H λ J H1=>∃ W:Nat->Nat->St->Hp->Prop,(∃ m,W 0 m σ H1) /\ ∀ i m σ H,W i m σ H ->
 (J.stop i H /\ D.nx σ H) \/ (J.go i H /\ ∃ N:St->Hp->Prop,(∀ σ' H',N σ' H'->∃ m',m' < m /\ W (i + 1) m' σ' H') /\ ∀ x H',J.CD i H x H'->g x σ H' λ σ2 H2=>tb { D with nx:=N,ct:=N,bk:=D.nx } σ2 H2)
def jt(fp:List Addr)(h:Heap):List (Addr × Obj):=fp.filterMap λ b=>(h.get? b).map λ o=>(b,o)
theorem cE{o:Obj}(hb:b∈fp)(e:h.get? b=some o):(b,o)∈jt fp h:=List.mem_filterMap.mpr ⟨b,hb,by rw [e]; rfl⟩
theorem mD{p:Addr × Obj}(hp:p∈jt fp h):p.1∈fp /\ h.get? p.1=some p.2:=by
 obtain ⟨b,hb,e⟩:=List.mem_filterMap.mp hp
 cases q:h.get? b with
 | none=>rw [q] at e; cases e
 | some o =>
  rw [q] at e
  have e':(b,o)=p:=Option.some.inj e
  subst e'
  exact ⟨hb,q⟩
theorem Inv.pinned{σ:St}(I:Inv X pins σ H s)(hf:∀ b∈fp,fT X pins H b)(ho:∀ b∈fp,∃ o,s.heap.get? b=some o /\ ∀ v,o.data ≠ .cell v):Inv X (pins++jt fp s.heap) σ H s :=
 I.jJ λ p hp=>(aK.mp hp).elim (λ z=>I.pin p (bF _ z)) λ z=>by
  obtain ⟨hb,e⟩:=mD z
  obtain ⟨f0,f1,f2,_⟩:=hf p.1 hb
  obtain ⟨o,e',d⟩:=ho p.1 hb
  rw [e] at e'; cases e'
  exact ⟨e,f0,f1,f2,d⟩
theorem Inv.ju{pl:List (Addr × Obj)}{σ:St}(I:Inv X (pins++pl) σ H s):Inv X pins σ H s:=I.jJ λ p hp=>I.pin p (bF _ (ki _ hp))
theorem eK{iter:Expr}{wi:TI}(hp:PassesOwn (model X.prog X.w) X.A X.env X.xe)(hc:X.calm=true)(hi:PI X tg iter wi)(hg:PG X tg g)(hb:nE X body tb)
  (hs:∀ x,foldedSetIterable iter X.env x=pure x:=by intro _; rfl):PS X (.For tg iter body [] pos) (Pq wi g tb):=by
 intro pins s σ H D I h
 refine wpAny_For (bV (hi pins s σ H _ I h) λ v s1 h1=>bV h1 λ itv s2 h2=>?_) hs
 obtain ⟨it,fp,tn,J,H2,e,I2,T,st2,f2,W,⟨m0,w0⟩,turn⟩:=h2
 subst e
 have pq:∀ {H':Hp},(∀ b∈fp,H' b=none)->∀ b∈fp,fT X pins H' b:=λ hn b hb=>⟨hn b hb,(f2 b hb).2⟩
 refine codeAny_forLoop_any (λ n s'=>∃ i σ' H',Inv X pins σ' H' s' /\ tn i s'.heap /\ (∀ b∈fp,H' b=none) /\ W i n σ' H') ?_ m0 ⟨0,σ,H2,I2,st2,λ b hb=>(f2 b hb).1,w0⟩
 rintro n s3 ⟨i,σ3,H3,I3,st3,JH,w3⟩
 rcases turn i n σ3 H3 w3 with ⟨stop,qn⟩ | ⟨go,N,hN,step⟩
 ·refine wpAny_passesOwn hp (bV (T.done X rfl rfl rfl hc i pins s3 σ3 H3 X.xe I3 (pq JH) st3 stop) λ r s4 ⟨hr,I4⟩=>?_)
  subst hr
  exact wpAny_execs_nil ⟨σ3,H3,I4,qn⟩
 ·refine wpAny_passesOwn hp (bV (T.item X rfl rfl rfl hc i pins s3 σ3 H3 X.xe I3 (pq JH) st3 go) λ r s4 ⟨u,hr,h4⟩=>?_)
  subst hr
  refine wpAny_passesOwn hp (bV h4 λ _ s5 ⟨x,H5,I5,r5,y5,xJ,Pr⟩=>?_)
  have Pu:=I5.pinned (pq Pr) (T.obj _ _ xJ)
  refine wpAny_passesOwn hp (bV (hg _ s5 σ3 H5 x u _ Pu r5 (step x H5 y5)) λ _ s6 ⟨σ6,H6,I6,q6⟩=>?_)
  refine wpAny_passesOwn hp (bV (hb _ s6 σ6 H6 _ I6 q6) λ f s7 q7=>?_)
  have again:∀ {σ7:St} {H7:Hp},Inv X (pins++jt fp s5.heap) σ7 H7 s7->N σ7 H7->∃ m,m < n /\ ∃ i σ' H',Inv X pins σ' H' s7 /\ tn i s7.heap /\ (∀ b∈fp,H' b=none) /\ W i m σ' H':=λ {σ7 H7} I7 n7=>by
   obtain ⟨m',hm,w7⟩:=hN σ7 H7 n7
   refine ⟨m',hm,i + 1,σ7,H7,I7.ju,T.keep _ _ _ xJ λ b hb o e=>(I7.pin (b,o) (bF _ (bF _ (cE hb e)))).1,λ b hb=>?_,w7⟩
   obtain ⟨o,e,d⟩:=T.obj _ _ xJ b hb
   exact (I7.pin (b,o) (bF _ (bF _ (cE hb e)))).2.1
  cases f with
  | next=>obtain ⟨σ7,H7,I7,n7⟩:=q7; exact again I7 n7
  | cont=>obtain ⟨σ7,H7,I7,n7⟩:=q7; exact again I7 n7
  | brk=>obtain ⟨σ7,H7,I7,q7⟩:=q7; exact ⟨σ7,H7,I7.ju,q7⟩
  | ret v=>obtain ⟨x7,σ7,H7,I7,r7,q7⟩:=q7; exact ⟨x7,σ7,H7,I7.ju,r7,q7⟩
end
theorem CU{σ:St}(Pv:Nat->St->Hp->Prop)(h0:Pv 0 σ H)(hl:∀ i σ H,i <= xs.length->Pv i σ H->bK K H a xs)
  (hs:∀ i x σ H,xs[i]? = some x->Pv i σ H->g x σ H λ σ2 H2=>tb { D with nx:=Pv (i + 1),ct:=Pv (i + 1),bk:=D.nx } σ2 H2)(hd:∀ σ H,Pv xs.length σ H->D.nx σ H):
  ∃ W:Nat->Nat->St->Hp->Prop,(∃ m,W 0 m σ H) /\ ∀ i m σ H,W i m σ H ->
   ((Gg K a).stop i H /\ D.nx σ H) \/ ((Gg K a).go i H /\ ∃ N:St->Hp->Prop,(∀ σ' H',N σ' H'->∃ m',m' < m /\ W (i + 1) m' σ' H') /\ ∀ x H',(Gg K a).CD i H x H'->g x σ H' λ σ2 H2=>tb { D with nx:=N,ct:=N,bk:=D.nx } σ2 H2):=by
 refine ⟨λ i m σ H=>m=xs.length - i /\ i <= xs.length /\ Pv i σ H,⟨xs.length,by simp,aO _,h0⟩,?_⟩
 rintro i m σ H ⟨rfl,hi,p⟩
 have q:=hl i σ H hi p
 by_cases hlt:i < xs.length
 ·refine .inr ⟨⟨xs,xs[i],q,by simp [hlt]⟩,Pv (i + 1),λ σ' H' p'=>⟨xs.length - (i + 1),by omega,rfl,hlt,p'⟩,λ x H' y=>?_⟩
  obtain ⟨e,y⟩:=y
  subst e
  exact hs i x σ _ (y xs q) p
 ·have e:i=xs.length:=by omega
  subst e
  exact .inl ⟨⟨xs,q,ay _⟩,hd σ H p⟩
theorem Gy{σ:St}(Pv:Nat->St->Hp->Prop)(h0:Pv 0 σ H)(hl:∀ i σ H,i <= xs.length->Pv i σ H->fF K H a xs)
  (hs:∀ i x σ H,xs[i]? = some x->Pv i σ H->g x σ H λ σ2 H2=>tb { D with nx:=Pv (i + 1),ct:=Pv (i + 1),bk:=D.nx } σ2 H2)(hd:∀ σ H,Pv xs.length σ H->D.nx σ H):
  ∃ W:Nat->Nat->St->Hp->Prop,(∃ m,W 0 m σ H) /\ ∀ i m σ H,W i m σ H ->
   ((JE K a).stop i H /\ D.nx σ H) \/ ((JE K a).go i H /\ ∃ N:St->Hp->Prop,(∀ σ' H',N σ' H'->∃ m',m' < m /\ W (i + 1) m' σ' H') /\ ∀ x H',(JE K a).CD i H x H'->g x σ H' λ σ2 H2=>tb { D with nx:=N,ct:=N,bk:=D.nx } σ2 H2):=by
 refine ⟨λ i m σ H=>m=xs.length - i /\ i <= xs.length /\ Pv i σ H,⟨xs.length,by simp,aO _,h0⟩,?_⟩
 rintro i m σ H ⟨rfl,hi,p⟩
 have q:=hl i σ H hi p
 by_cases hlt:i < xs.length
 ·refine .inr ⟨⟨xs,xs[i],q,by simp [hlt]⟩,Pv (i + 1),λ σ' H' p'=>⟨xs.length - (i + 1),by omega,rfl,hlt,p'⟩,λ x H' y=>?_⟩
  obtain ⟨e,y⟩:=y
  subst e
  exact hs i x σ _ (y xs q) p
 ·have e:i=xs.length:=by omega
  subst e
  exact .inl ⟨⟨xs,q,ay _⟩,hd σ H p⟩
theorem AW{lo:Int}{σ:St}(Pv:Nat->St->Hp->Prop)(h0:Pv 0 σ H)
  (hs:∀ i σ H,i < n->Pv i σ H->g (.int (lo + i)) σ H λ σ2 H2=>tb { D with nx:=Pv (i + 1),ct:=Pv (i + 1),bk:=D.nx } σ2 H2)(hd:∀ σ H,Pv n σ H->D.nx σ H):
  ∃ W:Nat->Nat->St->Hp->Prop,(∃ m,W 0 m σ H) /\ ∀ i m σ H,W i m σ H ->
   ((kM lo n).stop i H /\ D.nx σ H) \/ ((kM lo n).go i H /\ ∃ N:St->Hp->Prop,(∀ σ' H',N σ' H'->∃ m',m' < m /\ W (i + 1) m' σ' H') /\ ∀ x H',(kM lo n).CD i H x H'->g x σ H' λ σ2 H2=>tb { D with nx:=N,ct:=N,bk:=D.nx } σ2 H2):=by
 refine ⟨λ i m σ H=>m=n - i /\ i <= n /\ Pv i σ H,⟨n,by simp,aO _,h0⟩,?_⟩
 rintro i m σ H ⟨rfl,hi,p⟩
 by_cases hlt:i < n
 ·refine .inr ⟨hlt,Pv (i + 1),λ σ' H' p'=>⟨n - (i + 1),by omega,rfl,hlt,p'⟩,λ x H' y=>?_⟩
  obtain ⟨e,y⟩:=y
  subst e y
  exact hs i σ _ hlt p
 ·have e:i=n:=by omega
  subst e
  exact .inl ⟨ay _,hd σ H p⟩
abbrev R2:=V->V->Hp->VK->Prop
def jf(X:Cx)(f:Value->Value->Sem Value)(r:R2):Prop :=
 ∀ (pins:List (Addr × Obj)) (s:Shared) (σ:St) (H:Hp) (x y:V) (v u:Value) (Q:VK),Inv X pins σ H s->RelV x v->RelV y u->r x y H Q ->
  wpAny (model X.prog X.w) X.A (f v u) (EP X pins σ Q) X.xe s
def U8(X:Cx)(f:Value->Sem Value)(r:V->Hp->VK->Prop):Prop :=
 ∀ (pins:List (Addr × Obj)) (s:Shared) (σ:St) (H:Hp) (x:V) (v:Value) (Q:VK),Inv X pins σ H s->RelV x v->r x H Q ->
  wpAny (model X.prog X.w) X.A (f v) (EP X pins σ Q) X.xe s
def cG(X:Cx)(f:Value)(r:List V->Hp->VK->Prop):Prop :=
 ∀ (pins:List (Addr × Obj)) (s:Shared) (σ:St) (H:Hp) (xs:List V) (us:List Value) (Q:VK),Inv X pins σ H s->Vals xs us->r xs H Q ->
  wpAny (model X.prog X.w) X.A (call f us) (EP X pins σ Q) X.xe s
def U9(X:Cx)(r:V->Hp->(Bool->Hp->Prop)->Prop):Prop :=
 ∀ (pins:List (Addr × Obj)) (s:Shared) (σ:St) (H:Hp) (x:V) (v:Value) (Q:Bool->Hp->Prop),Inv X pins σ H s->RelV x v->r x H Q ->
  wpAny (model X.prog X.w) X.A (truthy v) (TP X pins σ Q) X.xe s
def Lq(r:R2)(ta tb:TE):TE:=λ σ H Q=>ta σ H λ x H1=>tb σ H1 λ y H2=>r x y H2 Q
def X4(r:V->Hp->VK->Prop)(ta:TE):TE:=λ σ H Q=>ta σ H λ x H1=>r x H1 Q
def rI(C:Int->Int->Prop)(g:Int->Int->V):R2:=λ x y H Q=>∃ i j,x=.int i /\ y=.int j /\ C i j /\ Q (g i j) H
def JI(g:Int->Int->V):R2:=λ x y H Q=>∃ i j,x=.int i /\ y=.int j /\ Q (g i j) H
def rU(g:Int->V):V->Hp->VK->Prop:=λ x H Q=>∃ i,x=.int i /\ Q (g i) H
section
variable {X:Cx}{a b c:Expr}{ta tb tc:TE}{pos:Pos}
theorem Lr(ha:PE X a ta)(hb:PE X b tb){σ:St}{R:V->V->Hp->Prop}(I:Inv X pins σ H s)
  (h:ta σ H λ x H1=>tb σ H1 λ y H2=>R x y H2)
  (hf:∀ v u s2 x y H2,Inv X pins σ H2 s2->RelV x v->RelV y u->R x y H2->wpAny (model X.prog X.w) X.A (f v u) Q X.xe s2):
  wpAny (model X.prog X.w) X.A (eval a X.env) (λ v s₁=>wpAny (model X.prog X.w) X.A (eval b X.env) (λ u s₂=>wpAny (model X.prog X.w) X.A (f v u) Q X.xe s₂) X.xe s₁) X.xe s:=by
 refine bV (ha pins s σ H _ I h) λ v s1 ⟨x,H1,I1,r1,q1⟩=>?_
 refine bV (hb pins s1 σ H1 _ I1 q1) λ u s2 ⟨y,H2,I2,r2,q2⟩=>?_
 exact hf v u s2 x y H2 I2 r1 r2 q2
theorem aJ{op:Operator}(ho:jf X (binaryOp op) r)(ha:PE X a ta)(hb:PE X b tb):PE X (.BinOp a op b pos) (Lq r ta tb):=by
 intro pins s σ H Q I h
 exact wpAny_BinOp (Lr ha hb I h λ v u s2 x y H2 I2 rx ry q=>ho pins s2 σ H2 x y v u Q I2 rx ry q)
theorem Pw{op:UnaryOp}{r:V->Hp->VK->Prop}(ho:U8 X (unaryOp op) r)(ha:PE X a ta):PE X (.UnaryOp op a pos) (X4 r ta):=by
 intro pins s σ H Q I h
 exact UnaryOp_ (bV (ha pins s σ H _ I h) λ v s1 ⟨x,H1,I1,r1,q1⟩=>ho pins s1 σ H1 x v Q I1 r1 q1)
theorem Px{C:Int->Int->Prop}{g:Int->Int->Int}
  (rule:∀ (i j:Int) (t u:Tok) (s:Shared) (Q:Value->Shared->Prop) (E:Value->Shared->Prop),C i j->Q (.int (g i j) s.toks) { s with toks:=s.toks + 1 } -> wpAny (model X.prog X.w) X.A (f (.int i t) (.int j u)) Q E s):
  jf X f (rI C λ i j=>.int (g i j)):=by
 intro pins s σ H x y v u Q I rx ry h
 obtain ⟨i,j,rfl,rfl,hc,q⟩:=h
 obtain ⟨t,rfl⟩:=rx
 obtain ⟨t',rfl⟩:=ry
 exact rule i j t t' s _ _ hc ⟨.int (g i j),H,I.tok _,⟨_,rfl⟩,q⟩
theorem Py{g:Int->Int->Int}
  (rule:∀ (i j:Int) (t u:Tok) (s:Shared) (Q:Value->Shared->Prop) (E:Value->Shared->Prop),Q (.int (g i j) s.toks) { s with toks:=s.toks + 1 } -> wpAny (model X.prog X.w) X.A (f (.int i t) (.int j u)) Q E s):
  jf X f (JI λ i j=>.int (g i j)):=by
 intro pins s σ H x y v u Q I rx ry h
 obtain ⟨i,j,rfl,rfl,q⟩:=h
 obtain ⟨t,rfl⟩:=rx
 obtain ⟨t',rfl⟩:=ry
 exact rule i j t t' s _ _ ⟨.int (g i j),H,I.tok _,⟨_,rfl⟩,q⟩
theorem Ls{g:Int->Int->Bool}
  (rule:∀ (i j:Int) (t u:Tok) (s:Shared) (Q:Value->Shared->Prop) (E:Value->Shared->Prop),Q (.bool (g i j)) s->wpAny (model X.prog X.w) X.A (f (.int i t) (.int j u)) Q E s):
  jf X f (JI λ i j=>.bl (g i j)):=by
 intro pins s σ H x y v u Q I rx ry h
 obtain ⟨i,j,rfl,rfl,q⟩:=h
 obtain ⟨t,rfl⟩:=rx
 obtain ⟨t',rfl⟩:=ry
 exact rule i j t t' s _ _ ⟨.bl (g i j),H,I,rfl,q⟩
def Va(i j:Int):Prop:=0 < j /\ j < 1073741824
def Vb(i j:Int):Prop:=0 <= j /\ j <= 1000000 /\ i.natAbs < 2 ^ 64
def Lu(i j:Int):Prop:=(-(2 ^ 64) < i /\ i < 2 ^ 64) \/ (-(2 ^ 64) < j /\ j < 2 ^ 64)
theorem Lu.ok{i j:Int}(h:Lu i j):IntMulOk i j:=by
 rcases h with ⟨h1,h2⟩ | ⟨h1,h2⟩
 ·exact .of_left (intBits_le_64 h1 h2)
 ·exact .of_right (intBits_le_64 h1 h2)
theorem cF:jf X (binaryOp .Add) (JI λ i j=>.int (i + j)):=Py λ _ _ _ _ _ _ _ q=>add_int q
theorem sJ:jf X (binaryOp .Sub) (JI λ i j=>.int (i - j)):=Py λ _ _ _ _ _ _ _ q=>sub_int q
theorem g8:jf X (binaryOp .Mult) (rI Lu λ i j=>.int (i * j)):=Px λ _ _ _ _ _ _ _ hc q=>mul_int q hc.ok
theorem gH:jf X (binaryOp .FloorDiv) (rI Va λ i j=>.int (i / j)):=Px λ i j _ _ _ _ _ hc q=>by
 have h1:(0:Int) < j:=hc.1
 have h2:j < 1073741824:=hc.2
 exact floordiv_int (by omega) (by rw [Int.fdiv_eq_ediv_of_nonneg i (by omega)]; exact q) (.inl (PyProof.noPylong_small (by omega)))
theorem bY:jf X (binaryOp .Mod) (rI (λ _ j=>0 < j) λ i j=>.int (i % j)):=Px λ i j _ _ _ _ _ hc q=>by
 have h1:(0:Int) < j:=hc
 exact mod_int' (by omega) (by rw [Int.fmod_eq_emod_of_nonneg i (by omega)]; exact q)
theorem Lv:jf X (binaryOp .Pow) (rI Vb λ i j=>.int (i ^ j.toNat)):=Px λ _ _ _ _ _ _ _ hc q=>pow_int_small hc.1 hc.2.1 hc.2.2 q
theorem Zn{f:Value->Sem Value}{g:Int->Int}
  (rule:∀ (i:Int) (t:Tok) (s:Shared) (Q:Value->Shared->Prop) (E:Value->Shared->Prop),Q (.int (g i) s.toks) { s with toks:=s.toks + 1 } -> wpAny (model X.prog X.w) X.A (f (.int i t)) Q E s):
  U8 X f (rU λ i=>.int (g i)):=by
 intro pins s σ H x v Q I rx h
 obtain ⟨i,rfl,q⟩:=h
 obtain ⟨t,rfl⟩:=rx
 exact rule i t s _ _ ⟨.int (g i),H,I.tok _,⟨_,rfl⟩,q⟩
theorem Lw:U8 X (unaryOp .USub) (rU λ i=>.int (-i)):=Zn λ _ _ _ _ _ q=>neg_int q
end
def Vc:V->V->Bool
 | .bZ,.bZ=>true | .bZ,.int _=>true | .int _,.bZ=>true | .bZ,.bl _=>true | .bl _,.bZ=>true | .bZ,.str _=>true | .str _,.bZ=>true
 | .int _,.int _=>true | .bl _,.bl _=>true | .str _,.str _=>true | .CB _,.CB _=>true
 | .int _,.str _=>true | .str _,.int _=>true | .bl _,.str _=>true | .str _,.bl _=>true
 | _,_=>false
def Vd:R2:=λ x y H Q=>Vc x y=true /\ Q (.bl (decide (x=y))) H
theorem Gz{i j:Int}:decide (V.int i=V.int j)=(i == j):=by
 rw [Bool.eq_iff_iff]
 simp
theorem Lx{i j:Bool}:decide (V.bl i=V.bl j)=(i == j):=by
 rw [Bool.eq_iff_iff]
 simp
theorem GA{i j:Str}:decide (V.str i=V.str j)=(i == j):=by
 rw [Bool.eq_iff_iff]
 simp
theorem GB{i j:Array UInt8}:decide (V.CB i=V.CB j)=(i.toList == j.toList):=by
 rw [Bool.eq_iff_iff]
 cases i
 cases j
 simp
section
variable {X:Cx}{a b c:Expr}{ta tb tc:TE}{pos:Pos}
theorem c8{σ:St}{Q:VK}{k k':Bool}(I:Inv X pins σ H s)(q:Q (.bl k) H)(e:k=k'):EP X pins σ Q (.bool k') s:=by
 subst e
 exact ⟨.bl k,H,I,rfl,q⟩
theorem eL:jf X (compareOp .Eq) Vd:=by
 intro pins s σ H x y v u Q I rx ry h
 obtain ⟨hs,q⟩:=h
 cases x with
 | bZ =>
  cases rx
  cases y with
  | bZ=>cases ry; exact PySem.EqNone.eq_none_none (c8 I q (by simp))
  | bl j=>cases ry; exact PySem.EqNone.eq_none_bool (c8 I q (by simp))
  | int j=>obtain ⟨t',rfl⟩:=ry; exact PySem.EqNone.eq_none_int (c8 I q (by simp))
  | str j=>obtain ⟨t',rfl⟩:=ry; exact PySem.EqNone.eq_none_str (c8 I q (by simp))
  | _=>exact absurd (show false=true from hs) j0
 | bl i =>
  cases rx
  cases y with
  | bZ=>cases ry; exact PySem.EqNone.eq_bool_none (c8 I q (by simp))
  | bl j=>cases ry; exact eq_bool (c8 I q Lx)
  | str j=>obtain ⟨t',rfl⟩:=ry; exact PySem.EqMixed.eq_bool_str (c8 I q (by simp))
  | _=>exact absurd (show false=true from hs) j0
 | int i =>
  obtain ⟨t,rfl⟩:=rx
  cases y with
  | bZ=>cases ry; exact PySem.EqNone.eq_int_none (c8 I q (by simp))
  | int j=>obtain ⟨t',rfl⟩:=ry; exact eq_int (c8 I q Gz)
  | str j=>obtain ⟨t',rfl⟩:=ry; exact PySem.EqMixed.eq_int_str (c8 I q (by simp))
  | _=>exact absurd (show false=true from hs) j0
 | str i =>
  obtain ⟨t,rfl⟩:=rx
  cases y with
  | bZ=>cases ry; exact PySem.EqNone.eq_str_none (c8 I q (by simp))
  | bl j=>cases ry; exact PySem.EqMixed.eq_str_bool (c8 I q (by simp))
  | int j=>obtain ⟨t',rfl⟩:=ry; exact PySem.EqMixed.eq_str_int (c8 I q (by simp))
  | str j=>obtain ⟨t',rfl⟩:=ry; exact eq_str (c8 I q GA)
  | _=>exact absurd (show false=true from hs) j0
 | CB i =>
  obtain ⟨t,rfl⟩:=rx
  cases y with
  | CB j=>obtain ⟨t',rfl⟩:=ry; exact PySem.W.eq_bytes (c8 I q GB)
  | _=>exact absurd (show false=true from hs) j0
 | _=>cases y <;> exact absurd (show false=true from hs) j0
theorem iZ:jf X (compareOp .Lt) (JI λ i j=>.bl (decide (i < j))):=Ls λ _ _ _ _ _ _ _ q=>lt_int q
theorem CV:jf X (compareOp .LtE) (JI λ i j=>.bl (decide (i <= j))):=Ls λ _ _ _ _ _ _ _ q=>le_int q
theorem CW:jf X (compareOp .Gt) (JI λ i j=>.bl (decide (j < i))):=Ls λ _ _ _ _ _ _ _ q=>gt_int q
theorem Ly:jf X (compareOp .Is) (λ x y H Q=>y=.bZ /\ Q (.bl (decide (x=.bZ))) H):=by
 intro pins s σ H x y v u Q I rx ry h
 obtain ⟨rfl,q⟩:=h
 cases ry
 refine is_none_gen (c8 I q ?_)
 cases x <;> first
  | (cases rx; rfl)
  | (obtain ⟨t,rfl⟩:=rx; rfl)
theorem GC:jf X (compareOp .IsNot) (λ x y H Q=>y=.bZ /\ Q (.bl (!decide (x=.bZ))) H):=by
 intro pins s σ H x y v u Q I rx ry h
 obtain ⟨rfl,q⟩:=h
 cases ry
 refine isnot_none_gen (c8 I q ?_)
 cases x <;> first
  | (cases rx; rfl)
  | (obtain ⟨t,rfl⟩:=rx; rfl)
theorem jf.or{r':R2}(h:jf X f r)(h':jf X f r'):jf X f (λ x y H Q=>r x y H Q \/ r' x y H Q):=by
 intro pins s σ H x y v u Q I rx ry q
 rcases q with q | q
 ·exact h pins s σ H x y v u Q I rx ry q
 ·exact h' pins s σ H x y v u Q I rx ry q
theorem aY(b:Expr)(h:op ≠ .In:=by decide)(h2:op ≠ .NotIn:=by decide):behindInMarks op b=false:=by
 have e1:(op == CmpOp.In)=false:=by cases op <;> first | rfl | exact absurd rfl h
 have e2:(op == CmpOp.NotIn)=false:=by cases op <;> first | rfl | exact absurd rfl h2
 cases b <;> simp [behindInMarks,e1,e2]
theorem jM(ho:jf X (compareOp op) r)(ha:PE X a ta)(hb:PE X b tb)(hm:behindInMarks op b=false):PE X (.Compare a [op] [b] pos) (Lq r ta tb):=by
 intro pins s σ H Q I h
 exact wpAny_Compare1 (Lr ha hb I h λ v u s2 x y H2 I2 rx ry q=>ho pins s2 σ H2 x y v u Q I2 rx ry q) hm
def CY(t:TE):TT:=λ σ H Q=>t σ H λ x H'=>∃ k,x=.bl k /\ Q k H'
theorem aI(ho:jf X (compareOp op) r)(ha:PE X a ta)(hb:PE X b tb)(hm:behindInMarks op b=false):PT X (.Compare a [op] [b] pos) (CY (Lq r ta tb)):=by
 intro pins s σ H Q I h
 refine wpAny_isTrue_Compare1 (bV (ha pins s σ H _ I h) λ v s1 ⟨x,H1,I1,r1,q1⟩=>bV (hb pins s1 σ H1 _ I1 q1) λ u s2 ⟨y,H2,I2,r2,q2⟩ =>
  bV (ho pins s2 σ H2 x y v u _ I2 r1 r2 q2) λ c s3 ⟨z,H3,I3,r3,k,e,q3⟩=>?_) hm
 subst e
 cases r3
 exact wpAny_truthy_bool ⟨H3,I3,q3⟩
def CZ(r r':R2)(ta tb tc:TE):TE:=λ σ H Q=>ta σ H λ x H1=>tb σ H1 λ y H2=>r x y H2 λ z H3=>∃ k,z=.bl k /\
 (if k=true then tc σ H3 λ w' H4=>r' y w' H4 Q else Q (.bl false) H3)
theorem C0{op':CmpOp}{r':R2}(ho:jf X (compareOp op) r)(ho':jf X (compareOp op') r')(ha:PE X a ta)(hb:PE X b tb)(hc:PE X c tc)
  (hm:lastMarks [op,op'] [b,c]=false:=by with_unfolding_all rfl):PT X (.Compare a [op,op'] [b,c] pos) (CY (CZ r r' ta tb tc)):=by
 intro pins s σ H Q I h
 refine isTrue_chain (bV (ha pins s σ H _ I h) λ v s1 ⟨x,H1,I1,r1,q1⟩=>test_link (bV (hb pins s1 σ H1 _ I1 q1) λ u s2 ⟨y,H2,I2,r2,q2⟩ =>
  bV (ho pins s2 σ H2 x y v u _ I2 r1 r2 q2) λ d s3 ⟨z,H3,I3,r3,k,e,q3⟩=>?_)) hm
 subst e
 cases r3
 refine wpAny_truthy_bool ?_
 cases k with
 | false =>
  obtain ⟨k',e',q'⟩:=q3
  cases e'
  exact ite_ff ⟨H3,I3,q'⟩
 | true =>
  refine ite_tt (test_last (bV (hc pins s3 σ H3 _ I3 q3) λ w' s4 ⟨z',H4,I4,r4,q4⟩=>bV (ho' pins s4 σ H4 y z' u w' _ I4 r2 r4 q4) λ d' s5 ⟨z2,H5,I5,r5,k2,e2,q5⟩=>?_))
  subst e2
  cases r5
  exact wpAny_truthy_bool ⟨H5,I5,q5⟩
def GD(K:az)(x:V)(H:Hp)(k:Bool):Prop :=
 match x with
 | .bZ=>k=false
 | .bl b=>k=b
 | .int i=>k=(i != 0)
 | .str y=>y.length <= sizeLine /\ k=((y.length:Int) != 0)
 | .CB y=>y.size <= sizeLine /\ k=((y.size:Int) != 0)
 | .ref p=>(∃ xs,bK K H p xs /\ k = !xs.isEmpty) \/ (∃ xs,fF K H p xs /\ k = !xs.isEmpty) \/ ∃ kvs,H p=some (.dK kvs) /\ k = !kvs.isEmpty
 | _=>False
theorem xK{κ:Type}{kvs:List (κ × V)}{vs:List (κ × Value)}(r:KV kvs vs):(!vs.isEmpty) = !kvs.isEmpty:=by
 cases r <;> rfl
theorem pA{its:List Value}(r:Vals xs its):(!its.toArray.isEmpty) = !xs.isEmpty:=by
 cases r <;> simp
theorem mE:(sizeLine:Nat) < 2 ^ 63:=by rw [sizeLine_eq]; decide
theorem Lz:U9 X (λ x H Q=>∃ k,GD X.K x H k /\ Q k H):=by
 intro pins s σ H x v Q I rx h
 obtain ⟨k,e,q⟩:=h
 have hl:=mE
 have hs:sizeLine=16777216:=sizeLine_eq
 cases x with
 | bZ =>
  cases rx
  have e':k=false:=e
  subst e'
  exact truthy_none ⟨H,I,q⟩
 | bl b =>
  cases rx
  have e':k=b:=e
  subst e'
  exact wpAny_truthy_bool ⟨H,I,q⟩
 | int i =>
  obtain ⟨t,rfl⟩:=rx
  have e':k=(i != 0):=e
  subst e'
  exact PySem.P.truthy_int ⟨H,I,q⟩
 | str y =>
  obtain ⟨t,rfl⟩:=rx
  obtain ⟨hy,e'⟩:y.length <= sizeLine /\ k=((y.length:Int) != 0):=e
  subst e'
  exact PySem.P.truthy_str (by omega) ⟨H,I.tok _,q⟩
 | CB y =>
  obtain ⟨t,rfl⟩:=rx
  obtain ⟨hy,e'⟩:y.size <= sizeLine /\ k=((y.size:Int) != 0):=e
  subst e'
  exact PySem.W.truthy_bytes (by omega) ⟨H,I.tok _,q⟩
 | ref p =>
  cases rx
  have e':(∃ xs,bK X.K H p xs /\ k = !xs.isEmpty) \/ (∃ xs,fF X.K H p xs /\ k = !xs.isEmpty) \/ ∃ kvs,H p=some (.dK kvs) /\ k = !kvs.isEmpty:=e
  rcases e' with ⟨xs,hx,e'⟩ | ⟨xs,hx,e'⟩ | ⟨kvs,hx,e'⟩
  ·subst e'
   obtain ⟨its,r,pl,hz⟩:=I.list hx
   have hlen:=r.length
   exact wpAny_truthy_list pl.isList (by simp only [aT]; omega) ⟨H,I.tok _,by rw [pA r]; exact q⟩
  ·subst e'
   obtain ⟨its,r,pl,hz⟩:=I.tuple hx
   have hlen:=r.length
   exact truthy_tuple pl (by simp only [aT]; omega) ⟨H,I.tok _,by rw [pA r]; exact q⟩
  ·subst e'
   obtain ⟨hz,hS,vs,r,m⟩:kvs.length <= sizeLine /\ (p == sysModules)=false /\ ∃ vs,KV kvs vs /\ s.heap.DictOf (bI X.prog X.w) p vs:=I.hok p _ hx
   have hlen:kvs.length=vs.length:=fR r
   exact wpAny_truthy_dict hS m (by omega) ⟨H,I.tok _,by rw [xK r]; exact q⟩
 | _=>exact (show False from e).elim
theorem C1(ha:PE X a ta)(he:∀ whole,isTrue a X.env whole=(do let v <- whole; standAt a.pos; holding [v] (truthy v))):
  PT X a (λ σ H Q=>ta σ H λ x H'=>∃ k,GD X.K x H' k /\ Q k H'):=by
 intro pins s σ H Q I h
 exact isTrue_plain (bV (ha pins s σ H _ I h) λ v s1 ⟨x,H1,I1,r1,q1⟩=>Lz pins s1 σ H1 x v Q I1 r1 q1) (he _)
theorem vals1{x:V}(r:Vals [x] us):∃ u,us=[u] /\ RelV x u:=by
 cases r with
 | cons r1 r2=>cases r2; exact ⟨_,rfl,r1⟩
theorem vals2{x y:V}(r:Vals [x,y] us):∃ u w',us=[u,w'] /\ RelV x u /\ RelV y w':=by
 cases r with
 | cons r1 r2 =>
  cases r2 with
  | cons r3 r4=>cases r4; exact ⟨_,_,rfl,r1,r3⟩
theorem AX(hc:X.calm=true):cG X (.builtin "min") (λ xs H Q=>∃ i j,xs=[.int i,.int j] /\ Q (.int (if j < i then j else i)) H):=by
 intro pins s σ H xs us Q I r h
 obtain ⟨i,j,rfl,q⟩:=h
 obtain ⟨u,w',rfl,⟨t,rfl⟩,⟨t',rfl⟩⟩:=vals2 r
 refine min_two_ints (I.ok.hd hc) λ h' tk k=>⟨_,H,I.kept k,?_,q⟩
 by_cases hj:j < i
 ·rw [if_pos hj,if_pos hj]; exact ⟨_,rfl⟩
 ·rw [if_neg hj,if_neg hj]; exact ⟨_,rfl⟩
end
structure LA (h:Heap) (x dx C:Addr) (mA:Str->Option Value):Prop where
 obj:h.get? x=some (PySem.W.instObj C dx)
 ns:h.Ns1 dx mA
 ne:dx ≠ x
theorem qW{dx:Addr}{mA:Str->Option Value}(n:h.Ns1 dx mA):∃ od,h.get? dx=some od /\ ∀ name,PySem.W.lookIn name od=some (mA name):=by
 obtain ⟨o,es,ep,ho,hd,hk,_,hm⟩:=n
 refine ⟨o,ho,λ name=>?_⟩
 have e:=hm name
 unfold nsFind findBy at e
 rw [<- Array.find?_toList] at e
 unfold PySem.W.lookIn
 rw [hd]
 dsimp only
 split
 ·rename_i y q
  rw [q] at e
  exact congrArg some e
 ·rename_i q
  rw [q] at e
  have a:es.toList.any (·.refKey)=false:=by
   rw [List.any_eq_false]
   intro y hy
   obtain ⟨z,t,hkey⟩:=hk y (Array.mem_toList_iff.mp hy)
   simp [DictEntry.refKey,hkey]
  have a':¬ es.toList.any (·.refKey)=true:=by rw [a]; exact j0
  rw [if_neg a']
  exact congrArg some e
theorem LA.look{x dx:Addr}{mA:Str->Option Value}(I:LA h x dx C mA):∃ od,PySem.W.InstAt h x (PySem.W.instObj C dx) C (some od) /\ ∀ name,PySem.W.lookIn name od=some (mA name) :=
 let ⟨od,ho,hl⟩:=qW I.ns
 ⟨od,⟨I.obj,rfl,rfl,ho⟩,hl⟩
section
variable {prog:Program}{w:World}{A:Around}{E:Value->Shared->Prop}{s:Shared}{K:az}{x dx C f:Addr}{mA:Str->Option Value}{name:Str}{v:Value}
end
theorem iK.some_of{o:Option Value}(r:iK (some v) o):∃ u,o=some u /\ RelV v u:=by
 cases o with
 | none=>exact (show False from r).elim
 | some u=>exact ⟨u,rfl,r⟩
theorem AY(r:RelV v u):PySem.W.handedIn u=true:=by
 cases v with
 | bZ=>cases (show u=Value.none from r); rfl
 | bl b=>cases (show u=Value.bool b from r); rfl
 | int i=>obtain ⟨t,e⟩:=(show ∃ t,u=Value.int i t from r); cases e; rfl
 | str x=>obtain ⟨t,e⟩:=(show ∃ t,u=Value.str x t from r); cases e; rfl
 | CB b=>obtain ⟨t,e⟩:=(show ∃ t,u=Value.bytes b t from r); cases e; rfl
 | Lb b=>obtain ⟨t,e⟩:=(show ∃ t,u=Value.float b t from r); cases e; rfl
 | ref a=>cases (show u=Value.ref a from r); rfl
 | ty n=>cases (show u=Value.type n from r); rfl
section
variable {P:Program}{w:World}{H H':Hp}{h h':Heap}{a C dx:Addr}{fs fs':List (Str × V)}
theorem GF(hok:j3 P w H h)(e:H a=some (.ins C dx fs)):∃ mA,LA h a dx C mA /\ (∀ f,iK (fs.lookup f) (mA f)) /\ PySem.Within mA (fs.map (·.1)) /\ fs.length <= 1000 /\ H dx=some (.own a):=by
 obtain ⟨d,z,ne,ob,mA,n,r,q⟩:=(show bT P w H h a (.ins C dx fs) from hok a _ e)
 exact ⟨mA,⟨ob,n,ne⟩,r,q,z,d⟩
end
structure Ve (K:az) (C:Addr):Prop where
 pg:PySem.W.plainGet K C Str.empty=true
 hd:PySem.W.hasDictIn K C=true
 po:PySem.W.plainOver K C=true
 sa:PySem.W.findIn K (.ref C) "__setattr__" = some (some (.builtin "object.__setattr__"))
theorem Ve.get(c:Ve K C)(f:Str):PySem.W.plainGet K C f=true:=c.pg
section
variable {X:Cx}{pins:List (Addr × Obj)}{σ:St}{H:Hp}{s:Shared}{a C dx:Addr}{fs:List (Str × V)}{f:Str}{v:V}{A:Around}{E:Value->Shared->Prop}
theorem Inv.made(I:Inv X pins σ H s):Inv X pins σ (upd (upd H s.heap.objs.size (.own (s.heap.objs.size + 1))) (s.heap.objs.size + 1) (.ins C s.heap.objs.size []))
  { s with heap:=(s.heap.push PySem.W.emptyDict).push (PySem.W.instObj C s.heap.objs.size) }:=by
 have e1:(s.heap.push PySem.W.emptyDict).get? s.heap.objs.size=some PySem.W.emptyDict:=fK s.heap rfl
 have e2:((s.heap.push PySem.W.emptyDict).push (PySem.W.instObj C s.heap.objs.size)).get? (s.heap.objs.size + 1)=some (PySem.W.instObj C s.heap.objs.size):=by
  have:=fK (s.heap.push PySem.W.emptyDict) (o:=PySem.W.instObj C s.heap.objs.size) rfl
  rwa [dI] at this
 have e3:(s.heap.push PySem.W.emptyDict).Ns s.heap.objs.size (λ _=>none):=⟨PySem.W.emptyDict,#[],_,e1,rfl,(λ e he=>absurd he (by simp)),λ _=>rfl⟩
 have I1:=I.laid (a:=s.heap.objs.size) (o:=.own (s.heap.objs.size + 1)) (h':=s.heap.push PySem.W.emptyDict) (t':=s.toks) (λ b u q=>bO _ q) (ay _) ⟨_,e1⟩
 refine I1.laid (a:=s.heap.objs.size + 1) (o:=.ins C s.heap.objs.size []) (t':=s.toks) (λ b u q=>bO _ q) (Nat.le_of_eq (dI _ _)) ?_
 have ne:s.heap.objs.size ≠ s.heap.objs.size + 1:=aM (kr _)
 refine ⟨by rw [aR ne,cL],aO _,ne,e2,λ _=>none,(Heap.Ns1.of_empty e3).at λ o q=>bO _ q,λ _=>dO,λ y hy=>absurd rfl hy⟩
theorem GG{prog:Program}{env:Env}{f:Str}{s:Shared}(hb:attributeBase e f env (eval e env)=eval e env)
  (h:wpAny (model prog w) A (eval e env) (λ o s₁=>wpAny (model prog w) A (getAttr o f true) Q E s₁) E s):wpAny (model prog w) A (eval (.Attribute e f pos) env) Q E s :=
 Attribute_any_ h (by rw [arm_eval_Attribute,hb])
end
def Pz(X:Cx)(op:Operator)(rd:V->V->Hp->VK->Prop):Prop :=
 ∀ (pins:List (Addr × Obj)) (s:Shared) (σ:St) (H:Hp) (x y:V) (u v:Value) (Q:VK),Inv X pins σ H s->RelV x u->RelV y v->rd x y H Q->wpAny (model X.prog X.w) X.A (inplaceOp op u v) (EP X pins σ Q) X.xe s
section
variable {X:Cx}{o e value:Expr}{f:Str}{pos pos' tpos:Pos}{ta tv:TE}
def PB:V->V->Hp->VK->Prop:=λ x y H Q=>∃ i j,x=.int i /\ y=.int j /\ Q (.int (i - j)) H
theorem LB:Pz X .Sub PB:=by
 rintro pins s σ H x y u v Q I rx ry ⟨i,j,rfl,rfl,q⟩
 obtain ⟨t,rfl⟩:=(show ∃ t,u=Value.int i t from rx)
 obtain ⟨t',rfl⟩:=(show ∃ t',v=Value.int j t' from ry)
 exact PyProof.Rows.isub_int ⟨.int (i - j),H,I.tok _,⟨_,rfl⟩,q⟩
end
section
variable {X:Cx}{pins:List (Addr × Obj)}{σ:St}{H:Hp}{s:Shared}{A:Around}{E:Value->Shared->Prop}{Q:Value->Shared->Prop}{c:Value}{b:Bool}
inductive gC (K:az) (H:Hp):V->Value->Prop where
 | bZ:gC K H .bZ (.type "NoneType")
 | bl (x:Bool):gC K H (.bl x) (.type "bool")
 | int (i:Int):gC K H (.int i) (.type "int")
 | str (x:Str):gC K H (.str x) (.type "str")
 | Lb (x:UInt64):gC K H (.Lb x) (.type "float")
 | lst {a:Addr} {xs:List V} (e:H a=some (.lst xs)):gC K H (.ref a) (.type "list")
 | zm {a:Addr} {o:Obj} {xs:List V} (e:H a=some (.zm o (.lst xs))):gC K H (.ref a) (.type "list")
 | tup {a:Addr} {xs:List V} (e:H a=some (.tup xs)):gC K H (.ref a) (.type "tuple")
 | dK {a:Addr} {kvs:List (Key × V)} (e:H a=some (.dK kvs)):gC K H (.ref a) (.type "dict")
 | dT {a:Addr} {kvs:List (List Key × V)} (e:H a=some (.dT kvs)):gC K H (.ref a) (.type "dict")
 | ins {a C dx:Addr} {fs:List (Str × V)} (e:H a=some (.ins C dx fs)) (cl:Ve K C) (ha:PySem.W.findIn K (.ref C) "__class__" = some (some (.builtin "object.__class__")))
   (hn:PySem.W.specialIn K (.builtin "object.__class__") "__get__" = some (some (.builtin "getset_descriptor.__get__"))) (htk:PySem.W.takesIn K (.builtin "object.__class__")=some true)
   (hm:PySem.W.mroIn K C (.type "object")=some true):gC K H (.ref a) (.ref C)
theorem AZ{x:V}{t:Value}(I:Inv X pins σ H s)(rx:RelV x u)(ty:gC X.K H x t)(e:PySem.W.kitOne X.K t c=some b)(h:∀ tk,Q (.bool b) { s with toks:=tk }):
  wpAny (model X.prog X.w) A (call (.builtin "isinstance") [u,c]) Q E s:=by
 cases ty with
 | bZ=>cases (show u=Value.none from rx); exact dN PySem.W.kitx_none I.jc dO e (λ z=>nomatch z) h
 | bl y=>cases (show u=Value.bool y from rx); exact dN PySem.W.kitx_bool I.jc dO e (λ z=>nomatch z) h
 | int i=>obtain ⟨t,q⟩:=(show ∃ t,u=Value.int i t from rx); cases q; exact dN PySem.W.kitx_int I.jc dO e (λ z=>nomatch z) h
 | str y=>obtain ⟨t,q⟩:=(show ∃ t,u=Value.str y t from rx); cases q; exact dN PySem.W.kitx_str I.jc dO e (λ z=>nomatch z) h
 | Lb y=>obtain ⟨t,q⟩:=(show ∃ t,u=Value.float y t from rx); cases q; exact dN PySem.W.kitx_float I.jc dO e (λ z=>nomatch z) h
 | @lst a xs ea =>
  cases (show u=Value.ref a from rx)
  obtain ⟨_,_,n,_,h1⟩:=(show bT X.prog X.w H s.heap a (.lst xs) from I.hok a _ ea)
  exact dN PySem.W.kitx_list I.jc ⟨_,h1,rfl⟩ e (λ z=>nomatch z) h
 | @zm a ob xs ea =>
  cases (show u=Value.ref a from rx)
  obtain ⟨_,_,_,n,_,h1⟩:=(show bT X.prog X.w H s.heap a (.zm ob (.lst xs)) from I.hok a _ ea)
  exact dN PySem.W.kitx_list I.jc ⟨_,h1,rfl⟩ e (λ z=>nomatch z) h
 | @tup a xs ea =>
  cases (show u=Value.ref a from rx)
  obtain ⟨_,_,_,p⟩:=(show bT X.prog X.w H s.heap a (.tup xs) from I.hok a _ ea)
  obtain ⟨o,h1,h2,_⟩:=p
  exact dN PySem.W.kitx_tuple I.jc ⟨o,h1,h2⟩ e (λ z=>nomatch z) h
 | @dK a kvs ea =>
  cases (show u=Value.ref a from rx)
  obtain ⟨_,_,vs,_,p⟩:=(show bT X.prog X.w H s.heap a (.dK kvs) from I.hok a _ ea)
  obtain ⟨o,es,ep,h1,h2,_⟩:=p
  exact dN PySem.W.kitx_dict I.jc ⟨o,h1,h2.1⟩ e (λ z=>nomatch z) h
 | @dT a kvs ea =>
  cases (show u=Value.ref a from rx)
  obtain ⟨_,_,xs,_,o,es,ep,h1,h2,_⟩:=(show bT X.prog X.w H s.heap a (.dT kvs) from I.hok a _ ea)
  exact dN PySem.W.kitx_dict I.jc ⟨o,h1,h2.1⟩ e (λ z=>nomatch z) h
 | @ins a C dx fs ea cl ha hn htk hm =>
  cases (show u=Value.ref a from rx)
  obtain ⟨mA,O,_⟩:=GF I.hok ea
  obtain ⟨od,J,_⟩:=O.look
  exact dN (PySem.W.kitx_own (cl.get _) cl.hd ha hn htk hm) I.jc J e (λ z=>nomatch z) h
end
structure ef (k:Nat) (A:Around):Prop where
 hd:A.handled=none
 dp:A.depth + 3 * k + 5 < recursionLimit
 un:A.units + 16 * k + 200 < cLine
theorem ef.mono{j k:Nat}{A:Around}(r:ef k A)(h:j <= k):ef j A:=⟨r.hd,by have:=r.dp; omega,by have:=r.un; omega⟩
theorem ef.deeper(r:ef (k + 1) A)(env:Env):ef k (A.deeper env) :=
 ⟨r.hd,by have:=r.dp; show A.depth + 1 + 3 * k + 5 < _; omega,by have:=r.un; show A.units + 3 + 16 * k + 200 < _; omega⟩
theorem ef.in1(r:ef (k + 1) A):ef k A.in1 :=
 ⟨r.hd,by have:=r.dp; show A.depth + 3 * k + 5 < _; omega,by have:=r.un; show A.units + 1 + 16 * k + 200 < _; omega⟩
theorem xM{kw:List (Str × Value)}:(A.under (.builtin "type.__call__" ⟨.ref C :: us,kw⟩)).depth=A.depth + 1:=by
 first | rfl | simp [Around.under,Code.weight,Code.isCreation,Code.isGuard,Code.isCaller,Code.frames,Code.isFrame,guardIds]
theorem xN{kw:List (Str × Value)}:(A.under (.builtin "type.__call__" ⟨.ref C :: us,kw⟩)).units=A.units + 1:=by
 first | rfl | simp [Around.under,Code.cUnits,Code.frames,Code.isFrame]
theorem ef.make(r:ef (k + 1) A)(C:Addr)(us:List Value)(kw:List (Str × Value)):ef k (A.under (.builtin "type.__call__" ⟨.ref C :: us,kw⟩)) :=
 ⟨r.hd,by have:=r.dp; rw [xM]; omega,by have:=r.un; rw [xN]; omega⟩
theorem ef.depth(r:ef k A):A.depth < recursionLimit:=by have:=r.dp; omega
theorem ef.units(r:ef k A):A.units + 64 < cLine:=by have:=r.un; omega
def PD:TA:=λ _ H Q=>Q [] H
def JJ(ta:TE)(tr:TA):TA:=λ σ H Q=>ta σ H λ x H1=>tr σ H1 λ xs H2=>Q (x :: xs) H2
section
variable {X:Cx}{e:Expr}{es:List Expr}{te:TE}{t:TA}{pos:Pos}
theorem ai:PA X [] PD:=λ _ _ _ _ H Q I h=>Calls.spliced_nil ⟨[],H,I,.nil,h⟩
theorem aa(ha:PE X e te)(hr:PA X es t)(hs:starEach (e :: es) X.env=(false,eval e X.env) :: starEach es X.env:=by rfl):PA X (e :: es) (JJ te t):=by
 intro pos pins s σ H Q I h
 rw [hs]
 show wpAny _ _ (spliced ((false,eval e X.env) :: backTo pos (starEach es X.env))) _ _ s
 refine Calls.spliced_cons (bV (ha pins s σ H _ I h) λ u s1 ⟨x,H1,I1,r1,q1⟩=>?_)
 exact bV (hr pos pins s1 σ H1 _ I1 q1) λ us s2 ⟨xs,H2,I2,r2,q2⟩=>⟨x :: xs,H2,I2,.cons r1 r2,q2⟩
def PJ(t:TA):TE:=λ σ H Q=>t σ H λ xs H1=>xs.length <= sizeLine /\ ∀ p,H1 p=none->Q (.ref p) (upd H1 p (.tup xs))
def PK(t:TA):TE:=λ σ H Q=>t σ H λ xs H1=>xs.length <= sizeLine /\ ∀ p,H1 p=none->Q (.ref p) (upd H1 p (.lst xs))
theorem c9{x1}(h:PA X es t):PE X (.Tuple es x1 pos) (PJ t):=by
 intro pins s σ H Q I hq
 refine wpAny_Tuple_spliced (bV (h pos pins s σ H _ I hq) λ us s1 ⟨xs,H1,I1,r,z,q⟩=>⟨by rw [<- r.length]; exact z,?_⟩)
 have hf:H1 s1.heap.objs.size=none:=I1.hok.fresh (ay _)
 refine ⟨.ref s1.heap.objs.size,upd H1 s1.heap.objs.size (.tup xs),I1.laid (t':=s1.toks) (λ b u e=>bO _ e) (ay _) ?_,rfl,q _ hf⟩
 exact ⟨z,us,r,⟨_,fK _ rfl,rfl,_,rfl⟩⟩
theorem eZ(h:PA X es t):PE X (.List es pos) (PK t):=by
 intro pins s σ H Q I hq
 refine wpAny_List_spliced (bV (h pos pins s σ H _ I hq) λ us s1 ⟨xs,H1,I1,r,z,q⟩=>⟨by rw [<- r.length]; exact z,?_⟩)
 have hf:H1 s1.heap.objs.size=none:=I1.hok.fresh (ay _)
 refine ⟨.ref s1.heap.objs.size,upd H1 s1.heap.objs.size (.lst xs),I1.laid (t':=s1.toks) (λ b u e=>bO _ e) (ay _) ?_,rfl,q _ hf⟩
 exact ⟨z,us,0,r,fK _ rfl⟩
end
abbrev Sp:=List V->Hp->VK->XK->Prop
abbrev xO:=List Env->Hp->Shared->XK->Value->Shared->Prop
structure qE (P:Program) (w:World) (K:az) (mg:Str->Option Value) (base:Heap) (A:Around) (outer:List Env) (s:Shared) (H:Hp):Prop where
 frames:A.frames=some outer
 mod:Mod K mg base
 bs:∀ b o,base.get? b=some o->s.heap.get? b=some o /\ H b=none
 CC:base.objs.size <= s.heap.objs.size
 kB:s.heap.FunFrames base outer
 Gf:∀ b∈frs outer,H b=none
 hok:j3 P w H s.heap
 bare:AllBare s.gens
def CE(outer:List Env)(P:Program)(w:World)(H:Hp)(s:Shared)(Q:VK)(u:Value)(s':Shared):Prop :=
 ∃ v H',s'.os=s.os /\ AllBare s'.gens /\ Un (frs outer) [] H H' s.heap s'.heap /\ j3 P w H' s'.heap /\ RelV v u /\ Q v H'
def CR(CX:xO)(outer:List Env)(P:Program)(w:World)(H:Hp)(s:Shared)(Q:VK)(E:XK)(r:Result)(s':Shared):Prop :=
 match r with
 | .ok (.ret u)=>CE outer P w H s Q u s'
 | .ok _=>False
 | .error e=>CX outer H s E e s'
structure bN (P:Program) (w:World) (K:az) (mg:Str->Option Value) (base:Heap) (CX:xO) (k:Nat) (f:Addr) (fd:FuncData) (ps:List Str) (sp:Sp):Prop where
 len:∀ vs H Q E,sp vs H Q E->vs.length=ps.length
 run:∀ (A:Around) (outer:List Env) (s:Shared) (H:Hp) (args:Args) (us:List Value) (vs:List V) (Q:VK) (E:XK),ef k A->qE P w K mg base A outer s H->BindsTo s fd args (ps.zip us)->Vals vs us->sp vs H Q E ->
  codeAny (model P w) A (.call (.ref f) args) (CR CX outer P w H s Q E) s
theorem bN.mono{P:Program}{w:World}{K:az}{mg:Str->Option Value}{base:Heap}{CX:xO}{j k:Nat}{f:Addr}{fd:FuncData}{ps:List Str}{sp:Sp}(F:bN P w K mg base CX j f fd ps sp)(h:j <= k):
  bN P w K mg base CX k f fd ps sp:=⟨F.len,λ A outer s H args us vs Q E hr=>F.run A outer s H args us vs Q E (hr.mono h)⟩
theorem bN.imp{f:Addr}{fd:FuncData}{sp X5:Sp}(F:bN P w K mg base CX k f fd ps sp)
  (h:∀ vs H Q E,X5 vs H Q E->sp vs H Q E):bN P w K mg base CX k f fd ps X5 :=
 ⟨λ vs H Q E q=>F.len vs H Q E (h _ _ _ _ q),λ A outer s H args us vs Q E hr he hb hv hs=>F.run A outer s H args us vs Q E hr he hb hv (h _ _ _ _ hs)⟩
theorem qE.make(e:qE P w K mg base A outer s H)(C:Addr)(us:List Value)(kw:List (Str × Value)):
  qE P w K mg base (A.under (.builtin "type.__call__" ⟨.ref C :: us,kw⟩)) outer s H:=⟨by first | exact e.frames | (simpa [Around.under,Code.envs,Code.isFrame,pushEnvs] using e.frames),e.mod,e.bs,e.CC,e.kB,e.Gf,e.hok,e.bare⟩
theorem qE.in1(e:qE P w K mg base A outer s H):
  qE P w K mg base A.in1 outer s H:=⟨e.frames,e.mod,e.bs,e.CC,e.kB,e.Gf,e.hok,e.bare⟩
section
variable {X:Cx}{pins:List (Addr × Obj)}{σ:St}{H:Hp}{s s':Shared}
theorem Inv.LC(I:Inv X pins σ H s):qE X.prog X.w X.K X.mg X.base X.A X.stack s H :=
 ⟨I.ok.frames,I.ok.mod,I.bs,bq I.ok.CC I.sz,I.stack,I.nO,I.hok,I.bare⟩
theorem Inv.after{Q:VK}(I:Inv X pins σ H s)(h:CE X.stack X.prog X.w H s Q u s'):EP X pins σ Q u s':=by
 obtain ⟨v,H',os,bare,un,hok,r,q⟩:=h
 obtain ⟨hh,g,d,t,os'⟩:=s'
 obtain rfl:os'=s.os:=os
 exact ⟨v,H',I.call (h':=hh) (g':=g) (d':=d) (t':=t) (ch:=[]) un hok bare (λ b z=>absurd z (by simp)),r,q⟩
end
def C3(sp:Sp)(JK:List V)(E:XK)(t:TA):TE:=λ σ H Q=>t σ H λ vs H1=>sp (vs++JK) H1 Q E
def Binds(K:az)(fd:FuncData)(ps:List Str)(ds:List Value):Prop :=
 ∀ (s:Shared) (us:List Value),K.In s.heap->(us++ds).length=ps.length->BindsTo s fd ⟨us,[]⟩ (ps.zip (us++ds))
theorem Binds.all{fd:FuncData}(h:∀ us:List Value,us.length=ps.length->bindArgs fd ⟨us,[]⟩=pure (ps.zip us)):Binds K fd ps []:=λ s us _ hl=>by
 rw [dY] at hl ⊢
 exact .of_eq (h us hl)
def Passes(CX:xO)(X:Cx)(E:XK):Prop:=∀ (pins:List (Addr × Obj)) (σ:St) (H:Hp) (s:Shared) (e:Value) (s':Shared),Inv X pins σ H s->CX X.stack H s E e s'->X.xe e s'
section
variable {X:Cx}{CX:xO}{k:Nat}{f C:Addr}{fd:FuncData}{ps:List Str}{sp:Sp}{JK:List V}{ds:List Value}{E:XK}{x m:Str}{p pos apos:Pos}{e o:Expr}{es:List Expr}{ta:TE}{t:TA}
theorem LD{σ:St}{Q:VK}{vs:List V}(F:bN X.prog X.w X.K X.mg X.base CX k f fd ps sp)(hr:ef k X.A)(hb:Binds X.K fd ps ds)(hd:Vals JK ds)(hx:Passes CX X E)
  (I:Inv X pins σ H s)(r:Vals vs us)(h:sp (vs++JK) H Q E):wpAny (model X.prog X.w) X.A (call (.ref f) us) (EP X pins σ Q) X.xe s:=by
 have r2:Vals (vs++JK) (us++ds):=r.append hd
 have hl:(us++ds).length=ps.length:=by rw [<- r2.length]; exact F.len _ _ _ _ h
 refine wpAny_call (codeAny_mono (F.run X.A X.stack s H ⟨us,[]⟩ (us++ds) (vs++JK) Q E hr I.LC (hb s us I.jc hl) r2 h) λ r s' hq=>?_)
 cases r with
 | error e=>exact hx pins σ H s e s' I hq
 | ok fl =>
  cases fl with
  | ret u=>exact I.after hq
  | next=>exact False.elim hq
  | brk=>exact False.elim hq
  | cont=>exact False.elim hq
theorem GH(F:bN X.prog X.w X.K X.mg X.base CX k f fd ps sp)(hr:ef k X.A)(hg:Gl X x)(hm:X.mg x=some (.ref f))(hk:PySem.W.keepIn X.K (.ref f)=true)(hb:Binds X.K fd ps ds)(hd:Vals JK ds)(hx:Passes CX X E)
  (ha:PA X (e :: es) t)(hdb:(x == ("__debug__" : Str))=false:=by decide)(he:starEach (e :: es) X.env=(false,eval e X.env) :: starEach es X.env:=by rfl)(hpl:(backTo pos (starEach es X.env)).any (·.1)=false:=by rfl):
  PE X (.Call (.Name x p) (e :: es) [] pos) (C3 sp JK E t):=by
 intro pins s σ H Q I h
 refine wpAny_Call_Name_kw (jK I hg hm ?_ hdb)
 refine PySem.W.callWith_K (h₀:=X.base) I.ok.mod.Ld hk (bV (ha pos pins s σ H _ I h) λ us s1 ⟨vs,H1,I1,r,q⟩=>⟨I1.jc,?_⟩) he hpl
 exact LD F hr hb hd hx I1 r q
end
section
variable {X:Cx}{CX:xO}{k:Nat}{f C:Addr}{fd:FuncData}{ps ks:List Str}{sp:Sp}{E:XK}{x m:Str}{p pos apos kpos:Pos}{e o:Expr}{es:List Expr}{kws:List Keyword}{te ta:TE}{t tk:TA}{nm:Option Str}
variable {g:List Value->List Value->List Value}{gV:List V->List V->List V}
end
structure aP (N P:List Str) (sc:Scope):Prop where
 kind:sc.kind=.function
 co:sc.isCoroutine=false
 gen:sc.isGenerator=false
 nd:N.Nodup
 pre:N.take P.length=P
 par:∀ x∈P,sc.names.lookup x=some .local \/ sc.names.lookup x=some .cell
 LF:∀ y∈sc.names,y.2 ≠ .free
theorem qX{kindOf:Str->Option NameKind}{x:Str}:∀ {binds:List (Str × Value)} {m:Str->Option Value},(∀ v,(x,v) ∉ binds)->bindL kindOf binds m x=m x
 | [],_,_=>rfl
 | (n,v) :: r,m,h=>by
  unfold bindL
  rw [qX λ w hw=>h w (cX _ hw)]
  split
  ·have:x ≠ n:=by rintro rfl; exact h v gc
   simp [this]
  ·rfl
theorem qY{kindOf:Str->Option NameKind}{x:Str}:∀ {binds:List (Str × Value)} {m:Str->Option Value},(∀ v,(x,v) ∉ binds)->bindC kindOf binds m x=m x
 | [],_,_=>rfl
 | (n,v) :: r,m,h=>by
  unfold bindC
  rw [qY λ w hw=>h w (cX _ hw)]
  split
  ·rfl
  ·have:x ≠ n:=by rintro rfl; exact h v gc
   simp [this]
theorem qZ{kindOf:Str->Option NameKind}{x:Str}{v:Value}:∀ {P:List Str} {vs:List Value} {i:Nat} {m:Str->Option Value},P.Nodup->P[i]? = some x->vs[i]? = some v->kindOf x=some .local ->
  bindL kindOf (P.zip vs) m x=some v
 | [],_,_,_,_,h,_,_=>by simp at h
 | _ :: _,[],_,_,_,_,h,_=>by simp at h
 | p :: P,w :: vs,0,m,nd,h1,h2,hk=>by
  simp at h1 h2; subst h1; subst h2
  show bindL kindOf ((p,w) :: P.zip vs) m p=_
  unfold bindL
  rw [qX λ v hv=>(gf.mp nd).1 (List.of_mem_zip hv).1,if_pos hk]
  simp
 | p :: P,w :: vs,i + 1,m,nd,h1,h2,hk=>by
  show bindL kindOf ((p,w) :: P.zip vs) m x=_
  unfold bindL
  exact qZ (i:=i) (gf.mp nd).2 (by simpa using h1) (by simpa using h2) hk
theorem rf{kindOf:Str->Option NameKind}{x:Str}{v:Value}:∀ {P:List Str} {vs:List Value} {i:Nat} {m:Str->Option Value},P.Nodup->P[i]? = some x->vs[i]? = some v->kindOf x ≠ some .local ->
  bindC kindOf (P.zip vs) m x=some v
 | [],_,_,_,_,h,_,_=>by simp at h
 | _ :: _,[],_,_,_,_,h,_=>by simp at h
 | p :: P,w :: vs,0,m,nd,h1,h2,hk=>by
  simp at h1 h2; subst h1; subst h2
  show bindC kindOf ((p,w) :: P.zip vs) m p=_
  unfold bindC
  rw [qY λ v hv=>(gf.mp nd).1 (List.of_mem_zip hv).1,if_neg hk]
  simp
 | p :: P,w :: vs,i + 1,m,nd,h1,h2,hk=>by
  show bindC kindOf ((p,w) :: P.zip vs) m x=_
  unfold bindC
  exact rf (i:=i) (gf.mp nd).2 (by simpa using h1) (by simpa using h2) hk
def start(N:List Str)(vs:List V):St:=vs.map some++List.replicate (N.length - vs.length) none
def nF(CX:xO)(P:Program)(w:World)(K:az)(mg:Str->Option Value)(base:Heap)(N:List Str)(qual:Str)(scope:Scope)(f:Addr)(cd:Value)(A:Around)(outer:List Env)(s:Shared)(H:Hp)(E:XK):Cx where
 prog:=P
 w:=w
 K:=K
 mg:=mg
 base:=base
 A:=A.deeper (envOfC qual scope s.heap.objs.size f cd)
 N:=N
 s₀:=s
 H₀:=H
 env:=envOfC qual scope s.heap.objs.size f cd
 outer:=outer
 stack:=envOfC qual scope s.heap.objs.size f cd :: outer
 ex:=[]
 calm:=true
 fn:=λ _=>true
 pn:=[]
 xe:=λ e s'=>wpAny (model P w) (A.deeper (envOfC qual scope s.heap.objs.size f cd)) (leaving (envOfC qual scope s.heap.objs.size f cd) e) (λ _ s''=>CX outer H s E e s'') (λ e' s''=>CX outer H s E e' s'') s'
theorem ux{sc:Scope}(h:sc.names.lookup x=some .cell):∃ c,(cellsFrom n sc.names []).lookup x=some c:=by
 have q:=PySem.W.cellsFrom_some sc.names n [] (.inl h)
 exact Option.isSome_iff_exists.mp q
theorem A0{qual:Str}{scope:Scope}{f:Addr}{cd:Value}{s1:Shared}{E:XK}{vs:List V}
  (S:aP N ps scope)(hd:A.handled=none)(e0:qE P w K mg base A outer s H)(hl:vs.length=ps.length)(r:Vals vs us)
  (x:InCallC s s.heap.objs.size (bindL (envOfC qual scope s.heap.objs.size f cd).kindOf (ps.zip us) λ _=>none) (cellsFrom (s.heap.objs.size + 1) scope.names []) (bindC (envOfC qual scope s.heap.objs.size f cd).kindOf (ps.zip us) λ _=>none) s1):
  Inv (nF CX P w K mg base N qual scope f cd A outer s H E) [] (start N vs) H s1:=by
 have hpl:ps.length <= N.length:=by have:=congrArg List.length S.pre; rw [bQ] at this; omega
 obtain ⟨h1,tk,rfl,hk⟩:=x.done
 have PL:∀ b:Addr,b ∉ (nF CX P w K mg base N qual scope f cd A outer s H E).ex:=λ b z=>absurd (show b∈([]:List Addr) from z) (by simp)
 refine ⟨⟨e0.mod,S.kind,rfl,rfl,ay _,λ y z c h1 h2=>?_,λ y hy=>?_,λ y c _ h=>?_,λ _=>hd,Around.frames_deeper e0.frames,.inr ⟨rfl,rfl⟩,λ b z=>absurd z (PL b),e0.bs,e0.CC,λ b _ _=>PL b,λ b z=>absurd z (PL b),e0.kB,e0.Gf⟩,
  rfl,e0.bare,Un.kept hk,⟨_,x.toInCall.ns,λ i y v h1 h2 h3=>?_⟩,λ y c h=>⟨_,x.cell y c h⟩,e0.hok.fresh (ay _),λ y c h=>?_,λ p hp=>absurd (show p∈([]:List (Addr × Obj)) from hp) (by simp),e0.hok.kept hk,?_⟩
 ·exact name_of_addr x.apart (gF h1) (gF h2)
 ·have hy:scope.names.lookup y=some .cell \/ scope.names.lookup y=some .free:=hy
  rcases hy with hy | hy
  ·exact ux hy
  ·exact absurd rfl (S.LF _ (gF hy))
 ·exact g7 (x.above y c (gF h))
 ·have hi:i < vs.length:=by
   unfold start at h2
   by_cases hi:i < vs.length
   ·exact hi
   ·rw [sD (by simpa using hi)] at h2
    rw [List.getElem?_replicate] at h2
    split at h2 <;> cases h2
  have ha:vs[i]? = some v:=by
   unfold start at h2
   rw [List.getElem?_append_left (by simpa using hi),bh] at h2
   cases e:vs[i]? with
   | none=>rw [e] at h2; cases h2
   | some a=>rw [e] at h2; cases h2; rfl
  obtain ⟨u,hu,rv⟩:=r.get ha
  have hp:ps[i]? = some y:=by
   rw [<- S.pre,oU (by omega)]; exact h1
  have X6:ps.Nodup:=by rw [<- S.pre]; exact S.nd.sublist (List.take_sublist _ _)
  refine ⟨u,rv,?_⟩
  rcases S.par y (fL hp) with k | k
  ·exact .inl ⟨k,qZ X6 hp hu k⟩
  ·obtain ⟨c,e⟩:=ux (n:=s.heap.objs.size + 1) k
   refine .inr ⟨.inl k,c,e,?_⟩
   have q:=x.cell y c e
   rw [rf X6 hp hu (by show scope.names.lookup y ≠ _; rw [k]; decide)] at q
   exact q
 ·exact e0.hok.fresh (g7 (x.above y c (gF h)))
 ·unfold start
  show _=N.length
  rw [aX,au,List.length_replicate]
  omega
theorem C4{f:Addr}{name qual:Str}{params:Arguments}{scope:Scope}{dV kV doc pm cdv ct oc:Value}{an od:Option Addr}
  {osl:Array (Option Value)}{sp:Sp}(lk:K.lookup f=some ⟨oc,od,.func (PySem.W.fnOf name qual params body scope dV kV doc pm an cdv ct),osl⟩)(hcd:PySem.W.codeIn K cdv qual=true)(S:aP N ps scope)
  (len:∀ vs H Q E,sp vs H Q E->vs.length=ps.length)
  (hbody:∀ (A:Around) (outer:List Env) (s:Shared) (H:Hp) (vs:List V) (Q:VK) (E:XK),ef k (A.deeper (envOfC qual scope s.heap.objs.size f cdv))->sp vs H Q E ->
   ∃ t,nE (nF CX P w K mg base N qual scope f cdv A outer s H E) body t /\ t { nx:=λ _ H'=>Q .bZ H',rt:=Q } (start N vs) H):
  bN P w K mg base CX (k + 1) f (PySem.W.fnOf name qual params body scope dV kV doc pm an cdv ct) ps sp:=by
 refine ⟨len,λ A outer s H args us vs Q E hr e0 hb r zu=>?_⟩
 have hl:=len _ _ _ _ zu
 have KX:K.In s.heap:=e0.mod.Ld.keeps λ b o e=>(e0.bs b o e).1
 have lim:s.heap.NoLimit:=e0.mod.nolimit.keeps λ b o e=>(e0.bs b o e).1
 have hkind:∀ y∈ps.zip us,scope.names.lookup y.1=some .local \/ (scope.names.lookup y.1=some .cell /\ ((cellsFrom (s.heap.objs.size + 1) scope.names []).lookup y.1).isSome=true):=λ ⟨n,v⟩ hy=>by
  rcases S.par n (List.of_mem_zip hy).1 with q | q
  ·exact .inl q
  ·exact .inr ⟨q,PySem.W.cellsFrom_some _ _ _ (.inl q)⟩
 refine codeAny_call_function hr.depth (KX _ _ lk) rfl S.co S.gen rfl (PySem.W.codeRec_of KX hcd) (hb _ _ _ _ ?_)
 refine wpAny_newFunctionEnv_cells S.kind hkind λ env he s1 x=>?_
 subst he
 refine ⟨lim.keeps x.toInCall.keep,codeAny_func ?_⟩
 obtain ⟨t,ht,hq⟩:=hbody A outer s H vs Q E (hr.deeper _) zu
 have I:Inv (nF CX P w K mg base N qual scope f cdv A outer s H E) [] (start N vs) H s1:=A0 S hr.hd e0 hl r x
 refine wpAny_mono (ht [] s1 (start N vs) H _ I hq) (λ fl s' hs=>?_) λ e s' hs=>hs
 have fin:∀ {σ':St} {H':Hp} {v:V} {u:Value},Inv (nF CX P w K mg base N qual scope f cdv A outer s H E) [] σ' H' s'->RelV v u->Q v H'->CE outer P w H s Q u s' :=
  λ {σ' H' v u} J rv q=>⟨v,H',J.os,J.bare,J.base,J.hok,rv,q⟩
 cases fl with
 | ret u =>
  obtain ⟨v,σ',H',J,rv,q⟩:=hs
  exact fin J rv q
 | next =>
  obtain ⟨σ',H',J,q⟩:=hs
  exact fin (v:=V.bZ) (u:=Value.none) J rfl q
 | brk =>
  obtain ⟨_,_,_,q⟩:=hs
  exact False.elim q
 | cont =>
  obtain ⟨_,_,_,q⟩:=hs
  exact False.elim q
section
variable {X:Cx}{x:Str}{p pos:Pos}{e:Expr}{es:List Expr}{t:TA}{id T:String}{r:List V->Hp->VK->Prop}
def Vf(r:List V->Hp->VK->Prop)(t:TA):TE:=λ σ H Q=>t σ H λ vs H1=>r vs H1 Q
theorem bg(hc:cG X (.builtin id) r)(hg:Gl X x)(hm:X.mg x=none)(hv:bootBuiltins x=some (.builtin id))(ha:PA X (e :: es) t)(hn:x ≠ "__name__" := by decide)(hdb:(x == ("__debug__" : Str))=false:=by decide)
  (he:starEach (e :: es) X.env=(false,eval e X.env) :: starEach es X.env:=by rfl)(hpl:(backTo pos (starEach es X.env)).any (·.1)=false:=by rfl):PE X (.Call (.Name x p) (e :: es) [] pos) (Vf r t):=by
 intro pins s σ H Q I h
 refine wpAny_Call_Name_kw (kC I hg hm hv ?_ hn hdb)
 exact PyProof.Rows.callWith_builtin1 (bV (ha pos pins s σ H _ I h) λ us s1 ⟨vs,H1,I1,r1,q1⟩=>hc pins s1 σ H1 vs us Q I1 r1 q1) he hpl
theorem fY(hc:cG X (.type T) r)(hg:Gl X x)(hm:X.mg x=none)(hv:bootBuiltins x=some (.type T))(ha:PA X (e :: es) t)(hn:x ≠ "__name__" := by decide)(hdb:(x == ("__debug__" : Str))=false:=by decide)
  (he:starEach (e :: es) X.env=(false,eval e X.env) :: starEach es X.env:=by rfl)(hpl:(backTo pos (starEach es X.env)).any (·.1)=false:=by rfl):PE X (.Call (.Name x p) (e :: es) [] pos) (Vf r t):=by
 intro pins s σ H Q I h
 refine wpAny_Call_Name_kw (kC I hg hm hv ?_ hn hdb)
 exact nJ (bV (ha pos pins s σ H _ I h) λ us s1 ⟨vs,H1,I1,r1,q1⟩=>hc pins s1 σ H1 vs us Q I1 r1 q1) he hpl
end
end L2
namespace HT
open PySem PyProof.Rows
section
open PySem.SeqAt
open PySem.AutoSeq1 (wpAny_loadPart')
open PySem.MeetsSeq PySem.MeetsSeq2 PySem.MeetsSeq3
end
section
variable {prog:Program}{w:World}{A:Around}{E:Value->Shared->Prop}{s:Shared}
def dP(n d:Nat):Option Int->Nat
 | none=>d
 | some v=>if v < 0 then (v + (n:Int)).toNat else min v.toNat n
theorem C5(n d:Nat):dP n d none=d:=rfl
theorem sL(n d k:Nat):dP n d (some (k:Int))=min k n:=by
 show (if (k:Int) < 0 then ((k:Int) + (n:Int)).toNat else min (k:Int).toNat n)=min k n
 rw [if_neg (by omega),gT]
theorem LG(n d:Nat)(hd:d <= n)(o:Option Int):dP n d o <= n:=by
 cases o with
 | none=>exact hd
 | some v =>
  show (if v < 0 then (v + (n:Int)).toNat else min v.toNat n) <= n
  by_cases hv:v < 0
  ·rw [if_pos hv]; omega
  ·rw [if_neg hv]; exact Nat.min_le_right _ _
theorem zw(v:Int)(n d:Nat):(if v < 0 then max (v + (n:Int)) 0 else min v (n:Int))=((dP n d (some v):Nat):Int):=by
 show (if v < 0 then max (v + (n:Int)) 0 else min v (n:Int))=(((if v < 0 then (v + (n:Int)).toNat else min v.toNat n):Nat):Int)
 by_cases hv:v < 0
 ·simp only [if_pos hv]; omega
 ·simp only [if_neg hv]; omega
theorem xP(lo hi:Option Int)(n:Nat):Builtin.Slice.sliceAdjust lo hi 1 (n:Int)=(((dP n 0 lo:Nat):Int),((dP n n hi:Nat):Int)):=by
 have h1:¬ ((1:Int) < 0):=by omega
 unfold Builtin.Slice.sliceAdjust
 simp only [h1,if_false]
 refine Prod.ext ?_ ?_
 ·cases lo with
  | none=>rfl
  | some v=>exact zw v n 0
 ·cases hi with
  | none=>rfl
  | some v=>exact zw v n n
theorem xQ(i j:Nat):Builtin.Slice.slicePlaces (i:Int) (j:Int) 1=j - i:=by
 unfold Builtin.Slice.slicePlaces
 have h1:(1:Int) > 0:=by omega
 simp only [h1,if_true,Int.ediv_one]
 split <;> omega
theorem pB{v:Value}{o:Option Int}{Q:Option Int->Shared->Prop}(p:IsPart v o)(h:Q o s):wpAny (model prog w) A (Builtin.Slice.slicePartIndex v) Q E s:=by
 cases p with
 | none=>exact slicePart_none h
 | int i t=>exact slicePart_int h
theorem mF{sl:Addr}{vl vu:Value}{lo hi:Option Int}{n:Nat}{Q:Int × Int × Nat->Shared->Prop}(hs:s.heap.IsSliceOf sl vl vu .none)(pl:IsPart vl lo)(pu:IsPart vu hi)
  (h:Q (((dP n 0 lo:Nat):Int),1,dP n n hi - dP n 0 lo) s):wpAny (model prog w) A (Builtin.Slice.sliceApplied (.ref sl) (pure (n:Int))) Q E s:=by
 obtain ⟨os,hos,hcs,hds⟩:=id hs
 unfold Builtin.Slice.sliceApplied Builtin.Slice.sliceFields
 refine af (af (wpAny_field hos hds (x:=vl) rfl (af (wpAny_field hos hds (x:=vu) rfl (af (wpAny_field hos hds (x:=.none) rfl (aE ?_)))))))
 refine af (slicePart_none ?_)
 show wpAny _ _ (if ((1:Int) == 0)=true then _ else _) _ _ s
 rw [if_neg (by decide)]
 refine af (pB pl (af (pB pu (af (aE ?_)))))
 show wpAny _ _ (match Builtin.Slice.sliceAdjust lo hi 1 (n:Int) with | (lo,hi)=>pure (lo,(1:Int),Builtin.Slice.slicePlaces lo hi 1)) _ _ s
 rw [xP lo hi n]
 show wpAny _ _ (pure (((dP n 0 lo:Nat):Int),(1:Int),Builtin.Slice.slicePlaces ((dP n 0 lo:Nat):Int) ((dP n n hi:Nat):Int) 1)) _ _ s
 rw [xQ]
 exact aE h
theorem C6(xs:Array Value)(i k:Nat):((List.range k).filterMap λ (m:Nat)=>xs[((i:Int) + (m:Int) * 1).toNat]?).toArray=((xs.toList.drop i).take k).toArray:=by
 have e:(λ (m:Nat)=>xs[((i:Int) + (m:Int) * 1).toNat]?)=λ m=>xs[i + m]?:=by
  funext m
  have:((i:Int) + (m:Int) * 1).toNat=i + m:=by omega
  rw [this]
 rw [e]
 have:=pick_run xs i k
 rw [List.filterMap_map] at this
 have e2:((λ x=>xs[x]?) ∘ λ x=>i + x)=λ m=>xs[i + m]?:=rfl
 rw [e2] at this
 rw [this]
theorem kN{t sl:Addr}{items:Array Value}{vl vu:Value}{lo hi:Option Int}{Q:Value->Shared->Prop}(ht:IsTup s.heap t items)(hs:s.heap.IsSliceOf sl vl vu .none)(pl:IsPart vl lo)(pu:IsPart vu hi)
  (hw:¬ (dP items.size 0 lo=0 /\ dP items.size items.size hi=items.size))
  (h:Q (.ref s.heap.objs.size) { s with heap:=s.heap.push { cls:=.type "tuple", data:=.seq ((items.toList.drop (dP items.size 0 lo)).take (dP items.size items.size hi - dP items.size 0 lo)).toArray } })
  (hsz:items.size <= sizeLine):wpAny (model prog w) A (getItem (.ref t) (.ref sl)) Q E s:=by
 have zx:sizeOk (.seq ((items.toList.drop (dP items.size 0 lo)).take (dP items.size items.size hi - dP items.size 0 lo)).toArray):=by
  show ((items.toList.drop (dP items.size 0 lo)).take (dP items.size items.size hi - dP items.size 0 lo)).toArray.size <= sizeLine
  rw [aT,bQ,oY,cg]
  omega
 have hj:dP items.size items.size hi <= items.size:=LG _ _ (ay _) hi
 obtain ⟨os,hos,hcs,hds⟩:=id hs
 have Zo:s.TypeIs (.ref sl) "slice" := ⟨os,hos,hcs⟩
 unfold getItem
 try with_reducible refine wpAny_holding ?_
 first | refine af (aE ?_) | skip
 refine af (wpAny_sequenceKey ht.typeIs (by decide) ?_)
 refine af (wpAny_callSpecial?_slot (name:=Str.ofString "__getitem__") ht.typeIs PyProof.Rows.slot_tuple_getitem
  (wpAny_call_entry PyProof.Rows.slot_tuple_getitem ht.typeIs entry_tuple_getitem ?_ (args_tuple_getitem _ _)))
 show wpAny _ _ (Builtin.Tuple.tupleItemsOf (.ref t) >>= _) _ _ s
 refine af (tupleItemsOf_ ht ?_)
 refine af (wpAny_typeOf Zo ?_)
 rw [if_pos (by decide)]
 refine af (mF hs pl pu ?_)
 have hno:¬ ((((dP items.size 0 lo:Nat):Int) == 0 && (1:Int) == 1 && (dP items.size items.size hi - dP items.size 0 lo) == items.size)=true):=by
  intro q
  rw [fB,fB] at q
  have q1:((dP items.size 0 lo:Nat):Int)=0:=eq_of_beq q.1.1
  have q2:dP items.size items.size hi - dP items.size 0 lo=items.size:=eq_of_beq q.2
  exact hw ⟨by omega,by omega⟩
 show wpAny _ _ (if (((dP items.size 0 lo:Nat):Int) == 0 && (1:Int) == 1 && (dP items.size items.size hi - dP items.size 0 lo) == items.size)=true then _ else _) _ _ s
 rw [if_neg hno,C6]
 first
  | exact af (m:=Builtin.Tuple.tupleExact _) (wpAny_newObj_type (aE ⟨_,rfl,aE h⟩) zx)
  | exact af (m:=Builtin.Tuple.tupleExact _) (wpAny_newObj_type (af (aE (aE ⟨_,rfl,aE h⟩))) zx)
  | exact af (af (m:=Builtin.Tuple.tupleExact _) (wpAny_newObj_type (aE (aE ⟨_,rfl,aE h⟩)) zx))
  | exact af (af (m:=Builtin.Tuple.tupleExact _) (wpAny_newObj_type (aE ⟨_,rfl,aE h⟩) zx))
end
end HT
namespace L2
open PySem PySem.Spec PyProof.Rows
variable {n t':Nat}{H H':Hp}{s:Shared}{xs:List (List Key × Addr × Value)}{its:List Value}{y x:V}{u:Value}{P:Program}{w:World}{kvs:List (List Key × V)}{b:Addr}
abbrev TO:=St->Hp->(Option Int->Hp->Prop)->Prop
def PO(X:Cx)(e:Option Expr)(t:TO):Prop :=
 ∀ (pins:List (Addr × Obj)) (s:Shared) (σ:St) (H:Hp) (Q:Option Int->Hp->Prop),Inv X pins σ H s->t σ H Q ->
  wpAny (model X.prog X.w) X.A (evalPart e X.env) (λ u s'=>∃ o H',Inv X pins σ H' s' /\ IsPart u o /\ Q o H') X.xe s
def zy:TO:=λ _ H Q=>Q none H
def JL(t:TE):TO:=λ σ H Q=>t σ H λ x H1=>∃ i,x=.int i /\ Q (some i) H1
section
variable {X:Cx}{e:Expr}{te:TE}{lo hi:Option Expr}{tl th:TO}{pos p2:Pos}
theorem iL:PO X none zy:=by
 intro pins s σ H Q I h
 rw [evalPart_none]
 exact aE ⟨none,H,I,.none,h⟩
theorem iM(h:PE X e te):PO X (some e) (JL te):=by
 intro pins s σ H Q I hw
 rw [evalPart_some]
 refine bV (h pins s σ H _ I hw) λ u s1 ⟨x,H1,I1,r1,q1⟩=>?_
 obtain ⟨i,rfl,q⟩:=q1
 obtain ⟨t,rfl⟩:=r1
 exact ⟨some i,H1,I1,.int i t,q⟩
def LH(X:Cx)(r:V->Option Int->Option Int->Hp->VK->Prop):Prop :=
 ∀ (pins:List (Addr × Obj)) (s:Shared) (σ:St) (H:Hp) (x:V) (v vl vu:Value) (lo hi:Option Int) (sl:Addr) (Q:VK),Inv X pins σ H s->RelV x v->s.heap.IsSliceOf sl vl vu .none->IsPart vl lo->IsPart vu hi->r x lo hi H Q ->
  ∃ T id,typeLookup (.type T) "__getitem__" = pure (some (.builtin id)) /\ s.TypeIs v T /\ wpAny (model X.prog X.w) X.A (getItem v (.ref sl)) (EP X pins σ Q) X.xe s
theorem LH.or{r r':V->Option Int->Option Int->Hp->VK->Prop}(h:LH X r)(h':LH X r'):LH X (λ x lo hi H Q=>r x lo hi H Q \/ r' x lo hi H Q):=by
 intro pins s σ H x v vl vu lo hi sl Q I rx hs pl pu q
 rcases q with q | q
 ·exact h pins s σ H x v vl vu lo hi sl Q I rx hs pl pu q
 ·exact h' pins s σ H x v vl vu lo hi sl Q I rx hs pl pu q
def X7(r:V->Option Int->Option Int->Hp->VK->Prop)(te:TE)(tl th:TO):TE:=λ σ H Q=>te σ H λ x H1=>tl σ H1 λ l H2=>th σ H2 λ u H3=>r x l u H3 Q
theorem gk{r:V->Option Int->Option Int->Hp->VK->Prop}(hr:LH X r)(he:PE X e te)(hl:PO X lo tl)(hu:PO X hi th):PE X (.Subscript e (.Slice lo hi none p2) pos) (X7 r te tl th):=by
 intro pins s σ H Q I h
 refine Subscript_ (bV (he pins s σ H _ I h) λ v s1 ⟨x,H1,I1,r1,q1⟩=>?_)
 refine wpAny_Slice (bV (hl pins s1 σ H1 _ I1 q1) λ vl s2 ⟨l,H2,I2,pl,q2⟩=>bV (hu pins s2 σ H2 _ I2 q2) λ vu s3 ⟨u,H3,I3,pu,q3⟩=>?_)
 rw [evalPart_none]
 refine aE ?_
 have I4:Inv X pins σ H3 { s3 with heap:=s3.heap.push { cls:=.type "slice", data:=.fields #[vl,vu,.none] } }:=I3.kept (t':=s3.toks) λ b ob q=>bO _ q
 obtain ⟨T,id,hT,ht,hg⟩:=hr pins { s3 with heap:=s3.heap.push { cls:=.type "slice", data:=.fields #[vl,vu,.none] } } σ H3 x v vl vu l u s3.heap.objs.size Q I4 r1 (Heap.IsSliceOf.new ..) pl pu q3
 show wpAny (model X.prog X.w) X.A (subscriptTail e (.Slice lo hi none p2) v (.ref s3.heap.objs.size)) (EP X pins σ Q) X.xe { s3 with heap:=s3.heap.push { cls:=.type "slice", data:=.fields #[vl,vu,.none] } }
 exact tail_any (ops:=[.ref s3.heap.objs.size,v]) ht hT hg (by with_unfolding_all rfl)
def jv(xs:List V)(lo hi:Option Int):List V:=(xs.drop (HT.dP xs.length 0 lo)).take (HT.dP xs.length xs.length hi - HT.dP xs.length 0 lo)
theorem fH(xs:List V)(lo hi:Option Int):(jv xs lo hi).length <= xs.length:=by
 unfold jv
 rw [bQ,oY]
 omega
def PM(K:az):V->Option Int->Option Int->Hp->VK->Prop:=λ x lo hi H Q=>∃ a xs,x=.ref a /\ fF K H a xs /\
 ¬ (HT.dP xs.length 0 lo=0 /\ HT.dP xs.length xs.length hi=xs.length) /\ ∀ p,H p=none->Q (.ref p) (upd H p (.tup (jv xs lo hi)))
theorem C7:LH X (PM X.K):=by
 intro pins s σ H x v vl vu lo hi sl Q I rx hs pl pu h
 obtain ⟨a,xs,rfl,hx,hw,q⟩:=h
 cases rx
 obtain ⟨its,r,ht,hz⟩:=I.tuple hx
 have hlen:its.toArray.size=xs.length:=by rw [aT]; exact r.length.symm
 refine ⟨"tuple", _,PyProof.Rows.slot_tuple_getitem.lookup,ht.typeIs,?_⟩
 refine HT.kN ht hs pl pu (by rw [hlen]; exact hw) ?_ (by rw [hlen]; exact hz)
 rw [hlen]
 refine ⟨.ref s.heap.objs.size,_,I.laid (t':=s.toks) (o:=.tup (jv xs lo hi)) (λ b ob q=>bO _ q) (ay _) ?_,rfl,q _ (I.hok.fresh (ay _))⟩
 exact ⟨bq (fH xs lo hi) hz,_,(r.drop (HT.dP xs.length 0 lo)).take (HT.dP xs.length xs.length hi - HT.dP xs.length 0 lo),IsTup.new _ _⟩
end
def Gh(n:Nat)(i:Int):Option Nat:=if 0 <= i then (if i < n then some i.toNat else none) else if -(n:Int) <= i then some (i + n).toNat else none
def qF{α:Type}(xs:List α)(i:Int):Option α:=(Gh xs.length i).bind λ j=>xs[j]?
theorem zA{i:Int}{j:Nat}(h:Gh n i=some j):seqIndex? i n=some j /\ j < n /\ -(n:Int) <= i /\ i < n:=by
 unfold Gh at h
 by_cases h0:0 <= i
 ·rw [if_pos h0] at h
  by_cases h1:i < n
  ·rw [if_pos h1] at h
   have e:i.toNat=j:=Option.some.inj h
   exact ⟨by rw [seqIndex_of h0 h1,e],by omega,by omega,h1⟩
  ·rw [if_neg h1] at h; cases h
 ·rw [if_neg h0] at h
  by_cases h1:-(n:Int) <= i
  ·rw [if_pos h1] at h
   have e:(i + n).toNat=j:=Option.some.inj h
   exact ⟨by rw [seqIndex_neg (by omega) h1,e],by omega,h1,by omega⟩
  ·rw [if_neg h1] at h; cases h
theorem sM{α:Type}{xs:List α}{i:Int}{v:α}(h:qF xs i=some v):∃ j,seqIndex? i xs.length=some j /\ xs[j]? = some v /\ j < xs.length /\ -(xs.length:Int) <= i /\ i < xs.length:=by
 unfold qF at h
 cases e:Gh xs.length i with
 | none=>rw [e] at h; cases h
 | some j =>
  rw [e] at h
  obtain ⟨h1,h2,h3,h4⟩:=zA e
  exact ⟨j,h1,h,h2,h3,h4⟩
theorem fq{α:Type}{xs:List α}{j:Nat}{v:α}(h:xs[j]? = some v):qF xs (j:Int)=some v:=by
 have hj:j < xs.length:=(eU h).1
 have e:Gh xs.length (j:Int)=some j:=by
  unfold Gh
  rw [if_pos (by omega),if_pos (by omega)]; simp
 unfold qF; rw [e]; exact h
def GI(b:Expr):Prop:=∀ o i,subscripted b false o i=operate [o,i] (getItem o i)
def Gi(X:Cx)(r:R2):Prop :=
 ∀ (value slice:Expr) (pins:List (Addr × Obj)) (s:Shared) (σ:St) (H:Hp) (x y:V) (v u:Value) (Q:VK),Inv X pins σ H s->RelV x v->RelV y u->r x y H Q ->
  subscripted slice false v u=operate [v,u] (getItem v u)->wpAny (model X.prog X.w) X.A (subscriptTail value slice v u) (EP X pins σ Q) X.xe s
def OS(X:Cx)(id:String)(r:V->List V->Hp->VK->Prop):Prop :=
 ∀ (pins:List (Addr × Obj)) (s:Shared) (σ:St) (H:Hp) (x:V) (xs:List V) (v:Value) (us:List Value) (Q:VK),Inv X pins σ H s->RelV x v->Vals xs us->r x xs H Q ->
  wpAny (model X.prog X.w) X.A (call (.builtin id) (v :: us)) (EP X pins σ Q) X.xe s
section
variable {X:Cx}{a b:Expr}{ta tb:TE}{pos:Pos}
theorem Gi.or{r r':R2}(h:Gi X r)(h':Gi X r'):Gi X (λ x y H Q=>r x y H Q \/ r' x y H Q):=by
 intro value slice pins s σ H x y v u Q I rx ry q hs
 rcases q with q | q
 ·exact h value slice pins s σ H x y v u Q I rx ry q hs
 ·exact h' value slice pins s σ H x y v u Q I rx ry q hs
theorem OS.or{id:String}{r r':V->List V->Hp->VK->Prop}(h:OS X id r)(h':OS X id r'):OS X id (λ x xs H Q=>r x xs H Q \/ r' x xs H Q):=by
 intro pins s σ H x xs v us Q I rx rs q
 rcases q with q | q
 ·exact h pins s σ H x xs v us Q I rx rs q
 ·exact h' pins s σ H x xs v us Q I rx rs q
theorem cz{r:R2}(hr:Gi X r)(ha:PE X a ta)(hb:PE X b tb)(hs:GI b):PE X (.Subscript a b pos) (Lq r ta tb):=by
 intro pins s σ H Q I h
 exact Subscript_ (Lr ha hb I h λ v u s2 x y H2 I2 rx ry q=>hr a b pins s2 σ H2 x y v u Q I2 rx ry q (hs _ _))
def LI(K:az):R2:=λ x y H Q=>∃ p xs i v,x=.ref p /\ y=.int i /\ bK K H p xs /\ qF xs i=some v /\ Q v H
def LJ(K:az):R2:=λ x y H Q=>∃ p xs i v,x=.ref p /\ y=.int i /\ fF K H p xs /\ qF xs i=some v /\ Q v H
def PN:R2:=λ x y H Q=>∃ z i c,x=.str z /\ y=.int i /\ z.length <= sizeLine /\ qF z.cps.toList i=some c /\ Q (.str ⟨#[c]⟩) H
theorem gI:Gi X (LI X.K):=by
 intro value slice pins s σ H x y v u Q I rx ry h hs
 obtain ⟨p,xs,i,z,rfl,rfl,hq,he,q⟩:=h
 cases rx
 obtain ⟨t,rfl⟩:=ry
 obtain ⟨its,r,pl,hz⟩:=I.list hq
 obtain ⟨j,h1,h2,h3,h4,h5⟩:=sM he
 obtain ⟨w,ew,rw'⟩:=r.get h2
 have hl:=r.length
 have hn:=mE
 have fin:EP X pins σ Q w s:=⟨z,H,I,rw',q⟩
 by_cases h0:0 <= i
 ·have hj:i.toNat=j:=by
   rw [seqIndex_of h0 h5] at h1
   exact Option.some.inj h1
  exact item_listR pl.isList h0 (by omega) (by rw [hj]; simpa using ew) fin hs
 ·have hj:(i + (its.toArray.size:Int)).toNat=j:=by
   rw [seqIndex_neg (by omega) h4] at h1
   rw [aT,<- hl]
   exact Option.some.inj h1
  exact subscriptTail_builtinR (x:=w) pl.isList.typeIs slot_list_getitem.lookup
   (wpAny_getItem_list_neg (Q:=λ r s'=>r=w /\ EP X pins σ Q r s') pl.isList (by omega) (by rw [aT] <;> omega) (by omega) (by rw [hj]; simpa using ew) ⟨rfl,fin⟩) hs
theorem d8:Gi X (LJ X.K):=by
 intro value slice pins s σ H x y v u Q I rx ry h hs
 obtain ⟨p,xs,i,z,rfl,rfl,hq,he,q⟩:=h
 cases rx
 obtain ⟨t,rfl⟩:=ry
 obtain ⟨its,r,pl,hz⟩:=I.tuple hq
 obtain ⟨j,h1,h2,h3,h4,h5⟩:=sM he
 obtain ⟨w,ew,rw'⟩:=r.get h2
 have hl:=r.length
 have hn:=mE
 have fin:EP X pins σ Q w s:=⟨z,H,I,rw',q⟩
 exact subscriptTail_builtinR (x:=w) pl.typeIs slot_tuple_getitem.lookup
  (getItem_tuple (j:=j) (Q:=λ r s'=>r=w /\ EP X pins σ Q r s') pl (by omega) (by omega) (by rw [aT,<- hl]; exact h1) (by simpa using ew) ⟨rfl,fin⟩) hs
theorem LK:Gi X PN:=by
 intro value slice pins s σ H x y v u Q I rx ry h hs
 obtain ⟨z,i,c,rfl,rfl,hz,he,q⟩:=h
 obtain ⟨t,rfl⟩:=rx
 obtain ⟨t',rfl⟩:=ry
 obtain ⟨j,h1,h2,h3,h4,h5⟩:=sM he
 have hl:z.cps.toList.length=z.length:=by simp [Str.length]
 rw [hl] at h1 h4 h5
 have hn:=mE
 exact tail_any (typeIs_str s z t) slot_str_getitem.lookup (getItem_str (c:=c) (by
  have e1:decide (i < -(2 ^ 63:Int))=false:=decide_eq_false (by omega)
  have e2:decide (i >= 2 ^ 63)=false:=decide_eq_false (by omega)
  rw [e1,e2,Bool.or_false]) (by rw [h1]; simpa using h2) ⟨.str ⟨#[c]⟩,H,I.tok _,⟨_,rfl⟩,q⟩) hs
theorem xS(its:List Value)(n j:Nat)(u:Value):Obj.mapSeq (·.setIfInBounds j u) { cls:=.type "list", data:=.seq its.toArray n }={ cls:=.type "list", data:=.seq (its.set j u).toArray n }:=by
 simp [Obj.mapSeq]
theorem Inv.lst{pins:List (Addr × Obj)}{σ:St}{H:Hp}{s:Shared}{p:Addr}{xs:List V}(I:Inv X pins σ H s)(h:H p=some (.lst xs)):
  ∃ (its:List Value) (n:Nat),Vals xs its /\ s.heap.get? p=some { cls:=.type "list", data:=.seq its.toArray n } /\ xs.length <= sizeLine:=by
 obtain ⟨z,its,n,r,e⟩:=I.hok p _ h
 exact ⟨its,n,r,e,z⟩
theorem Inv.LL{pins:List (Addr × Obj)}{σ:St}{p:Addr}{xs ys:List V}{its':List Value}{n':Nat}{f:Obj->Obj}(I:Inv X pins σ H s)(h:H p=some (.lst xs))
  (ho:s.heap.get? p=some { cls:=.type "list", data:=.seq its.toArray n })(hf:f { cls:=.type "list", data:=.seq its.toArray n }={ cls:=.type "list", data:=.seq its'.toArray n' })(r:Vals ys its')(hz:ys.length <= sizeLine)(t:Nat):
  Inv X pins σ (upd H p (.lst ys)) { s with heap:=s.heap.update p f,toks:=t }:=by
 have e:(s.heap.update p f).get? p=some { cls:=.type "list", data:=.seq its'.toArray n' }:=by
  rw [cj f ho (by rw [hf] <;> rfl),hf]
 refine I.write (x:=p) (e:=p) (by rw [h]; trivial) (.inl rfl) (λ b u hb q=>(c7 _ _ (aV hb)).trans q) ⟨_,e⟩ ?_
 exact ⟨hz,its',n',r,e⟩
def JM:V->V->V->Hp->(Hp->Prop)->Prop:=λ o i v H Q=>∃ p xs k j,o=.ref p /\ i=.int k /\ H p=some (.lst xs) /\ Gh xs.length k=some j /\ Q (upd H p (.lst (xs.set j v)))
theorem set_list:Ph X JM:=by
 intro pins s σ H o i v ov iv u Q I ro ri rv h
 obtain ⟨p,xs,k,j,rfl,rfl,hp,hj,q⟩:=h
 cases ro
 obtain ⟨t,rfl⟩:=ri
 obtain ⟨its,n,r,ho,hz⟩:=I.lst hp
 obtain ⟨h1,h2,h3,h4⟩:=zA hj
 have hl:=r.length
 have hn:=mE
 have I':Inv X pins σ (upd H p (.lst (xs.set j v))) { s with heap:=s.heap.update p (Obj.mapSeq (·.setIfInBounds j u)) } :=
  I.LL hp ho (xS its n j u) (r.set rv j) (by rw [List.length_set]; exact hz) s.toks
 by_cases h0:0 <= k
 ·have hk:k.toNat=j:=by
   rw [seqIndex_of h0 h4] at h1
   exact Option.some.inj h1
  exact PySem.W.ki_setAt ho h0 (by omega) (by rw [aT,<- hl]; exact h4) (by rw [hk]; exact ⟨_,I',q⟩)
 ·have hk:(k + (its.toArray.size:Int)).toNat=j:=by
   rw [seqIndex_neg (by omega) h3] at h1
   rw [aT,<- hl]
   exact Option.some.inj h1
  exact PySem.W.ki_setBack ho (by omega) (by rw [aT,<- hl]; exact h3) (by omega) (by rw [hk]; exact ⟨_,I',q⟩)
theorem sN(lo hi:Option Int)(n:Nat):(sliceBounds lo hi none n).1=((HT.dP n 0 lo:Nat):Int) /\ (sliceBounds lo hi none n).2.1=((HT.dP n n hi:Nat):Int) /\ (sliceBounds lo hi none n).2.2=1:=by
 refine ⟨?_,?_,rfl⟩
 ·cases lo with
  | none=>simp [sliceBounds,HT.dP]
  | some i =>
   simp only [sliceBounds,HT.dP,Option.getD_none,show (1:Int) > 0 by decide,if_true]
   by_cases h:i < 0
   ·simp only [h,if_true] <;> omega
   ·simp only [h,if_false] <;> omega
 ·cases hi with
  | none=>simp [sliceBounds,HT.dP]
  | some i =>
   simp only [sliceBounds,HT.dP,Option.getD_none,show (1:Int) > 0 by decide,if_true]
   by_cases h:i < 0
   ·simp only [h,if_true] <;> omega
   ·simp only [h,if_false] <;> omega
theorem qG(its:List Value)(lo hi:Option Int):slicePick its.toArray lo hi none=((its.drop (HT.dP its.length 0 lo)).take (HT.dP its.length its.length hi - HT.dP its.length 0 lo)).toArray:=by
 obtain ⟨h1,h2,h3⟩:=sN lo hi its.toArray.size
 unfold slicePick
 rw [h1,h2,h3]
 simp only [sliceRange_one,pick_run,aT] <;> rfl
def PR(K:az):V->Option Int->Option Int->Hp->VK->Prop:=λ x lo hi H Q=>∃ a xs,x=.ref a /\ bK K H a xs /\ ∀ p,H p=none->Q (.ref p) (upd H p (.lst (jv xs lo hi)))
theorem kO:LH X (PR X.K):=by
 intro pins s σ H x v vl vu lo hi sl Q I rx hs pl pu h
 obtain ⟨a,xs,rfl,hx,q⟩:=h
 cases rx
 obtain ⟨its,r,ht,hz⟩:=I.list hx
 have hlen:=r.length
 refine ⟨"list", _,slot_list_getitem.lookup,ht.isList.typeIs,?_⟩
 refine wpAny_getItem_list_slice ht.isList hs pl pu .none (by simp) ?_ (by rw [aT] <;> omega)
 rw [qG,<- hlen]
 refine ⟨.ref s.heap.objs.size,_,I.laid (t':=s.toks) (o:=.lst (jv xs lo hi)) (λ b ob q=>bO _ q) (ay _) ?_,rfl,q _ (I.hok.fresh (ay _))⟩
 exact ⟨bq (fH xs lo hi) hz,_,0,(r.drop (HT.dP xs.length 0 lo)).take (HT.dP xs.length xs.length hi - HT.dP xs.length 0 lo),fK _ rfl⟩
def i0:V->Bool
 | .bZ=>true
 | .bl _=>true
 | .int _=>true
 | .str _=>true
 | _=>false
def GJ:V->V->Bool
 | .bZ,.bZ=>true
 | .bl a,.bl b=>a == b
 | .bl a,.int b=>(if a then 1 else 0) == b
 | .int a,.bl b=>a == (if b then 1 else 0)
 | .int a,.int b=>a == b
 | .str a,.str b=>a == b
 | _,_=>false
theorem LM{A:Around}{v:Value}(ry:RelV y u)(rx:RelV x v)(fy:i0 y=true)(fx:i0 x=true):SeqAt.EqAt A s u v (GJ y x):=by
 cases y with
 | bZ =>
  cases ry
  cases x with
  | bZ=>cases rx; exact SeqAt.EqAt.same _
  | bl b=>cases rx; exact SeqAt.EqAt.none_bool b
  | int b=>obtain ⟨t,rfl⟩:=rx; exact SeqAt.EqAt.none_int b t
  | str b=>obtain ⟨t,rfl⟩:=rx; exact SeqAt.EqAt.none_str b t
  | _=>exact absurd (show false=true from fx) j0
 | bl a =>
  cases ry
  cases x with
  | bZ=>cases rx; exact SeqAt.EqAt.bool_none a
  | bl b=>cases rx; exact SeqAt.EqAt.bool_bool a b
  | int b=>obtain ⟨t,rfl⟩:=rx; exact SeqAt.EqAt.bool_int a b t
  | str b=>obtain ⟨t,rfl⟩:=rx; exact SeqAt.EqAt.bool_str a b t
  | _=>exact absurd (show false=true from fx) j0
 | int a =>
  obtain ⟨t',rfl⟩:=ry
  cases x with
  | bZ=>cases rx; exact SeqAt.EqAt.int_none a t'
  | bl b=>cases rx; exact SeqAt.EqAt.int_bool a t' b
  | int b=>obtain ⟨t,rfl⟩:=rx; exact SeqAt.EqAt.int_int a t' b t
  | str b=>obtain ⟨t,rfl⟩:=rx; exact SeqAt.EqAt.int_str a t' b t
  | _=>exact absurd (show false=true from fx) j0
 | str a =>
  obtain ⟨t',rfl⟩:=ry
  cases x with
  | bZ=>cases rx; exact SeqAt.EqAt.str_none a t'
  | bl b=>cases rx; exact SeqAt.EqAt.str_bool a t' b
  | int b=>obtain ⟨t,rfl⟩:=rx; exact SeqAt.EqAt.str_int a t' b t
  | str b=>obtain ⟨t,rfl⟩:=rx; exact SeqAt.EqAt.str_str a t' b t
  | _=>exact absurd (show false=true from fx) j0
 | _=>exact absurd (show false=true from fy) j0
def xT(x:V)(u:Value):Bool:=match u with
 | .none=>GJ .bZ x
 | .bool b=>GJ (.bl b) x
 | .int i _=>GJ (.int i) x
 | .str z _=>GJ (.str z) x
 | _=>false
theorem C8(r:RelV y u)(f:i0 y=true):xT x u=GJ y x:=by
 cases y with
 | bZ=>cases r; rfl
 | bl b=>cases r; rfl
 | int i=>obtain ⟨t,rfl⟩:=r; rfl
 | str z=>obtain ⟨t,rfl⟩:=r; rfl
 | _=>exact absurd (show false=true from f) j0
theorem kP{x:V}:∀ {xs:List V} {us:List Value},Vals xs us->xs.all i0=true->us.any (xT x)=xs.any λ y=>GJ y x
 | _,_,.nil,_=>rfl
 | y :: xs,u :: us,.cons r t,f=>by
  rw [List.all_cons,fB] at f
  rw [gU,gU,C8 r f.1,kP t f.2]
theorem jw{A:Around}{s:Shared}{x:V}{v:Value}(rx:RelV x v)(fx:i0 x=true):∀ {xs:List V} {us:List Value},Vals xs us->xs.all i0=true->∀ u∈us,SeqAt.EqAt A s u v (xT x u)
 | _,_,.nil,_=>λ u hu=>by cases hu
 | y :: xs,u :: us,.cons r t,f=>λ u' hu=>by
  rw [List.all_cons,fB] at f
  rcases aG.mp hu with rfl | hu
  ·rw [C8 r f.1]; exact LM r rx f.1 fx
  ·exact jw rx fx t f.2 u' hu
def uu(x:V)(xs:List V):Bool:=xs.any λ y=>GJ y x
def Tu(K:az)(neg:Bool):R2:=λ x y H Q=>∃ p xs,y=.ref p /\ (bK K H p xs \/ fF K H p xs) /\ i0 x=true /\ xs.all i0=true /\ Q (.bl (if neg then !uu x xs else uu x xs)) H
theorem fZ:jf X (compareOp .In) (Tu X.K false):=by
 intro pins s σ H x y v u Q I rx ry h
 obtain ⟨p,xs,rfl,hq,fx,fs,q⟩:=h
 cases ry
 rcases hq with hq | hq
 ·obtain ⟨its,r,pl,hz⟩:=I.list hq
  refine SeqAt.in_listAt (xT x) pl.isList (λ w hw=>jw rx fx r fs w (by simpa using hw)) ⟨.bl _,H,I,rfl,?_⟩
  rw [show its.toArray.any (xT x)=its.any (xT x) by simp,kP r fs]
  exact q
 ·obtain ⟨its,r,pl,hz⟩:=I.tuple hq
  refine SeqAt.in_tupleAt (xT x) pl (λ w hw=>jw rx fx r fs w (by simpa using hw)) ⟨.bl _,H,I,rfl,?_⟩
  rw [show its.toArray.any (xT x)=its.any (xT x) by simp,kP r fs]
  exact q
theorem sO:jf X (compareOp .NotIn) (Tu X.K true):=by
 intro pins s σ H x y v u Q I rx ry h
 obtain ⟨p,xs,rfl,hq,fx,fs,q⟩:=h
 cases ry
 rcases hq with hq | hq
 ·obtain ⟨its,r,pl,hz⟩:=I.list hq
  refine SeqAt.notIn_listAt (xT x) pl.isList (λ w hw=>jw rx fx r fs w (by simpa using hw)) ⟨.bl _,H,I,rfl,?_⟩
  rw [show its.toArray.any (xT x)=its.any (xT x) by simp,kP r fs]
  exact q
 ·obtain ⟨its,r,pl,hz⟩:=I.tuple hq
  refine SeqAt.notIn_tupleAt (xT x) pl (λ w hw=>jw rx fx r fs w (by simpa using hw)) ⟨.bl _,H,I,rfl,?_⟩
  rw [show its.toArray.any (xT x)=its.any (xT x) by simp,kP r fs]
  exact q
theorem sP:cG X (.builtin "len") (λ xs H Q=>∃ p ys,xs=[.ref p] /\ (bK X.K H p ys \/ fF X.K H p ys) /\ Q (.int ys.length) H):=by
 intro pins s σ H xs us Q I r h
 obtain ⟨p,ys,rfl,hq,q⟩:=h
 obtain ⟨u,rfl,rx⟩:=vals1 r
 cases rx
 have hn:=mE
 rcases hq with hq | hq
 ·obtain ⟨its,r',pl,hz⟩:=I.list hq
  have hlen:=r'.length
  exact Calls.call_len_list pl.isList (by simp only [aT] <;> omega) ⟨.int ys.length,H,I.tok _,⟨s.toks + 1,by rw [aT,hlen]⟩,q⟩
 ·obtain ⟨its,r',pl,hz⟩:=I.tuple hq
  have hlen:=r'.length
  exact len_tuple pl (by simp only [aT] <;> omega) ⟨.int ys.length,H,I.tok _,⟨s.toks + 1,by rw [aT,hlen]⟩,q⟩
theorem cG.or{f:Value}{r r':List V->Hp->VK->Prop}(h:cG X f r)(h':cG X f r'):cG X f (λ xs H Q=>r xs H Q \/ r' xs H Q):=by
 intro pins s σ H xs us Q I rs q
 rcases q with q | q
 ·exact h pins s σ H xs us Q I rs q
 ·exact h' pins s σ H xs us Q I rs q
theorem sQ:cG X (.type "list") (λ xs H Q=>∃ p ys,xs=[.ref p] /\ (bK X.K H p ys \/ fF X.K H p ys) /\ ∀ l,H l=none->Q (.ref l) (upd H l (.lst ys))):=by
 intro pins s σ H xs us Q I r h
 obtain ⟨p,ys,rfl,hq,q⟩:=h
 obtain ⟨u,rfl,rx⟩:=vals1 r
 cases rx
 have fin:∀ (its:List Value),Vals ys its->ys.length <= sizeLine->∀ (h':Heap) (c':Nat),(∀ b o',s.heap.get? b=some o'->h'.get? b=some o') ->
   h'.get? s.heap.objs.size=some { cls:=.type "list", dict:=none,data:=.seq its.toArray c',slots:=#[] } -> EP X pins σ Q (.ref s.heap.objs.size) { s with heap:=h' }:=λ its r' hz h' c' kp e =>
  ⟨.ref s.heap.objs.size,_,I.laid (t':=s.toks) kp (ay _) (show bT X.prog X.w _ h' _ (.lst ys) from ⟨hz,its,c',r',e⟩),rfl,q _ (I.hok.fresh (ay _))⟩
 rcases hq with hq | hq
 ·obtain ⟨its,r',pl,hz⟩:=I.list hq
  have hlen:=r'.length
  obtain ⟨o,ho,hc,n,hd⟩:=pl.isList
  exact call_list_seq p (.inl rfl) ho hc hd (λ h' c' kp e=>fin its r' hz h' c' kp e) (by simp only [aT] <;> omega)
 ·obtain ⟨its,r',pl,hz⟩:=I.tuple hq
  have hlen:=r'.length
  obtain ⟨o,ho,hc,n,hd⟩:=pl
  exact call_list_seq p (.inr rfl) ho hc hd (λ h' c' kp e=>fin its r' hz h' c' kp e) (by simp only [aT] <;> omega)
theorem qH:cG X (.type "tuple") (λ xs H Q=>∃ p ys,xs=[.ref p] /\ ((bK X.K H p ys /\ ∀ l,H l=none->Q (.ref l) (upd H l (.tup ys))) \/ (fF X.K H p ys /\ Q (.ref p) H))):=by
 intro pins s σ H xs us Q I r h
 obtain ⟨p,ys,rfl,h⟩:=h
 obtain ⟨u,rfl,rx⟩:=vals1 r
 cases rx
 rcases h with ⟨hq,q⟩ | ⟨hq,q⟩
 ·obtain ⟨its,r',pl,hz⟩:=I.list hq
  have hlen:=r'.length
  refine call_tuple_list pl.isList (λ h' kp=>?_) (by simp only [aT] <;> omega)
  have I1:Inv X pins σ H { s with heap:=h' }:=I.kept (t':=s.toks) kp
  have I2:Inv X pins σ (upd H h'.objs.size (.tup ys)) { s with heap:=h'.push { cls:=.type "tuple", data:=.seq its.toArray } } :=
   I1.laid (t':=s.toks) (λ b o e=>bO _ e) (ay _) (show bT X.prog X.w _ _ _ (.tup ys) from ⟨hz,its,r',IsTup.new _ _⟩)
  exact ⟨.ref h'.objs.size,_,I2,rfl,q _ (I1.hok.fresh (ay _))⟩
 ·obtain ⟨its,r',pl,hz⟩:=I.tuple hq
  exact call_tuple_same pl ⟨.ref p,H,I,rfl,q⟩
def OT(K:az)(T:String)(x:V)(H:Hp):Prop:=match x with
 | .str _=>T = "str"
 | .int _=>T = "int"
 | .ref p=>(T = "list" /\ ∃ xs,bK K H p xs) \/ (T = "tuple" /\ ∃ o,K.lookup p=some o /\ o.cls=.type "tuple" /\ o.dict=none) \/
   (T = "dict" /\ ((∃ kvs,H p=some (.dK kvs)) \/ ∃ kvs,H p=some (.dT kvs))) \/ (T = "set" /\ ∃ S n,H p=some (.set S n))
 | _=>False
theorem C9{pins:List (Addr × Obj)}{σ:St}{T:String}{v:Value}(I:Inv X pins σ H s)(r:RelV x v)(ty:OT X.K T x H):
  s.TypeIs v T /\ ∀ a,v=.ref a->∃ ob,s.heap.get? a=some ob /\ ob.dict=none:=by
 cases x with
 | str z =>
  obtain ⟨t,rfl⟩:=r
  cases (show T = "str" from ty)
  exact ⟨typeIs_str s z t,λ _ e=>nomatch e⟩
 | int i =>
  obtain ⟨t,rfl⟩:=r
  cases (show T = "int" from ty)
  exact ⟨typeIs_int s i t,λ _ e=>nomatch e⟩
 | ref p =>
  cases r
  rcases ty with ⟨rfl,xs,hq⟩ | ⟨rfl,o,hk,hc,hd⟩ | ⟨rfl,hk⟩ | ⟨rfl,S,n,hk⟩
  ·obtain ⟨its,_,pl,_⟩:=I.list hq
   refine ⟨pl.isList.typeIs,λ a e=>?_⟩
   cases e
   obtain ⟨o,n,e,c,hd,_⟩:=pl
   exact ⟨o,e,hd⟩
  ·refine ⟨⟨o,I.jc p o hk,hc⟩,λ a e=>?_⟩
   cases e
   exact ⟨o,I.jc _ o hk,hd⟩
  ·have z:∃ o,s.heap.get? p=some o /\ o.ExactDict:=by
    rcases hk with ⟨kvs,hk⟩ | ⟨kvs,hk⟩
    ·obtain ⟨_,_,_,_,o,_,_,e,ex,_⟩:=I.hok p _ hk
     exact ⟨o,e,ex⟩
    ·obtain ⟨_,_,_,_,o,_,_,e,ex,_⟩:=I.hok p _ hk
     exact ⟨o,e,ex⟩
   obtain ⟨o,e,ex⟩:=z
   refine ⟨⟨o,e,ex.1⟩,λ a e2=>?_⟩
   cases e2
   exact ⟨o,e,ex.2.1⟩
  ·obtain ⟨o,_,_,_,e,ex,_⟩:=I.hok p _ hk
   refine ⟨⟨o,e,ex.1⟩,λ a e2=>?_⟩
   cases e2
   exact ⟨o,e,ex.2.1⟩
 | _=>exact False.elim ty
def PU(K:az)(T:String)(r:V->List V->Hp->VK->Prop)(to:TE):TE:=λ σ H Q=>to σ H λ x H1=>OT K T x H1 /\ r x [] H1 Q
def X8(K:az)(T:String)(r:V->List V->Hp->VK->Prop)(to:TE)(t:TA):TE:=λ σ H Q=>to σ H λ x H1=>OT K T x H1 /\ t σ H1 λ xs H2=>r x xs H2 Q
variable {o e:Expr}{es:List Expr}{to:TE}{t:TA}{name:Str}{apos cpos:Pos}{T id:String}{r:V->List V->Hp->VK->Prop}
theorem Dc(pa:PlainAttrs T)(slot:Slot T name id)(hty:typeOf (.builtin id)=pure (.type "method_descriptor"))(hm:OS X id r)(ho:PE X o to)
  (hbase:attributeBase o name X.env (eval o X.env)=eval o X.env:=by rfl)(hline:(apos.endLine == cpos.line)=true:=by rfl):PE X (.Call (.Attribute o name apos) [] [] cpos) (PU X.K T r to):=by
 intro pins s σ H Q I h
 refine wpAny_Call_method0_late hbase hline (bV (ho pins s σ H _ I h) λ v s1 ⟨x,H1,I1,r1,ty,q1⟩=>?_)
 obtain ⟨h1,h2⟩:=C9 I1 r1 ty
 exact ⟨T,id,pa,slot,hty,h1,h2,sr rfl (PySem.evalArgs_none (hm pins s1 σ H1 x [] v [] Q I1 r1 .nil q1))⟩
theorem ng(pa:PlainAttrs T)(slot:Slot T name id)(hty:typeOf (.builtin id)=pure (.type "method_descriptor"))(hm:OS X id r)(ho:PE X o to)(ha:PA X (e :: es) t)
  (hbase:attributeBase o name X.env (eval o X.env)=eval o X.env:=by rfl)
  (hfew:((backTo cpos (starEach (e :: es) X.env)).all (λ x=>!x.1) && (backToKw cpos (keywordEach [] X.env)).all (λ x=>x.1.isSome)
   && decide ((e :: es).length + ([]:List Keyword).length + (if ([]:List Keyword).isEmpty then 0 else 1) < 30))=true:=by rfl)
  (hline:(apos.endLine == cpos.line)=true:=by rfl)(hs:starEach (e :: es) X.env=(false,eval e X.env) :: starEach es X.env:=by rfl)(hplain:(backTo cpos (starEach es X.env)).any (·.1)=false:=by rfl):
  PE X (.Call (.Attribute o name apos) (e :: es) [] cpos) (X8 X.K T r to t):=by
 intro pins s σ H Q I h
 refine wpAny_Call_method_late hbase hfew hline rfl (bV (ho pins s σ H _ I h) λ v s1 ⟨x,H1,I1,r1,ty,q1⟩=>?_)
 obtain ⟨h1,h2⟩:=C9 I1 r1 ty
 refine ⟨T,id,pa,slot,hty,h1,h2,?_⟩
 have hA:=ha cpos pins s1 σ H1 _ I1 q1
 rw [hs] at hA ⊢
 refine sr (by show (false || (backTo cpos (starEach es X.env)).any (·.1))=false; rw [hplain] <;> rfl) (Calls.evalArgs_plain ?_)
 exact bV hA λ us s2 ⟨vs,H2,I2,r2,q2⟩=>hm pins s2 σ H2 x vs v us Q I2 r1 r2 q2
end
def Vg(X:Cx)(id:String)(r:V->List V->Hp->VK->Prop):Prop :=
 ∀ (pins:List (Addr × Obj)) (s:Shared) (σ:St) (H:Hp) (x:V) (xs:List V) (v:Value) (us:List Value) (Q:VK),Inv X pins σ H s->RelV x v->Vals xs us->r x xs H Q ->
  wpAny (model X.prog X.w) X.A (call (.builtin id) (v :: us)) (EP X pins σ Q) X.xe s
theorem Vals.one:∀ {x:V} {us:List Value},Vals [x] us->∃ u,us=[u] /\ RelV x u
 | _,_,.cons r .nil=>⟨_,rfl,r⟩
theorem Vals.zero:∀ {us:List Value},Vals [] us->us=[]
 | _,.nil=>rfl
theorem Vals.dropLast{xs:List V}{us:List Value}(h:Vals xs us):Vals xs.dropLast us.dropLast:=by
 induction h with
 | nil=>exact .nil
 | cons r t ih =>
  cases t with
  | nil=>exact .nil
  | cons q t'=>exact .cons r ih
theorem Vals.eraseIdx:∀ {xs:List V} {us:List Value} (i:Nat),Vals xs us->Vals (xs.eraseIdx i) (us.eraseIdx i)
 | _,_,_,.nil=>.nil
 | _,_,0,.cons _ t=>t
 | _,_,i + 1,.cons r t=>.cons r (Vals.eraseIdx i t)
theorem Vals.reverse{xs:List V}{us:List Value}(h:Vals xs us):Vals xs.reverse us.reverse:=by
 induction h with
 | nil=>exact .nil
 | cons r t ih=>rw [List.reverse_cons,List.reverse_cons]; exact Vals.append ih (.cons r .nil)
theorem xU{α:Type}(l:List α):l.eraseIdx (l.length - 1)=l.dropLast:=by
 induction l with
 | nil=>rfl
 | cons a r ih =>
  cases r with
  | nil=>rfl
  | cons b r =>
   have e:(a :: b :: r).length - 1=((b :: r).length - 1) + 1:=by
    have h1:(a :: b :: r).length=r.length + 2:=rfl
    have h2:(b :: r).length=r.length + 1:=rfl
    omega
   rw [e,List.eraseIdx_cons_succ,ih]
   all_goals rfl
section
variable {X:Cx}{pins:List (Addr × Obj)}{σ:St}{H:Hp}{s:Shared}{l b:Addr}{xs ys zs:List V}
theorem Inv.LN{its':List Value}{f:Array Value->Array Value}(I:Inv X pins σ H s)(hH:H l=some (.lst xs))
  (e:s.heap.get? l=some { cls:=.type "list", data:=.seq its.toArray n })(hf:f its.toArray=its'.toArray)(hv:Vals ys its')(hz:ys.length <= sizeLine):
  Inv X pins σ (upd H l (.lst ys)) { s with heap:=s.heap.update l (Obj.mapSeq f),toks:=t' }:=by
 have q:=PySem.IsL.update e f
 rw [hf] at q
 refine I.write (x:=l) (e:=l) (by rw [hH]; exact trivial) (.inl rfl) (λ b' u hb hu=>(c7 s.heap (Obj.mapSeq f) (aV hb)).trans hu) ⟨_,q⟩ ?_
 exact ⟨hz,its',_,hv,q⟩
theorem Inv.Vh(I:Inv X pins σ H s)(hv:Vals ys its)(hz:ys.length <= sizeLine):
  Inv X pins σ (upd H s.heap.objs.size (.lst ys)) { s with heap:=s.heap.push { cls:=.type "list", data:=.seq its.toArray },toks:=t' } :=
 I.laid (λ _ _ q=>bO _ q) (ay _) ⟨hz,its,0,hv,fK _ rfl⟩
theorem Inv.fresh(I:Inv X pins σ H s):H s.heap.objs.size=none:=I.hok.fresh (ay _)
theorem Inv.A1(I:Inv X pins σ H s)(hH:H l=some (.lst xs)):xs.length <= sizeLine /\ ∃ (its:List Value) (n:Nat),Vals xs its /\ xs.length=its.length /\ s.heap.get? l=some { cls:=.type "list", data:=.seq its.toArray n }:=by
 obtain ⟨z,its,n,r,e⟩:=I.hok l _ hH
 exact ⟨z,its,n,r,r.length,e⟩
theorem Dd(h:n <= sizeLine):Builtin.List.listTooLong n=false:=by
 unfold Builtin.List.listTooLong
 exact decide_eq_false (by omega)
end
section
variable {X:Cx}
def zB:V->List V->Hp->VK->Prop:=λ x vs H Q=>∃ l xs y,x=.ref l /\ vs=[y] /\ H l=some (.lst xs) /\ xs.length < sizeLine /\ Q .bZ (upd H l (.lst (xs++[y])))
theorem jN:Vg X "list.append" zB:=by
 intro pins s σ H x vs v us Q I rx rv h
 obtain ⟨l,xs,y,rfl,rfl,hH,hz,q⟩:=h
 cases rx
 obtain ⟨u,rfl,ru⟩:=rv.one
 obtain ⟨z,its,n,r,hl,e⟩:=I.A1 hH
 refine call_meets F.slot_list_append ⟨_,e,rfl⟩ F.entry_list_append (F.args_list_append_2 _ _) (PySem.list_append l its.toArray n u (by rw [aT]; omega)) ⟨e,?_⟩
 refine ⟨.bZ,_,I.LN (its':=its++[u]) hH e (by simp) (r.append (.cons ru .nil)) ?_,rfl,q⟩
 rw [aX,g6]
 omega
def zC:V->List V->Hp->VK->Prop:=λ x vs H Q=>∃ l b xs zs,x=.ref l /\ vs=[.ref b] /\ H l=some (.lst xs) /\ H b=some (.lst zs) /\ xs.length + zs.length <= sizeLine /\ Q .bZ (upd H l (.lst (xs++zs)))
theorem jO:Vg X "list.extend" zC:=by
 intro pins s σ H x vs v us Q I rx rv h
 obtain ⟨l,b,xs,zs,rfl,rfl,hH,hB,hz,q⟩:=h
 cases rx
 obtain ⟨u,rfl,ru⟩:=rv.one
 cases ru
 obtain ⟨z,its,n,r,hl,e⟩:=I.A1 hH
 obtain ⟨z2,its2,n2,r2,hl2,e2⟩:=I.A1 hB
 have hsz:its.toArray.size + its2.toArray.size <= sizeLine:=by rw [aT,aT]; omega
 have PV:¬ (!its.toArray.isEmpty && Builtin.List.listTooLong (its.toArray.size + its2.toArray.size))=true:=by
  rw [Dd hsz,oJ]
  exact j0
 refine call_meets F.slot_list_extend ⟨_,e,rfl⟩ F.entry_list_extend (F.args_list_extend_2 _ _)
  (AutoSeq1.list_extend_list_list_0 l its.toArray n b its2.toArray n2 PV (by rw [aT]; omega) (by omega)) ⟨e,e2,?_⟩
 refine ⟨.bZ,_,I.LN (its':=its++its2) hH e (by simp) (r.append r2) ?_,rfl,q⟩
 rw [aX]
 omega
def PX:V->List V->Hp->VK->Prop:=λ x vs H Q=>∃ l xs y,x=.ref l /\ vs=[] /\ H l=some (.lst xs) /\ xs[xs.length - 1]? = some y /\ Q y (upd H l (.lst xs.dropLast))
theorem De:Vg X "list.pop" PX:=by
 intro pins s σ H x vs v us Q I rx rv h
 obtain ⟨l,xs,y,rfl,rfl,hH,hy,q⟩:=h
 cases rx
 have mG:=rv.zero
 subst mG
 obtain ⟨z,its,n,r,hl,e⟩:=I.A1 hH
 obtain ⟨u,hu,ru⟩:=r.get hy
 have hy':its.toArray[its.toArray.size - 1]? = some u:=by
  show its.toArray[its.length - 1]? = some u
  rw [<- dz,<- hl]
  exact hu
 refine call_meets F.slot_list_pop ⟨_,e,rfl⟩ F.entry_list_pop (F.args_list_pop_1 _) (MeetsSeq.list_pop_last l its.toArray n u hy' (by rw [aT]; omega)) ⟨e,?_⟩
 refine ⟨y,_,I.LN (its':=its.dropLast) hH e ?_ r.dropLast ?_,ru,q⟩
 ·show its.toArray.eraseIdxIfInBounds (its.toArray.size - 1)=its.dropLast.toArray
  rw [aT,List.eraseIdxIfInBounds_toArray,xU]
 ·rw [List.length_dropLast]
  omega
def PY:R2:=λ x y H Q=>∃ l b xs zs,x=.ref l /\ y=.ref b /\ H l=some (.lst xs) /\ H b=some (.lst zs) /\ xs.length + zs.length <= sizeLine /\ ∀ p,H p=none->Q (.ref p) (upd H p (.lst (xs++zs)))
theorem xV:jf X (binaryOp .Add) PY:=by
 intro pins s σ H x y v u Q I rx ry h
 obtain ⟨l,b,xs,zs,rfl,rfl,hH,hB,hz,q⟩:=h
 cases rx
 cases ry
 obtain ⟨z,its,n,r,hl,e⟩:=I.A1 hH
 obtain ⟨z2,its2,n2,r2,hl2,e2⟩:=I.A1 hB
 refine PySem.P.add_list e e2 ?_ (by rw [aT,aT]; omega)
 have ea:its.toArray++its2.toArray=(its++its2).toArray:=by simp
 rw [ea]
 exact ⟨.ref _,_,I.Vh (t':=s.toks) (r.append r2) (by rw [aX]; omega),rfl,q _ I.fresh⟩
end
section
variable {prog:Program}{w:World}{A:Around}{E:Value->Shared->Prop}{s:Shared}
end
section
variable {X:Cx}
end
section
variable {κ:Type} [DecidableEq κ]
def iw(kvs:List (κ × V))(k:κ):Option V:=(kvs.find? λ kv=>decide (kv.1=k)).map (·.2)
def putK(kvs:List (κ × V))(k:κ)(v:V):List (κ × V) :=
 if (kvs.any λ kv=>decide (kv.1=k))=true then kvs.map (λ kv=>if kv.1=k then (kv.1,v) else kv) else kvs++[(k,v)]
def JN(kvs:List (κ × V))(k:κ):List (κ × V):=kvs.filter λ kv=>decide (kv.1 ≠ k)
theorem pC{p:κ × V}{r:List (κ × V)}{k:κ}(e:p.1=k):iw (p :: r) k=some p.2:=by simp [iw,eE,e]
theorem pF{p:κ × V}{r:List (κ × V)}{k:κ}(e:¬ p.1=k):iw (p :: r) k=iw r k:=by simp [iw,eE,e]
theorem kQ(k:κ):∀ kvs:List (κ × V),(kvs.any λ kv=>decide (kv.1=k))=(iw kvs k).isSome
 | []=>rfl
 | p :: r=>by
  rw [gU]
  by_cases e:p.1=k
  ·simp only [pC e,decide_eq_true e,Bool.true_or,Option.isSome_some]
  ·rw [pF e,decide_eq_false e,Bool.false_or]; exact kQ k r
theorem jx(kvs:List (κ × V))(k:κ)(v:V):(putK kvs k v).length <= kvs.length + 1:=by
 unfold putK
 split
 ·rw [au]; omega
 ·rw [aX,dZ,List.length_nil]; omega
theorem iK.jP{o:Option V}{u:Option Value}(r:iK o u):o.isSome=u.isSome:=by
 cases o with
 | none=>cases u with
  | none=>rfl
  | some _=>exact (show False from r).elim
 | some _=>cases u with
  | none=>exact (show False from r).elim
  | some _=>rfl
theorem iK.getD{o:Option V}{u:Option Value}{d:V}{d':Value}(r:iK o u)(rd:RelV d d'):RelV (o.getD d) (u.getD d'):=by
 cases o with
 | none=>cases u with
  | none=>exact rd
  | some _=>exact (show False from r).elim
 | some _=>cases u with
  | none=>exact (show False from r).elim
  | some _=>exact r
theorem KV.val{kvs:List (κ × V)}{vs:List (κ × Value)}(r:KV kvs vs)(k:κ):iK (iw kvs k) (valueAt vs k):=by
 unfold KV at r
 induction r with
 | nil=>exact dO
 | @cons p q ps qs h t ih =>
  obtain ⟨h1,h2⟩:=h
  by_cases e:p.1=k
  ·have e':q.1=k:=h1.symm.trans e
   have b:valueAt (q :: qs) k=some q.2:=by simp [valueAt,eE,e']
   rw [pC e,b]; exact h2
  ·have e':¬ q.1=k:=λ z=>e (h1.trans z)
   have b:valueAt (q :: qs) k=valueAt qs k:=by simp [valueAt,eE,e']
   rw [pF e,b]; exact ih
theorem KV.any{kvs:List (κ × V)}{vs:List (κ × Value)}(r:KV kvs vs)(k:κ):(kvs.any λ kv=>decide (kv.1=k))=vs.any λ kv=>decide (kv.1=k):=by
 unfold KV at r
 induction r with
 | nil=>rfl
 | cons h t ih=>rw [gU,gU,ih,h.1]
theorem KV.repl{kvs:List (κ × V)}{vs:List (κ × Value)}(r:KV kvs vs)(k:κ)(ry:RelV y u):
  KV (kvs.map λ kv=>if kv.1=k then (kv.1,y) else kv) (vs.map λ kv=>if kv.1=k then (kv.1,u) else kv):=by
 unfold KV at r ⊢
 induction r with
 | nil=>exact .nil
 | @cons p q ps qs h t ih =>
  rw [bR,bR]
  refine .cons ?_ ih
  obtain ⟨h1,h2⟩:=h
  by_cases e:p.1=k
  ·rw [if_pos e,if_pos (h1.symm.trans e)]; exact ⟨h1,ry⟩
  ·rw [if_neg e,if_neg (λ z=>e (h1.trans z))]; exact ⟨h1,h2⟩
theorem KV.put{kvs:List (κ × V)}{vs:List (κ × Value)}(r:KV kvs vs)(k:κ)(ry:RelV y u):KV (putK kvs k y) (stored vs k u):=by
 unfold putK stored
 rw [r.any k]
 by_cases e:(vs.any λ kv=>decide (kv.1=k))=true
 ·rw [if_pos e,if_pos e]; exact r.repl k ry
 ·rw [if_neg e,if_neg e]; exact cC r ⟨rfl,ry⟩
theorem KV.drop{kvs:List (κ × V)}{vs:List (κ × Value)}(r:KV kvs vs)(k:κ):KV (JN kvs k) (without vs k):=by
 unfold KV at r ⊢
 unfold JN without
 induction r with
 | nil=>exact .nil
 | @cons p q ps qs h t ih =>
  obtain ⟨h1,h2⟩:=h
  rw [lZ,lZ]
  by_cases e:p.1=k
  ·have a:¬ decide (p.1 ≠ k)=true:=by simp [e]
   have b:¬ decide (q.1 ≠ k)=true:=by simp [h1.symm.trans e]
   rw [if_neg a,if_neg b]; exact ih
  ·have e':¬ q.1=k:=λ z=>e (h1.trans z)
   have a:decide (p.1 ≠ k)=true:=by simp [e]
   have b:decide (q.1 ≠ k)=true:=by simp [e']
   rw [if_pos a,if_pos b]; exact .cons ⟨h1,h2⟩ ih
theorem KV.keys{kvs:List (κ × V)}{vs:List (κ × Value)}(r:KV kvs vs):kvs.map (·.1)=vs.map (·.1):=by
 unfold KV at r
 induction r with
 | nil=>rfl
 | cons h t ih=>rw [bR,bR,ih,h.1]
theorem KV.length{kvs:List (κ × V)}{vs:List (κ × Value)}(r:KV kvs vs):kvs.length=vs.length:=fR r
end
theorem uz{k:Key}(r:RelV (kV k) u):(bI P w).is k u=true:=by
 cases k with
 | inl i=>obtain ⟨t,e⟩:=(show ∃ t,u=Value.int i t from r); subst e; exact uw P w i t
 | inr x=>obtain ⟨t,e⟩:=(show ∃ t,u=Value.str x t from r); subst e; exact jm P w x t
theorem rg{P:Program}{w:World}:∀ {ks:List Key} {us:List Value},Vals (ks.map kV) us->ItemsAre (bI P w) ks us
 | [],_,r=>by rw [List.map_nil] at r; cases r; exact .nil
 | k :: ks,_,r=>by
  rw [bR] at r
  cases r with
  | cons h t=>exact .cons (uz h) (rg t)
abbrev KT(H:Hp):List (List Key × V)->List (List Key × Addr × Value)->Prop:=Paired λ p q=>p.1=q.1 /\ H q.2.1=some (.tup (p.1.map kV)) /\ RelV p.2 q.2.2
theorem KT.val(r:KT H kvs xs)(k:List Key):iK (iw kvs k) ((atKey xs k).map (·.2)):=by
 induction r with
 | nil=>exact dO
 | @cons p q ps qs h t ih =>
  obtain ⟨h1,_,h2⟩:=h
  by_cases e:p.1=k
  ·have e':q.1=k:=h1.symm.trans e
   have b:atKey (q :: qs) k=some q.2:=by simp [atKey,eE,e']
   rw [pC e,b]; exact h2
  ·have e':¬ q.1=k:=λ z=>e (h1.trans z)
   have b:atKey (q :: qs) k=atKey qs k:=by simp [atKey,eE,e']
   rw [pF e,b]; exact ih
theorem KT.repl(r:KT H kvs xs)(k:List Key)(ry:RelV y u):
  KT H (kvs.map λ kv=>if kv.1=k then (kv.1,y) else kv) (xs.map (putAt k u)):=by
 induction r with
 | nil=>exact .nil
 | @cons p q ps qs h t ih =>
  rw [bR,bR]
  refine .cons ?_ ih
  obtain ⟨h1,h2,h3⟩:=h
  unfold putAt
  by_cases e:p.1=k
  ·rw [if_pos e,if_pos (h1.symm.trans e)]; exact ⟨h1,h2,ry⟩
  ·rw [if_neg e,if_neg (λ z=>e (h1.trans z))]; exact ⟨h1,h2,h3⟩
theorem KT.put(r:KT H kvs xs)(k:List Key)(hb:H b=some (.tup (k.map kV)))(ry:RelV y u):
  KT H (putK kvs k y) (storedH xs k b u):=by
 have e:(kvs.any λ kv=>decide (kv.1=k))=(atKey xs k).isSome:=by
  rw [kQ,(r.val k).jP,Option.isSome_map]
 unfold putK storedH
 rw [e]
 by_cases q:(atKey xs k).isSome=true
 ·rw [if_pos q,if_pos q]; exact r.repl k ry
 ·rw [if_neg q,if_neg q]; exact cC r ⟨rfl,hb,ry⟩
theorem KT.keeps(r:KT H kvs xs)(ht:∀ b ys,H b=some (.tup ys)->H' b=some (.tup ys)):KT H' kvs xs :=
 Paired.AO r λ _ _ z=>⟨z.1,ht _ _ z.2.1,z.2.2⟩
section
variable {P:Program}{w:World}{H:Hp}{h:Heap}{a:Addr}
theorem JO{u:HO}(ok:j3 P w H h)(e:Rd H a u):bT P w H h a u:=e.ok ok
theorem JP{kvs:List (Key × V)}(ok:j3 P w H h)(e:Rd H a (.dK kvs)):kvs.length <= sizeLine /\ (a == sysModules)=false /\ ∃ vs,KV kvs vs /\ h.DictOf (bI P w) a vs :=
 show bT P w H h a (.dK kvs) from JO ok e
theorem PZ{kvs:List (Key × V)}(ok:j3 P w H h)(e:H a=some (.dK kvs)):kvs.length <= sizeLine /\ (a == sysModules)=false /\ ∃ vs,KV kvs vs /\ h.DictOf (bI P w) a vs:=JP ok (.inl e)
theorem xW{ks:List Key}(ok:j3 P w H h)(e:H a=some (.tup (ks.map kV))):(tupleKind (bI P w)).is h ks a:=by
 obtain ⟨_,its,r,o,h1,h2,n,h3⟩:=(show bT P w H h a (.tup (ks.map kV)) from ok a _ e)
 exact ⟨o,its.toArray,n,h1,h2,h3,by simpa using rg r⟩
theorem JQ(ok:j3 P w H h)(e:Rd H a (.dT kvs)):kvs.length <= sizeLine /\ (a == sysModules)=false /\
  ∃ xs,KT H kvs xs /\ h.DictOfH (tupleKind (bI P w)) a xs:=by
 obtain ⟨z,y,xs,r,o,es,ep,h1,h2,h3,h4,h5⟩:=(show bT P w H h a (.dT kvs) from JO ok e)
 refine ⟨z,y,xs,r,o,es,ep,h1,h2,h3,h4,λ x hx=>?_,h5⟩
 have all:∀ {l:List (List Key × V)} {m:List (List Key × Addr × Value)},KT H l m->∀ x∈m,(tupleKind (bI P w)).is h x.1 x.2.1:=by
  intro l m q
  induction q with
  | nil=>intro x hx; exact nomatch hx
  | @cons p q ps qs hq t ih =>
   intro x hx
   rcases aG.mp hx with e | hx
   ·subst e
    exact xW ok (by rw [<- hq.1]; exact hq.2.1)
   ·exact ih x hx
 exact all r x hx
theorem P0(ok:j3 P w H h)(e:H a=some (.dT kvs)):kvs.length <= sizeLine /\ (a == sysModules)=false /\
  ∃ xs,KT H kvs xs /\ h.DictOfH (tupleKind (bI P w)) a xs:=JQ ok (.inl e)
end
def xX(H:Hp)(a:Addr)(y:V)(r:Option V):Prop :=
 (∃ kvs k,Rd H a (.dK kvs) /\ y=kV k /\ r=iw kvs k) \/ ∃ kvs k b,Rd H a (.dT kvs) /\ y=.ref b /\ H b=some (.tup (k.map kV)) /\ r=iw kvs k
def uA(H:Hp)(a:Addr)(y v:V)(H':Hp):Prop :=
 (∃ kvs k,H a=some (.dK kvs) /\ y=kV k /\ kvs.length < sizeLine /\ H'=upd H a (.dK (putK kvs k v))) \/
 ∃ kvs k b,H a=some (.dT kvs) /\ y=.ref b /\ H b=some (.tup (k.map kV)) /\ kvs.length < sizeLine /\ H'=upd H a (.dT (putK kvs k v))
theorem xX.k{H:Hp}{a:Addr}{kvs:List (Key × V)}{k:Key}(e:H a=some (.dK kvs)):xX H a (kV k) (iw kvs k):=.inl ⟨kvs,k,.inl e,rfl,rfl⟩
theorem xX.t{a:Addr}{k:List Key}(e:H a=some (.dT kvs))(eb:H b=some (.tup (k.map kV))):xX H a (.ref b) (iw kvs k):=.inr ⟨kvs,k,b,.inl e,rfl,eb,rfl⟩
theorem uA.k{H:Hp}{a:Addr}{kvs:List (Key × V)}{k:Key}{v:V}(e:H a=some (.dK kvs))(hl:kvs.length < sizeLine):uA H a (kV k) v (upd H a (.dK (putK kvs k v))):=.inl ⟨kvs,k,e,rfl,hl,rfl⟩
theorem uA.t{a:Addr}{k:List Key}{v:V}(e:H a=some (.dT kvs))(eb:H b=some (.tup (k.map kV)))(hl:kvs.length < sizeLine):
  uA H a (.ref b) v (upd H a (.dT (putK kvs k v))):=.inr ⟨kvs,k,b,e,rfl,eb,hl,rfl⟩
section
variable {X:Cx}{pins:List (Addr × Obj)}{σ:St}{H:Hp}{s:Shared}{a:Addr}{y v:V}{u r:Value}{o:Option V}{A:Around}{E:Value->Shared->Prop}
theorem Inv.big(I:Inv X pins σ H s):sysModules < s.heap.objs.size:=by
 have h:mainGlobals < s.heap.objs.size:=(I.mod.glob.keeps I.bk).lt
 exact Nat.lt_trans (by decide) h
theorem GK{Q:Value->Shared->Prop}(hu:A.units + 1 < cLine)(I:Inv X pins σ H s)(g:xX H a y o)(ry:RelV y u)(h:∀ s',Inv X pins σ H s'->Q (.bool (!o.isSome)) s'):
  wpAny (model X.prog X.w) A (compareOp .NotIn u (.ref a)) Q E s:=by
 rcases g with ⟨kvs,k,e,ey,l⟩ | ⟨kvs,k,b,e,ey,eb,l⟩
 ·subst ey
  obtain ⟨z,hd,vs,rel,dd⟩:=JP I.hok e
  refine wpAny_notIn_of (uz ry) hd dd.mapOf ?_
  rw [<- (rel.val k).jP,<- l]
  exact h _ (I.tok _)
 ·subst ey
  cases (show u=Value.ref b from ry)
  obtain ⟨z,hd,xs,rel,dd⟩:=JQ I.hok e
  refine wpAny_notIn_heap (tupleKind_room_in1 hu) (xW I.hok eb) hd dd ?_
  have q:=(rel.val k).jP
  rw [Option.isSome_map] at q
  rw [<- q,<- l]
  exact h _ (I.tok _)
theorem sR{h':Heap}{ob:HO}(I:Inv X pins σ H s)(mu:O7 (H a))(hs:Heap.SameBut a s.heap h')(he:∃ q,h'.get? a=some q)(new:bT X.prog X.w (upd H a ob) h' a ob):
  Inv X pins σ (upd H a ob) { s with heap:=h',toks:=t' } :=
 I.write (x:=a) (e:=a) mu (.inl rfl) (λ b q hb z=>(hs.2 b hb).trans z) he new
theorem LO{h':Heap}{kvs:List (Key × V)}{vs:List (Key × Value)}(z:kvs.length <= sizeLine)(hd:(a == sysModules)=false)(rel:KV kvs vs)(dd:h'.DictOf (bI P w) a vs):
  bT P w H' h' a (.dK kvs):=⟨z,hd,vs,rel,dd⟩
theorem A2{Q:Unit->Shared->Prop}(hu:A.units + 1 < cLine)(I:Inv X pins σ H s)(g:uA H a y v H')(ry:RelV y u)(rv:RelV v r)(h:∀ s',Inv X pins σ H' s'->Q () s'):
  wpAny (model X.prog X.w) A (setItem (.ref a) u r) Q E s:=by
 rcases g with ⟨kvs,k,e,ey,l,eH⟩ | ⟨kvs,k,b,e,ey,eb,l,eH⟩
 ·subst ey eH
  obtain ⟨z,hd,vs,rel,dd⟩:=PZ I.hok e
  have hz:vs.length <= sizeLine:=by rw [<- rel.length]; exact z
  have hl:(putK kvs k v).length <= sizeLine:=by have:=jx kvs k v; omega
  refine wpAny_setItem_pairs (hsz:=hz) (uz ry) dd λ h' LP hs=>h _ ?_
  have he:∃ q,h'.get? a=some q:=let ⟨q,_,_,hq,_⟩:=LP; ⟨q,hq⟩
  exact sR I (by rw [e]; exact dO) hs he (LO hl hd (rel.put k rv) LP)
 ·subst ey eH
  cases (show u=Value.ref b from ry)
  obtain ⟨z,hd,xs,rel,dd⟩:=P0 I.hok e
  have hz:xs.length <= sizeLine:=by rw [<- fR rel]; exact z
  have hl:(putK kvs k v).length <= sizeLine:=by have:=jx kvs k v; omega
  refine wpAny_setItem_heap (hsz:=hz) (tupleKind_room_in1 hu) (xW I.hok eb) dd λ h' LP hs=>h _ ?_
  obtain ⟨q,es,ep,hq,h2,h3,h4,_,h5⟩:=LP
  refine sR I (by rw [e]; exact dO) hs ⟨q,hq⟩ ⟨hl,hd,_,(rel.put k eb rv).keeps λ c ys ec=>?_,q,es,ep,hq,h2,h3,h4,h5⟩
  rw [aR (qU ec e (λ z=>nomatch z))]
  exact ec
end
section
variable {X:Cx}{pins:List (Addr × Obj)}{σ:St}{H:Hp}{s:Shared}{a:Addr}{kvs:List (Key × V)}{k:Key}{u:Value}{A:Around}{E:Value->Shared->Prop}
end
def GL(i:Expr):Prop:=∀ ov iv,subscripted i false ov iv=operate [ov,iv] (getItem ov iv)
theorem zD{prog:Program}{A:Around}{E:Value->Shared->Prop}{env:Env}{value slice:Expr}{pos:Pos}{T id:String}{Q:Value->Shared->Prop}
  (hl:typeLookup (.type T) "__getitem__" = pure (some (.builtin id)))(hs:GL slice)
  (h:wpAny (model prog w) A (eval value env) (λ o s₁=>wpAny (model prog w) A (eval slice env) (λ i s₂=>s₂.TypeIs o T /\ wpAny (model prog w) A (getItem o i) Q E s₂) E s₁) E s):
  wpAny (model prog w) A (eval (.Subscript value slice pos) env) Q E s:=by
 refine Subscript_ (wpAny_mono h (λ o s₁ h₁=>wpAny_mono h₁ (λ i s₂ h₂=>?_) λ _ _ x=>x) λ _ _ x=>x)
 obtain ⟨hT,h₂⟩:=h₂
 unfold subscriptTail
 refine af ?_
 rw [getitemInPython_of_ne hT.not_modules]
 refine af (wpAny_specialOf hT hl ?_)
 have fin:wpAny (model prog w) A (subscripted slice false o i) (λ r s₃=>wpAny (model prog w) A (letTemporaryGo value o r >>= λ _=>pure r) Q E s₃) E s₂:=by
  rw [hs o i]
  exact wpAny_operating (wpAny_mono h₂ (λ r s₃ h₃=>af (wpAny_letTemporaryGo (aE h₃))) λ _ _ x=>x)
 first
  | exact aE (af fin)
  | exact af (aE (af fin))
  | exact af fin
def zE(ty td:TE):TE:=λ σ H Q=>ty σ H λ y H1=>td σ H1 λ x H2=>∃ a o,x=.ref a /\ xX H2 a y o /\ Q (.bl (!o.isSome)) H2
def JR(td ty tv:TE):TS:=λ D σ H=>tv σ H λ v H1=>td σ H1 λ x H2=>ty σ H2 λ y H3=>∃ a H4,x=.ref a /\ uA H3 a y v H4 /\ D.nx σ H4
section
variable {X:Cx}{o i e value:Expr}{pos pos' tpos:Pos}{td ty tv:TE}
theorem A3(hu:X.A.units + 1 < cLine)(hi:PE X i ty)(ho:PE X o td):PC X .NotIn i o (zE ty td):=by
 intro pins s σ H Q I h
 refine bV (hi pins s σ H _ I h) λ iv s1 ⟨y,H1,I1,ry,q1⟩=>bV (ho pins s1 σ H1 _ I1 q1) λ u s2 ⟨x,H2,I2,rx,a,ov,ex,g,q2⟩=>?_
 subst ex
 obtain rfl:u=Value.ref a:=rx
 exact GK hu I2 g ry λ s3 I3=>⟨.bl (!ov.isSome),H2,I3,rfl,q2⟩
theorem zF(hu:X.A.units + 1 < cLine)(ho:PE X o td)(hi:PE X i ty)(hv:PE X value tv)(hs:swapsWith value (some (.Subscript o i pos')) pos.line X.env=pure false):
  PS X (.Assign [.Subscript o i pos'] value pos) (JR td ty tv):=by
 intro pins s σ H D I h
 refine wpAny_Assign_Subscript (bV (hv pins s σ H _ I h) λ r s1 ⟨v,H1,I1,rv,q1⟩=>bV (ho pins s1 σ H1 _ I1 q1) λ u s2 ⟨x,H2,I2,rx,q2⟩=>bV (hi pins s2 σ H2 _ I2 q2) λ iv s3 ⟨y,H3,I3,ry,a,H4,ex,g,q3⟩=>?_) hs
 subst ex
 obtain rfl:u=Value.ref a:=rx
 exact A2 hu I3 g ry rv λ s4 I4=>⟨σ,H4,I4,q3⟩
end
theorem Df(h:Heap)(hb:sysModules < h.objs.size):bT P w H (h.push { cls:=.type "dict", data:=.dict #[] }) h.objs.size (.dK []) :=
 ⟨aO _,beq_eq_false_iff_ne.mpr (aV (aM hb)),[],.nil,Heap.DictOf.new h⟩
theorem Dg(h:Heap)(hb:sysModules < h.objs.size):bT P w H (h.push { cls:=.type "dict", data:=.dict #[] }) h.objs.size (.dT []) :=
 ⟨aO _,beq_eq_false_iff_ne.mpr (aV (aM hb)),[],.nil,_,#[],0,fK _ rfl,⟨rfl,rfl,rfl⟩,rfl,rfl,iI⟩
def Dh:TE:=λ _ H Q=>∀ p,H p=none->Q (.ref p) (upd H p (.dK []))
def Di:TE:=λ _ H Q=>∀ p,H p=none->Q (.ref p) (upd H p (.dT []))
section
variable {X:Cx}{pos:Pos}
theorem Dj:PE X (.Dict [] [] pos) Dh:=λ pins s σ H Q I h =>
 wpAny_Dict_empty ⟨.ref s.heap.objs.size,_,I.laid (a:=s.heap.objs.size) (o:=.dK []) (t':=s.toks) (λ _ _ q=>bO _ q) (ay _) (Df s.heap I.big),rfl,h _ (I.hok.fresh (ay _))⟩
theorem Dk:PE X (.Dict [] [] pos) Di:=λ pins s σ H Q I h =>
 wpAny_Dict_empty ⟨.ref s.heap.objs.size,_,I.laid (a:=s.heap.objs.size) (o:=.dT []) (t':=s.toks) (λ _ _ q=>bO _ q) (ay _) (Dg s.heap I.big),rfl,h _ (I.hok.fresh (ay _))⟩
end
section
variable {X:Cx}{pins:List (Addr × Obj)}{σ:St}{H:Hp}{s:Shared}{a:Addr}{y d:V}{u r:Value}{o:Option V}{A:Around}{E:Value->Shared->Prop}
end
section
variable {X:Cx}{o e f:Expr}{apos cpos:Pos}{td ty tx:TE}
end
section
variable {X:Cx}{pins:List (Addr × Obj)}{σ:St}{H:Hp}{s:Shared}{a:Addr}{kvs:List (Key × V)}{A:Around}{E:Value->Shared->Prop}
end
section
variable {X:Cx}{pins:List (Addr × Obj)}{σ:St}{H:Hp}{s:Shared}{a:Addr}{y:V}{u:Value}{A:Around}{E:Value->Shared->Prop}
end
end L2
namespace X9
open PySem PySem.W PySem.Calls PyProof.Rows
theorem nG{P:Params}{h:Heap}:∀ (ns:List Int) (vs:List Value),WellAll P h vs (ns.map WData.int)->IntsAre vs ns:=by
 intro ns
 induction ns with
 | nil =>
  intro vs w
  rw [List.map_nil] at w
  cases w
  exact .nil
 | cons n ns ih =>
  intro vs w
  rw [bR] at w
  cases w with
  | cons a b =>
   cases a
   exact .cons _ _ (ih _ b)
theorem A4{l:OpenLaw}{n:Nat}(hn:l.most=some n){P:Params}{h:Heap}{args:List WData}{vals:List Value}
  (hpre:l.row.toRowW.claim.pre args=true)(hwl:WellAll P h vals args):
  ∃ a vs ns,vals=[Value.ref a] /\ args=[WData.list (ns.map WData.int)] /\ h.get? a=some { cls:=.type "list", data:=.seq vs.toArray } /\ IntsAre vs ns /\ ns.length <= n:=by
 have hsh:WShape.hasAll [] args [.list .int]=true:=(pre_splitW hpre).1
 have hc:l.pre.holds [] { args:=args }=true:=(pre_splitW hpre).2
 obtain ⟨d,r,rfl,h1,h2⟩:=hasAllW_cons hsh
 obtain rfl:=hasAllW_nil h2
 obtain ⟨xs,rfl,h3⟩:=hasW_list h1
 obtain ⟨ns,rfl⟩:=items_int h3
 have hlen:ns.length <= n:=by
  unfold OpenLaw.pre at hc
  have h4:(WTm.not (.lt (.lit (.int (n:Int))) (.len (.arg 0)))).holds [] { args:=[.list (ns.map .int)] }=true:=by
   have h4:=(holds_andW hc).1
   rw [hn] at h4
   exact h4
  have h5:=condW_of h4 (w_not (w_lt w_lit (w_len_list (w_arg rfl))))
  rw [au] at h5
  refine Nat.le_of_not_lt λ q=>?_
  have q':(n:Int) < ((ns.length:Nat):Int):=by omega
  first
   | (rw [decide_eq_true q'] at h5; exact absurd h5 (by decide))
   | (simp at h5; omega)
 cases hwl with
 | cons w1 w2 =>
  cases w2
  cases w1 with
  | list ho hall=>exact ⟨_,_,ns,rfl,rfl,ho,nG ns _ hall,hlen⟩
theorem A5(l:OpenLaw)(args:List WData):l.row.toRowW.claim.post args (.bool true) args=true :=
 postW_of (r:=l.row.toRowW) (X:=(true == true))
  (show WShape.has [] (.bool true) .bool=true by first | rfl | decide | simp [WShape.has,WShape.arms,WShape.armsAll])
  (show (WTm.eq .res (.lit (.bool true))).value [] { args:=args,res:=some (.bool true),after:=args }=some (.bool (true == true)) from w_eq_bool (w_res rfl) w_lit) rfl
theorem uB{l:OpenLaw}{n:Nat}{q:Program}{loose:List Str}{XP:(Str->Option Value)->Heap->Prop}{YP:World->Heap->Prop}{d:DefRec}
  (hn:l.most=some n)(hdf:d.params.defaults=[])
  (call:∀ (w:World) (s₀ s₁:Shared) (mg mb:Str->Option Value) (fa:Addr) (o:Obj) (pm cd doc:Value) (a:Addr) (vs:List Value) (ns:List Int),
   Ground q loose [] XP w s₀ mg mb s₁.heap->YP w s₁.heap ->
   s₁.heap.get? fa=some o->o.data=.func (docDef d.name d.params d.body d.scope pm cd doc)->s₁.heap.CodeRec cd d.name->mg d.name=some (.ref fa) ->
   s₁.heap.get? a=some { cls:=.type "list", data:=.seq vs.toArray } -> IntsAre vs ns->ns.length <= n->s₁.gens=#[] ->
   codeAny (model l.prog w) callerA (.call (.ref fa) ⟨[.ref a],[]⟩) (λ r s'=>r=.ok (.ret (.bool true)) /\ OldK s₁.heap s'.heap /\ s'.os=s₁.os /\ AllBare s'.gens) s₁):
  WalkO q loose XP YP l.row.toRowW d [] (λ f vs=>PySem.call f vs):=by
 intro w s₀ s₁ mg mb G Y fa o pm cd doc dV kV ho hd hcd hD hmg hg args vals as hpre hlay hrd hwl hlo
 obtain rfl:dV=.none:=Dflts.none hD hdf
 obtain rfl:kV=.none:=Dflts.noKw hD
 obtain ⟨a,vs,ns,rfl,rfl,hobj,hints,hlen⟩:=A4 hn hpre hwl
 refine enter_call (codeAny_mono (call w s₀ s₁ mg mb fa o pm cd doc a vs ns G Y ho (fd_plain hd) hcd hmg hobj hints hlen hg) λ r s' hq=>?_)
 obtain ⟨rfl,h2,h3,h4⟩:=hq
 exact ⟨.inl ⟨.bool true,.bool true,[],rfl,λ _=>rfl,.bool true,A5 l _,λ _=>⟨List.Pairwise.nil,λ _ hm=>(nomatch hm)⟩⟩,h2,h3,h4⟩
section
variable {prog:Program}{w:World}{A:Around}{E:Value->Shared->Prop}{s:Shared}{K:Frag}
end
end X9
namespace L2
open PySem PySem.Spec PyProof.Rows
variable {k:Nat}{fd:FuncData}{x qual:Str}{st:Stmt}{f:Addr}{H:Hp}
theorem rj:∀ {vs:List Value} {ns:List Int},IntsAre vs ns->Vals (ns.map V.int) vs
 | _,_,.nil=>.nil
 | _,_,.cons n t h=>.cons ⟨t,rfl⟩ (rj h)
def LQ(H:Hp):Prop:=∀ b,H b=none \/ ∃ o xs,H b=some (.zm o (.lst xs))
theorem Dl{P:Program}{w:World}{K:az}{mg mb:Str->Option Value}{CX:xO}{fa a:Addr}{sp:Sp}{s₁:Shared}{vs:List Value}{ns:List Int}
  (KX:K.In s₁.heap)(hns:s₁.heap.Ns mainGlobals mg)(hb:s₁.heap.Ns builtinsNs mb)(Zp:∀ x:Str,x ≠ "__name__" -> mb x=bootBuiltins x)(hlim:s₁.heap.NoLimit)(hg:s₁.gens=#[])
  (ha:s₁.heap.get? a=some { cls:=.type "list", data:=.seq vs.toArray })(hi:IntsAre vs ns)(hl:ns.length <= sizeLine)(hr:ef k callerA)
  (F:∀ base:Heap,K.In base->base.Ns mainGlobals mg->bN P w K mg base CX k fa fd [x] sp)(hbind:∀ (s:Shared) (u:Value),BindsTo s fd ⟨[u],[]⟩ [(x,u)])
  (zu:∀ H:Hp,LQ H->bK K H a (ns.map V.int)->sp [.ref a] H (λ v _=>v=.bl true) λ _ _ _=>False)
  (Vi:∀ H e s',CX [] H s₁ (λ _ _ _=>False) e s'->False):
  codeAny (model P w) callerA (.call (.ref fa) ⟨[.ref a],[]⟩) (λ r s'=>r=.ok (.ret (.bool true)) /\ OldK s₁.heap s'.heap /\ s'.os=s₁.os /\ AllBare s'.gens) s₁:=by
 have rv:=rj hi
 have Vj:=hi.length
 have core:∀ H:Hp,LQ H->bK K H a (ns.map V.int)->j3 P w H s₁.heap->(∀ b,H b ≠ none->b=a)->(H a ≠ none->K.lookup a=none) ->
   codeAny (model P w) callerA (.call (.ref fa) ⟨[.ref a],[]⟩) (λ r s'=>r=.ok (.ret (.bool true)) /\ OldK s₁.heap s'.heap /\ s'.os=s₁.os /\ AllBare s'.gens) s₁:=by
  intro H hO hS hok hA hK
  have zG:∀ {b:Addr} {o:Obj},s₁.heap.get? b=some o->H b=none->(sF s₁.heap H).get? b=some o:=λ e n=>CK e n
  have PL:∀ {b:Addr} {o:Obj} {es:Array DictEntry} {ep:Nat},s₁.heap.get? b=some o->o.data=.dict es ep->H b=none:=λ {b o es ep} e d=>by
   cases q:H b with
   | none=>rfl
   | some u =>
    have e':b=a:=hA b (by rw [q]; simp)
    subst e'
    rw [ha] at e; cases e
    have d':Data.seq vs.toArray _=Data.dict es ep:=d
    cases d'
  have Tv:∀ {b:Addr} {m:Str->Option Value},s₁.heap.Ns b m->(sF s₁.heap H).Ns b m:=λ {b m} ⟨o,es,ep,e,d,r⟩=>⟨o,es,ep,zG e (PL e d),d,r⟩
  have Yb:K.In (sF s₁.heap H):=λ b o e=>zG (KX b o e) (by
   cases q:H b with
   | none=>rfl
   | some u =>
    have e':b=a:=hA b (by rw [q]; simp)
    subst e'
    rw [hK (by rw [q]; simp)] at e; cases e)
  have hM:Mod K mg (sF s₁.heap H):=⟨Yb,Tv hns,⟨mb,Tv hb,Zp⟩,let ⟨mc,h1,h2⟩:=hlim; ⟨mc,Tv h1,h2⟩⟩
  have e0:qE P w K mg (sF s₁.heap H) callerA [] s₁ H:=⟨rfl,hM,λ b o e=>Gv e,Nat.le_of_eq (AQ _ _),trivial,λ b hb=>absurd (show b∈([]:List Addr) from hb) (by simp),hok,.of_eq hg⟩
  refine codeAny_mono ((F _ Yb (Tv hns)).run callerA [] s₁ H ⟨[.ref a],[]⟩ [.ref a] [.ref a] _ _ hr e0 (hbind s₁ (.ref a)) (.cons rfl .nil) (zu H hO hS)) λ r s' h=>?_
  cases r with
  | error e=>exact (Vi H e s' h).elim
  | ok fl =>
   cases fl with
   | next=>exact False.elim h
   | brk=>exact False.elim h
   | cont=>exact False.elim h
   | ret u =>
    obtain ⟨v,H',os,bare,un,Vk,r',q⟩:=h
    have q':v=.bl true:=q
    subst q'
    obtain rfl:u=Value.bool true:=r'
    refine ⟨rfl,OldK.of_keep λ b o e=>?_,os,bare⟩
    cases q:H b with
    | none=>exact un.keep b o e q (by intro z; exact absurd (show b∈([]:List Addr) from z) (by simp)) (by simp)
    | some u =>
     rcases hO b with z | ⟨ob,xs,z⟩
     ·rw [q] at z; cases z
     ·have z2:=un.ku b ob _ z
      obtain ⟨e1,_⟩:=hok b _ z
      obtain ⟨e2,_⟩:=Vk b _ z2
      rw [e] at e1; cases e1
      exact e2
 cases hk:K.lookup a with
 | some o =>
  have e:=KX a o hk
  rw [ha] at e
  cases e
  refine core (λ _=>none) (λ _=>.inl rfl) (.inr ⟨_,vs.toArray,_,hk,rfl,rfl,rfl,by rw [aT,Vj]; exact hl,by simpa using rv⟩) (λ b u z=>by have z':(none:Option HO)=some u:=z; cases z') (λ b z=>absurd rfl z) λ z=>absurd rfl z
 | none =>
  refine core (λ b=>if b=a then some (.zm { cls:=.type "list", data:=.seq vs.toArray } (.lst (ns.map V.int))) else none) (λ b=>?_) (.inl (.inr ⟨{ cls:=.type "list", data:=.seq vs.toArray },if_pos rfl⟩)) (λ b u z=>?_) (λ b z=>?_) λ _=>hk
  ·by_cases hb:b=a
   ·exact .inr ⟨_,_,if_pos hb⟩
   ·exact .inl (if_neg hb)
  ·by_cases hb:b=a
   ·have z':=(if_pos hb).symm.trans z
    cases z'
    subst hb
    exact ⟨ha,by rw [au]; exact hl,vs,_,rv,ha⟩
   ·have z':=(if_neg hb).symm.trans z
    cases z'
  ·by_cases hb:b=a
   ·exact hb
   ·exact absurd (if_neg hb) z
abbrev KOf{K:az}{h:Heap}(_:K.In h):az:=K
theorem GN{l:PySem.W.OpenLaw}{n:Nat}{q:Program}{loose:List Str}{XP:(Str->Option Value)->Heap->Prop}{YP:World->Heap->Prop}{d:DefRec}{K:Params->az}{CX:World->xO}{sp:World->Sp}
  (hn:l.most=some n)(hn2:n <= sizeLine)(hdf:d.params.defaults=[])(hr:ef k callerA)
  (hY:∀ (w:World) (h:Heap),YP w h->(K w.params).In h)
  (F:∀ (w:World) (mg:Str->Option Value) (fa:Addr) (h:Heap),(K w.params).In h->h.Ns mainGlobals mg->mg d.name=some (.ref fa) ->
   ∃ fd:FuncData,(∀ (s:Shared) (u:Value),BindsTo s fd ⟨[u],[]⟩ [(x,u)]) /\
    ∀ base:Heap,(K w.params).In base->base.Ns mainGlobals mg->bN l.prog w (K w.params) mg base (CX w) k fa fd [x] (sp w))
  (zu:∀ (w:World) (H:Hp) (a:Addr) (ns:List Int),ns.length <= n->LQ H->bK (K w.params) H a (ns.map V.int)->sp w [.ref a] H (λ v _=>v=.bl true) λ _ _ _=>False)
  (Vi:∀ (w:World) (H:Hp) (s:Shared) (e:Value) (s':Shared),CX w [] H s (λ _ _ _=>False) e s'->False):
  PySem.W.WalkO q loose XP YP l.row.toRowW d [] (λ f vs=>PySem.call f vs):=by
 refine X9.uB hn hdf λ w s₀ s₁ mg mb fa o pm cd doc a vs ns G Y ho hd hcd hmg hobj hints hlen hg=>?_
 have KX:=hY w _ Y
 obtain ⟨fd,hb,hF⟩:=F w mg fa _ KX G.T.g hmg
 exact Dl KX G.T.g G.T.b G.T.builtins G.T.nolimit hg hobj hints (bq hlen hn2) hr hF hb (λ H hO hS=>zu w H a ns hlen hO hS) λ H e s'=>Vi w H s₁ e s'
def inClass(s:Stmt)(j:Nat):Stmt:=match s with
 | .ClassDef _ _ _ body _ _ _ _ _ _ _=>body.getD j (.Pass ⟨0,0,0,0⟩)
 | _=>.Pass ⟨0,0,0,0⟩
def fU(s:Stmt):Arguments:=match s with
 | .FunctionDef _ a _ _ _ _ _ _ _ _=>a
 | _=>{ posonlyargs:=[],args:=[],vararg:=none,kwonlyargs:=[],kw_defaults:=[],kwarg:=none,defaults:=[] }
def dQ(s:Stmt):List Stmt:=match s with
 | .FunctionDef _ _ b _ _ _ _ _ _ _=>b
 | _=>[]
def aB(s:Stmt):Scope:=match s with
 | .FunctionDef _ _ _ _ _ _ sc _ _ _=>sc
 | _=>{ kind:=.function,names:=[],isGenerator:=false,isCoroutine:=false }
abbrev gJ:xO:=λ _ _ _ _ _ _=>False
abbrev E0:XK:=λ _ _ _=>False
theorem JS{X:Cx}:Passes gJ X E0:=λ _ _ _ _ _ _ _ h=>h.elim
structure GO (K:az) (x qual:Str) (st:Stmt) (f:Addr) (fd:FuncData):Prop where
 ex:∃ (oc:Value) (od:Option Addr) (kV doc pm:Value) (an:Option Addr) (cdv ct:Value) (osl:Array (Option Value)),
  fd=PySem.W.fnOf x qual (fU st) (dQ st) (aB st) .none kV doc pm an cdv ct /\ K.lookup f=some ⟨oc,od,.func fd,osl⟩ /\ PySem.W.codeIn K cdv qual=true
 kp:PySem.W.keepIn K (.ref f)=true
section
variable {P:Program}{w:World}{K:az}{mg:Str->Option Value}{base:Heap}
theorem GO.ok{N ps:List Str}{sp:Sp}(F:GO K x qual st f fd)(S:aP N ps (aB st))(len:∀ vs H Q E,sp vs H Q E->vs.length=ps.length)
  (hbody:∀ (cdv:Value) (A:Around) (outer:List Env) (s:Shared) (H:Hp) (vs:List V) (Q:VK) (E:XK),ef k (A.deeper (envOfC qual (aB st) s.heap.objs.size f cdv))->sp vs H Q E ->
   ∃ t,nE (nF gJ P w K mg base N qual (aB st) f cdv A outer s H E).AS (dQ st) t /\ t { nx:=λ _ H'=>Q .bZ H',rt:=Q } (start N vs) H):bN P w K mg base gJ (k + 1) f fd ps sp:=by
 obtain ⟨oc,od,kV,doc,pm,an,cdv,ct,osl,rfl,lk,hcd⟩:=F.ex
 refine C4 lk hcd S len λ A outer s H vs Q E hr zu=>?_
 obtain ⟨t,h,q⟩:=hbody cdv A outer s H vs Q E hr zu
 exact ⟨t,h.AS,q⟩
theorem GO.binds{ps:List Str}(F:GO K x qual st f fd)
  (h:∀ (kV doc pm:Value) (an:Option Addr) (cdv ct:Value) (us:List Value),us.length=ps.length->bindArgs (PySem.W.fnOf x qual (fU st) (dQ st) (aB st) .none kV doc pm an cdv ct) ⟨us,[]⟩=pure (ps.zip us)):Binds K fd ps []:=by
 obtain ⟨oc,od,kV,doc,pm,an,cdv,ct,osl,rfl,lk,hcd⟩:=F.ex
 exact .all (h kV doc pm an cdv ct)
theorem sS{oc:Value}{od an:Option Addr}{osl:Array (Option Value)}{kV doc pm cdv ct:Value}(l:K.lookup f=some ⟨oc,od,.func (PySem.W.fnOf x qual (fU st) (dQ st) (aB st) .none kV doc pm an cdv ct),osl⟩)
  (c:PySem.W.codeIn K cdv qual=true)(k:PySem.W.keepIn K (.ref f)=true):GO K x qual st f (PySem.W.fnOf x qual (fU st) (dQ st) (aB st) .none kV doc pm an cdv ct):=⟨⟨oc,od,kV,doc,pm,an,cdv,ct,osl,rfl,l,c⟩,k⟩
end
theorem Dm{A:Around}(hr:ef k A):A.units + 1 < cLine:=Nat.lt_of_le_of_lt (Nat.add_le_add_left (by decide:1 <= 64) _) hr.units
theorem A6{n:Nat}(h:n <= 1000):n < sizeLine:=Nat.lt_of_le_of_lt h (by decide)
section
variable {X:Cx}
theorem pv(i:Nat){pos:Pos}(hN:X.N[i]? = some x:=by rfl)(hv:Tp X.env.scope x:=by first | exact aq rfl | exact bH (aq rfl) | exact bH (bH rfl))(hd:(x == ("__debug__" : Str))=false:=by decide)
  (hcd:(x == ("__classdict__" : Str))=false:=by decide):PE X (.Name x pos) (j4 i):=Lf hN hv hd hcd
end
theorem P1{A B:Prop}(h:B):if false=true then A else B:=by
 rw [if_neg j0]
 exact h
theorem LR{A B:Prop}(h:A):if true=true then A else B:=by
 rw [if_pos rfl]
 exact h
def aD(H H':Hp):Prop:=∀ b o,H b=some o->H' b=some o
theorem aD.refl(H:Hp):aD H H:=λ _ _ h=>h
theorem aD.trans{H1 H2:Hp}(a:aD H H1)(b:aD H1 H2):aD H H2:=λ c o h=>b c o (a c o h)
theorem aD.free{H':Hp}(e:aD H H'){l:Addr}(h:H' l=Option.none):H l=Option.none:=by
 cases q:H l with
 | none=>rfl
 | some o =>
  rw [e l o q] at h
  cases h
theorem aD.seq{K:az}{H':Hp}{a:Addr}{xs:List V}(e:aD H H')(h:bK K H a xs):bK K H' a xs:=by
 rcases h with (h | ⟨o,h⟩) | h
 ·exact .inl (.inl (e _ _ h))
 ·exact .inl (.inr ⟨o,e _ _ h⟩)
 ·exact .inr h
section
variable {X:Cx}
end
section
variable {κ:Type} [DecidableEq κ]
end
end L2
namespace BT
open PySem
theorem gK:bootBuiltins "len" = some (.builtin "len"):=by decide +kernel
theorem eN:bootBuiltins "isinstance" = some (.builtin "isinstance"):=by decide +kernel
theorem LS:bootBuiltins "bool" = some (.type "bool"):=by decide +kernel
theorem Dp:bootBuiltins "list" = some (.type "list"):=by decide +kernel
theorem GP:bootBuiltins "tuple" = some (.type "tuple"):=by decide +kernel
theorem Dq:bootBuiltins "dict" = some (.type "dict"):=by decide +kernel
theorem Dr:bootBuiltins "set" = some (.type "set"):=by decide +kernel
end BT
namespace L2
open PySem PySem.Spec PyProof.Rows
variable {pos px:Pos}{elt iter:Expr}{ifs:List Expr}{scope:Scope}{x:Str}{cl:List (Str × Addr)}{fr:List Str}{ix:List Nat}{tt:TT}{te:TE}
section
variable {X:Cx}
def GQ(t u:TS):TS:=λ D σ H=>∃ J:St->Hp->Prop,t { D with nx:=J } σ H /\ ∀ σ' H',J σ' H'->u D σ' H'
theorem nP{st:Stmt}{rest:List Stmt}{t u:TS}(h1:PS X st t)(h2:nE X rest u):nE X (st :: rest) (GQ t u):=by
 intro pins s σ H D I h
 obtain ⟨J,h,k⟩:=h
 refine wpAny_execs_cons (bV (h1 pins s σ H _ I h) λ f s1 q=>?_)
 cases f with
 | next =>
  obtain ⟨σ1,H1,I1,j⟩:=q
  exact h2 pins s1 σ1 H1 D I1 (k σ1 H1 j)
 | brk=>exact q
 | cont=>exact q
 | ret u=>exact q
def P4(c:TT)(t u:TS):TS:=λ D σ H=>∃ Jt Jf:Hp->Prop,(c σ H λ b H1=>if b=true then Jt H1 else Jf H1) /\ (∀ H1,Jt H1->t D σ H1) /\ ∀ H1,Jf H1->u D σ H1
theorem LU{c:Expr}{a b:List Stmt}{tc:TT}{t u:TS}(hc:PT X c tc)(ha:nE X a t)(hb:nE X b u):PS X (.If c a b pos) (P4 tc t u):=by
 intro pins s σ H D I h
 obtain ⟨Jt,Jf,h,h1,h2⟩:=h
 refine wpAny_If (bV (hc pins s σ H _ I h) λ v s1 ⟨H1,I1,q1⟩=>?_)
 cases v with
 | true=>exact ha pins s1 σ H1 D I1 (h1 H1 q1)
 | false=>exact hb pins s1 σ H1 D I1 (h2 H1 q1)
end
section
variable {prog:Program}{w:World}{A:Around}{R:Result->Shared->Prop}{s:Shared}
theorem kR{target:Expr}{it acc:Value}{env:Env}(I:Nat->Shared->Prop)
  (turn:∀ n s,I n s->wpAny (model prog w) A (pyNext it) (λ r s₁=>match r with
   | none=>R (.ok .next) s₁
   | some v=>wpAny (model prog w) A (letOwnedTupleGo target it v) (λ _ s₀=>wpAny (model prog w) A (assign target env v) (λ _ s₂ =>
     wpAny (model prog w) A (forIn ifs true λ c r=>if r=true then do let ok <- isTrue c env (eval c env); pure (ForInStep.yield ok) else pure (ForInStep.yield r)) (λ ok s₃ =>
      if ok=true then wpAny (model prog w) A (eval elt env) (λ x s₄ =>
       wpAny (model prog w) A (call (.builtin "list.append") [acc,x]) (λ _ s₅=>∃ m,m < n /\ I m s₅) (notedBy (model prog w) A env λ e s'=>R (.error e) s') s₄) (notedBy (model prog w) A env λ e s'=>R (.error e) s') s₃
      else ∃ m,m < n /\ I m s₃) (notedBy (model prog w) A env λ e s'=>R (.error e) s') s₂) (notedBy (model prog w) A env λ e s'=>R (.error e) s') s₀) (notedBy (model prog w) A env λ e s'=>R (.error e) s') s₁) (notedBy (model prog w) A env λ e s'=>R (.error e) s') s)
  (n:Nat)(h:I n s):
  codeAny (model prog w) A (.compLoop (.ListComp elt [⟨target,iter,ifs,0⟩] scope pos) 0 it acc env) R s:=by
 refine codeAny_loop rfl I (λ n s hI=>?_) n h
 show wpAny _ A ((compTurn (.ListComp elt [⟨target,iter,ifs,0⟩] scope pos) 0 it acc env).onRaise (λ x=>do noteFrame x env; theTreesLotGoes x)) _ _ s
 refine wpAny_noted ?_
 rw [compTurn_list]
 refine af (wpAny_standAt (af (wpAny_mono (turn n s hI) (λ r s₁ h₁=>?_) λ _ _ h'=>h')))
 cases r with
 | none=>exact aE h₁
 | some v =>
  refine af (wpAny_mono h₁ (λ _ s₀ h₀=>?_) λ _ _ h'=>h')
  refine af (wpAny_mono h₀ (λ _ s₂ h₂=>af (wpAny_mono h₂ (λ ok s₃ h₃=>?_) λ _ _ h'=>h')) λ _ _ h'=>h')
  cases ok with
  | false=>exact aE ⟨rfl,h₃⟩
  | true =>
   exact af (af (wpAny_mono h₃ (λ x s₄ h₄=>af (wpAny_mono h₄ (λ _ s₅ h₅=>aE (aE ⟨rfl,h₅⟩)) λ _ _ h'=>h')) λ _ _ h'=>h'))
end
def j6(X:Cx)(N:List Str)(scope:Scope)(cl:List (Str × Addr))(C:Addr)(fp:List Addr)(s:Shared)(H:Hp):Cx where
 prog:=X.prog
 w:=X.w
 K:=X.K
 mg:=X.mg
 base:=X.base
 A:=X.A
 N:=N
 s₀:=s
 H₀:=H
 env:=compEnvC scope cl C X.env
 outer:=X.stack
 stack:=X.stack
 ex:=fp
 fn:=λ _=>false
 calm:=X.calm
 pn:=[]
 xe:=λ _ _=>False
structure bA (X:Cx) (scope:Scope) (cl:List (Str × Addr)) (x:Str) (fr:List Str) (ix:List Nat):Prop where
 calm:X.calm=true
 clos:closureFor scope X.env=pure cl
 cell:∀ y∈scope.names,y.2 ≠ .cell
 kind:scope.kind=.function
 names:∀ y∈scope.names,y.2=.local->scope.names.lookup y.1=some .local
 loc:scope.names.lookup x=some .local
 nd:(x :: fr).Nodup
 OU:∀ y c,cl.lookup y=some c->X.env.cells.lookup y=some c
 JT:∀ y,((relabel scope X.env).names.lookup y=some .cell \/ (relabel scope X.env).names.lookup y=some .free)->∃ c,cl.lookup y=some c
 fx:∀ (j:Nat) y,fr[j]? = some y->∃ i:Nat,ix[j]? = some i /\ X.N[i]? = some y /\ (X.env.kindOf y=some .cell \/ X.env.kindOf y=some .free) /\ ((relabel scope X.env).names.lookup y=some .cell \/ (relabel scope X.env).names.lookup y=some .free)
 len:fr.length=ix.length
def PF(X:Cx)(ifs:List Expr)(t:TT):Prop :=
 ∀ (pins:List (Addr × Obj)) (s:Shared) (σ:St) (H:Hp) (Q:Bool->Hp->Prop),Inv X pins σ H s->t σ H Q ->
  wpAny (model X.prog X.w) X.A (forIn ifs true λ c r=>if r=true then do let ok <- isTrue c X.env (eval c X.env); pure (ForInStep.yield ok) else pure (ForInStep.yield r)) (TP X pins σ Q) X.xe s
def LV:TT:=λ _ H Q=>Q true H
theorem cZ{X:Cx}:PF X [] LV:=λ _ _ _ H _ I h=>wpAny_tests_nil ⟨H,I,h⟩
theorem mH{X:Cx}{c:Expr}{t:TT}(h:PT X c t):PF X [c] t:=λ pins s σ H Q I q=>wpAny_tests_one (h pins s σ H Q I q)
def cut(ix:List Nat)(σ:St):St:=ix.map λ i=>(σ[i]?).join
section
variable {X:Cx}{pins:List (Addr × Obj)}{σ:St}{H:Hp}{s:Shared}
theorem Inv.uC{D:Addr}{o:HO}(I:Inv X pins σ H s)(f:fT X pins H D)(new:bT X.prog X.w (upd H D o) s.heap D o):Inv X pins σ (upd H D o) s:=by
 have hn:H D=none:=f.1
 have ne:∀ b u,H b=some u->b ≠ D:=λ b u e=>bw e hn
 have hok:j3 X.prog X.w (upd H D o) s.heap:=λ b u e=>by
  by_cases hb:b=D
  ·subst hb
   rw [cL] at e; cases e
   exact new
  ·rw [aR hb] at e
   exact (I.hok b u e).stay (λ _ _ _ q=>q) (λ c q=>by rw [aR (ne _ _ q)]; exact q) λ c xs q=>by rw [aR (ne _ _ q)]; exact q
 exact I.step (H':=upd H D o) (h':=s.heap) (g':=s.gens) (t':=s.toks) (d':=s.drawn) (ch:=[D]) (λ b hb=>by
   have e:b=D:=by simpa using hb
   subst e; exact ⟨f.2.2.2.1,f.2.1,f.2.2.2.2.1,f.2.2.2.2.2⟩)
  (λ b o _ _ _ e _=>e) (λ b o _ _ _ e _=>⟨o.slots,e⟩) (λ b o hb e n=>by rw [aR (λ z=>hb (by simp [z]))]; exact n)
  (λ b o _ e=>⟨o,e⟩) (λ b xs e=>by rw [aR (ne _ _ e)]; exact e) (λ b o u e=>by rw [aR (ne _ _ e)]; exact e) (λ b ps e=>⟨#[],by rw [aR (ne _ _ e),e]; simp⟩)
  (λ m hm=>hm) hok I.bare
theorem pG{E:Value->Shared->Prop}{RR:Value->Addr->Result->Shared->Prop}
  (O:bA X scope cl x fr ix)(ht:∀ C fp s H,PF (j6 X (x :: fr) scope cl C fp s H) ifs tt)(he:∀ C fp s H,PE (j6 X (x :: fr) scope cl C fp s H) elt te)
  {it:Addr}{fp:List Addr}{tn:Nat->Heap->Prop}{J:It}{H2:Hp}{s2:Shared}(I2:Inv X pins σ H2 s2)(T:Turn X.prog X.w X.K (.Name x px) J fp it tn)(st2:tn 0 s2.heap)(f2:∀ b∈fp,fT X pins H2 b)
  (Z:List V->Hp->Prop)(W:Nat->Nat->List V->Hp->Prop)(m0:Nat)(w0:W 0 m0 [] H2)
  (turn:∀ i m ys H,W i m ys H->(J.stop i H /\ Z ys H) \/ (J.go i H /\ ys.length < sizeLine /\ ∃ N:List V->Hp->Prop,(∀ ys' H',N ys' H'->∃ m',m' < m /\ W (i + 1) m' ys' H') /\
   ∀ v H',J.CD i H v H'->tt (some v :: cut ix σ) H' λ b H3=>if b=true then te (some v :: cut ix σ) H3 λ y H4=>N (ys++[y]) H4 else N ys H3))
  (hRR:∀ D C s' ys H',Inv X pins σ (upd H' D (.lst ys)) s'->(∃ m,s'.heap.Ns C m)->fT X pins (upd H' D (.lst ys)) C->H' D=none->Z ys H'->RR (.ref D) C (.ok .next) s'):
  wpAny (model X.prog X.w) X.A (newList []) (λ acc s₃=>wpAny (model X.prog X.w) X.A (newFunctionEnv scope X.env.globals cl [] X.env.qual none .none (some X.env)) (λ cenv s₄ =>
   codeAny (model X.prog X.w) X.A (.compStart (.ListComp elt [⟨.Name x px,iter,ifs,0⟩] scope pos) 0 (.ref it) acc { cenv with scope:=relabel scope X.env }) (RR acc cenv.locals) s₄) E s₃) E s2:=by
 refine wpAny_newObj_type (wpAny_newFunctionEnv O.cell (by intro y hy; simp at hy) (λ h₁ xY sU=>?_) O.kind)
 dsimp only at xY sU ⊢
 generalize hG:s2.heap.push { cls:=.type "list", dict:=none,data:=.seq ([]:List Value).toArray }=G at xY sU ⊢
 have hC:G.objs.size=s2.heap.objs.size + 1:=by rw [<- hG,dI]
 have hDC:s2.heap.objs.size ≠ G.objs.size:=by rw [hC]; exact aM (kr _)
 have xZ:s2.heap.objs.size <= G.objs.size:=by rw [hC]; exact jk _
 have below:∀ b,b < s2.heap.objs.size->b ≠ G.objs.size /\ b ≠ s2.heap.objs.size:=λ b hb=>⟨by rw [hC]; exact aM (jl hb),aM hb⟩
 have old:∀ b o,s2.heap.get? b=some o->h₁.get? b=some o:=λ b o e=>sU.extBut b o (below b (aA e)).1 (bO _ (hG ▸ bO _ e))
 have hacc:h₁.get? s2.heap.objs.size=some { cls:=.type "list", data:=.seq ([]:List Value).toArray }:=sU.extBut _ _ hDC (bO _ (hG ▸ fK _ rfl))
 have P5:H2 s2.heap.objs.size=none:=I2.hok.fresh (ay _)
 have P6:H2 G.objs.size=none:=I2.hok.fresh xZ
 have fD:fT X pins H2 s2.heap.objs.size:=I2.mz (ay _) P5
 have fC:fT X pins H2 G.objs.size:=I2.mz xZ P6
 have ya:∀ b∈fp,b < s2.heap.objs.size:=λ b hb=>by
  obtain ⟨o,e,_⟩:=T.obj _ _ st2 b hb
  exact aA e
 have uD:∀ b∈frs X.stack,b∈X.env.locals :: X.fs:=I2.sG
 have dg:=O.OU
 have ok:(j6 X (x :: fr) scope cl G.objs.size fp s2 H2).Ok:=by
  refine ⟨I2.ok.mod,O.kind,I2.ok.glob,I2.ok.blt,xZ,λ y z c h1 h2=>I2.ok.inj y z c (dg y c h1) (dg z c h2),λ y hy=>O.JT y hy,λ y c h _=>absurd h j0,λ h=>I2.ok.hd h,I2.ok.frames,.inl rfl,λ b hb=>?_,I2.bs,bq I2.ok.CC I2.sz,λ b o e hb=>?_,λ b hb hs=>?_,I2.stack,I2.nO⟩
  ·exact ⟨(below b (ya b hb)).1,λ y c e=>(f2 b hb).2.2.2.2.1 y c (dg y c e)⟩
  ·rcases (f2 b hb).2.2.2.1 with z | z
   ·exact I2.ok.xD b o e z
   ·exact absurd (bz (aA (I2.ok.bs b o e).1) z) (cY _)
  ·rcases aG.mp (uD b hs) with z | z
   ·exact (f2 b hb).2.1 z
   ·exact (f2 b hb).2.2.1 z
 have P7:∀ b,s2.heap.objs.size <= b->b ∉ frs X.stack:=λ b hb hs=>by
  rcases aG.mp (uD b hs) with z | z
  ·exact absurd (bz I2.lt (z ▸ hb)) (cY _)
  ·exact I2.Le hb z
 have Ic:Inv (j6 X (x :: fr) scope cl G.objs.size fp s2 H2) [(s2.heap.objs.size,{ cls:=.type "list", data:=.seq ([]:List Value).toArray })] (none :: cut ix σ) H2 { s2 with heap:=h₁,toks:=s2.toks + ([]:List (Str × Value)).length }:=by
  refine ⟨ok,rfl,I2.bare,Un.kept old,⟨_,xY,λ i y v h1 h2 h3=>?_⟩,λ y c e=>?_,P6,λ y c e=>I2.gh y c (dg y c e),λ p hp=>?_,I2.hok.kept old,?_⟩
  ·cases i with
   | zero=>cases h2
   | succ j =>
    have h1:fr[j]? = some y:=h1
    have h2:(cut ix σ)[j]? = some (some v):=h2
    obtain ⟨i,e1,e2,k,kc⟩:=O.fx j y h1
    obtain ⟨c,e3⟩:=O.JT y kc
    have e4:σ[i]? = some (some v):=by
     unfold cut at h2
     rw [bh,e1] at h2
     have h2:some ((σ[i]?).join)=some (some v):=h2
     have h2:=Option.some.inj h2
     cases q:σ[i]? with
     | none=>rw [q] at h2; cases h2
     | some z=>rw [q] at h2; exact congrArg some h2
    obtain ⟨m,_,hl⟩:=I2.loc
    obtain ⟨u,r,l⟩:=hl i y v e2 e4 (k.elim (λ z=>.inr (.inl z)) λ z=>.inr (.inr z))
    refine ⟨u,r,.inr ⟨kc,c,e3,?_⟩⟩
    rcases l with ⟨l1,_⟩ | ⟨_,c',l2,l3⟩
    ·rcases k with k | k <;> (rw [k] at l1; cases l1)
    ·have e5:=dg y c e3
     rw [l2] at e5; cases e5
     obtain ⟨o,ho,hd⟩:=l3
     exact ⟨o,old _ _ ho,hd⟩
  ·obtain ⟨v,o,ho,hd⟩:=I2.cell y c (dg y c e)
   exact ⟨v,o,old _ _ ho,hd⟩
  ·have e:p=(s2.heap.objs.size,{ cls:=.type "list", data:=.seq ([]:List Value).toArray }):=by simpa [j6] using hp
   subst e
   exact ⟨hacc,P5,hDC,P7 _ (ay _),λ v z=>by cases z⟩
  ·show (none :: cut ix σ).length=(x :: fr).length
   unfold cut
   simp [O.len]
 have yc:∀ b∈fp,b ≠ s2.heap.objs.size:=λ b hb=>(below b (ya b hb)).2
 have pq:∀ {pl:List (Addr × Obj)} {H':Hp},(∀ p∈pl,p.1=s2.heap.objs.size)->(∀ b∈fp,H' b=none)->∀ b∈fp,fT (j6 X (x :: fr) scope cl G.objs.size fp s2 H2) pl H' b:=λ {pl H'} hp hn b hb =>
  ⟨hn b hb,(below b (ya b hb)).1,λ hs=>ok.xE b hb hs,.inl hb,λ y c e=>(f2 b hb).2.2.2.2.1 y c (dg y c e),λ p P8 z=>yc b hb (z.symm.trans (hp p P8))⟩
 have one:∀ {o:Obj},∀ p∈[(s2.heap.objs.size,o)],p.1=s2.heap.objs.size:=λ p hp=>by
  have e:=aC.mp hp
  rw [e]
 have loop:codeAny (model X.prog X.w) X.A (.compLoop (.ListComp elt [⟨.Name x px,iter,ifs,0⟩] scope pos) 0 (.ref it) (.ref s2.heap.objs.size) (compEnvC scope cl G.objs.size X.env)) (RR (.ref s2.heap.objs.size) G.objs.size)
   { s2 with heap:=h₁,toks:=s2.toks + ([]:List (Str × Value)).length }:=by
  refine kR (λ n s'=>∃ (i:Nat) (ys:List V) (its:List Value) (c:Nat) (z:Option V) (H':Hp),Inv (j6 X (x :: fr) scope cl G.objs.size fp s2 H2) [(s2.heap.objs.size,{ cls:=.type "list", data:=.seq its.toArray c })] (z :: cut ix σ) H' s' /\ tn i s'.heap /\ (∀ b∈fp,H' b=none) /\ Vals ys its /\ ys.length <= sizeLine /\ W i n ys H') ?_ m0
   ⟨0,[],[],0,none,H2,Ic,T.keep _ _ _ st2 (λ b _ o e=>old b o e),λ b hb=>(f2 b hb).1,.nil,aO _,w0⟩
  rintro n s3 ⟨i,ys,its,c,z,H3,I3,st3,JH,rv,hl3,w3⟩
  rcases turn i n ys H3 w3 with ⟨stop,zz⟩ | ⟨go,hlt,N,hN,step⟩
  ·refine wpAny_mono (T.done (j6 X (x :: fr) scope cl G.objs.size fp s2 H2) rfl rfl rfl O.calm i _ s3 _ H3 _ I3 (pq one JH) st3 stop) (λ r s4 h4=>?_) λ _ _ e=>e
   obtain ⟨hr,I4⟩:=h4
   subst hr
   have pD:=I4.pin _ (bF _ (aC.mpr rfl))
   have IX:Inv X pins σ H3 s4:=I2.zp I4.os I4.base I4.hok I4.bare λ b hb=>⟨(f2 b hb).2.2.2.1,(f2 b hb).2.1,(f2 b hb).2.2.2.2.1,(f2 b hb).2.2.2.2.2⟩
   obtain ⟨mC,Vl,_⟩:=I4.loc
   exact hRR _ _ s4 ys H3 (IX.uC ⟨pD.2.1,fD.2⟩ ⟨hl3,its,c,rv,pD.1⟩) ⟨mC,Vl⟩ ⟨by rw [aR (aV hDC)]; exact I4.free,fC.2⟩ pD.2.1 zz
  ·refine wpAny_mono (T.item (j6 X (x :: fr) scope cl G.objs.size fp s2 H2) rfl rfl rfl O.calm i _ s3 _ H3 _ I3 (pq one JH) st3 go) (λ r s4 h4=>?_) λ _ _ e=>e
   obtain ⟨u,hr,h4⟩:=h4
   subst hr
   refine wpAny_mono h4 (λ _ s5 h5=>?_) λ _ _ e=>e
   obtain ⟨v,H5,I5,r5,y5,xJ,Pr⟩:=h5
   have Pu:=I5.pinned (pq one Pr) (T.obj _ _ xJ)
   refine wpAny_assign_Name (iu Pu (i:=0) O.nd rfl (.inl (lookup_relabel_local O.loc)) r5 (λ s6 I6=>?_) (.inr (lookup_relabel_local O.loc)))
   have I6:Inv (j6 X (x :: fr) scope cl G.objs.size fp s2 H2) _ (some v :: cut ix σ) H5 s6:=I6
   refine wpAny_mono (ht _ _ _ _ _ s6 _ H5 _ I6 (step v H5 y5)) (λ ok s7 h7=>?_) λ _ _ f=>False.elim f
   obtain ⟨H7,I7,q7⟩:=h7
   cases ok with
   | true =>
    rw [if_pos rfl] at q7 ⊢
    refine wpAny_mono (he _ _ _ _ _ s7 _ H7 _ I7 q7) (λ uy s8 h8=>?_) λ _ _ f=>False.elim f
    obtain ⟨y,H8,I8,r8,n8⟩:=h8
    have pD:=I8.pin _ (bF _ (ki _ (aC.mpr rfl)))
    have rl:=rv.length
    refine append_at (hsz:=by rw [aT]; omega) pD.1 λ h9 P9 Vm=>?_
    obtain ⟨m',hm,w9⟩:=hN _ _ n8
    have Ia:Inv (j6 X (x :: fr) scope cl G.objs.size fp s2 H2) (jt fp s5.heap) (some v :: cut ix σ) H8 s8:=I8.jJ λ p hp=>I8.pin p (bF _ (bF _ hp))
    have Ib:=Ia.turned (h':=h9) (t':=s8.toks) (it:=s2.heap.objs.size) (λ b o hb e=>P9.extBut b o hb e) pD.2.1 hDC (.inr (ay _)) (λ y c e=>fD.2.2.2.2.1 y c (dg y c e))
     λ p hp=>by
      obtain ⟨hb,_⟩:=mD (fp:=fp) (h:=s5.heap) (show p∈jt fp s5.heap from hp)
      exact yc p.1 hb
    refine ⟨m',hm,i + 1,ys++[y],its++[uy],c + 1,some v,H8,Ib.jJ λ p hp=>?_,T.keep _ _ _ xJ λ b hb o e=>?_,λ b hb=>?_,rv.append (.cons r8 .nil),by rw [aX,g6]; omega,w9⟩
    ·have e:=aC.mp hp
     subst e
     refine ⟨?_,pD.2.1,hDC,pD.2.2.2.1,λ v z=>by cases z⟩
     have q:its.toArray.push uy=(its++[uy]).toArray:=by simp
     rw [<- q]
     exact Vm
    ·exact P9.extBut b o (yc b hb) (I8.pin (b,o) (bF _ (bF _ (cE hb e)))).1
    ·obtain ⟨o,e,d⟩:=T.obj _ _ xJ b hb
     exact (I8.pin (b,o) (bF _ (bF _ (cE hb e)))).2.1
   | false =>
    rw [if_neg j0] at q7 ⊢
    obtain ⟨m',hm,w9⟩:=hN _ _ q7
    refine ⟨m',hm,i + 1,ys,its,c,some v,H7,I7.ju,T.keep _ _ _ xJ λ b hb o e=>?_,λ b hb=>?_,rv,hl3,w9⟩
    ·exact (I7.pin (b,o) (bF _ (bF _ (cE hb e)))).1
    ·obtain ⟨o,e,d⟩:=T.obj _ _ xJ b hb
     exact (I7.pin (b,o) (bF _ (bF _ (cE hb e)))).2.1
 exact codeAny_compStart_list loop (T.self _ 0 _ _ _ (T.keep _ _ _ st2 λ b _ o e=>old b o e) loop)
def Ds(wi:TI)(tt:TT)(te:TE)(ix:List Nat):TE:=λ σ H Q=>wi σ H λ J H1=>∃ W:Nat->Nat->List V->Hp->Prop,(∃ m,W 0 m [] H1) /\ ∀ i m ys H,W i m ys H ->
 (J.stop i H /\ ∀ p,H p=none->Q (.ref p) (upd H p (.lst ys))) \/ (J.go i H /\ ys.length < sizeLine /\ ∃ N:List V->Hp->Prop,(∀ ys' H',N ys' H'->∃ m',m' < m /\ W (i + 1) m' ys' H') /\
  ∀ v H',J.CD i H v H'->tt (some v :: cut ix σ) H' λ b H3=>if b=true then te (some v :: cut ix σ) H3 λ y H4=>N (ys++[y]) H4 else N ys H3)
theorem cI{wi:TI}(O:bA X scope cl x fr ix)(hi:PI X (.Name x px) iter wi)
  (ht:∀ C fp s H,PF (j6 X (x :: fr) scope cl C fp s H) ifs tt)(he:∀ C fp s H,PE (j6 X (x :: fr) scope cl C fp s H) elt te)
  (hs:∀ v,foldedSetIterable iter X.env v=pure v:=by intro _; rfl):PE X (.ListComp elt [⟨.Name x px,iter,ifs,0⟩] scope pos) (Ds wi tt te ix):=by
 intro pins s σ H Q I h
 rw [eval_ListComp]
 refine wpAny_comprehension_free (use:=none) rfl hs O.clos O.kind O.names (bV (hi pins s σ H _ I h) λ v s1 h1=>bV h1 λ itv s2 h2=>?_)
 obtain ⟨it,fp,tn,J,H2,e,I2,T,st2,f2,W,⟨m0,w0⟩,turn⟩:=h2
 subst e
 refine pG O ht he I2 T st2 f2 (λ ys H=>∀ p,H p=none->Q (.ref p) (upd H p (.lst ys))) W m0 w0 turn λ D C s' ys H' I' hm fC hD z=>?_
 obtain ⟨m,hm⟩:=hm
 refine ⟨m,hm,λ h' hs'=>?_⟩
 exact ⟨.ref D,_,I'.turned (t':=s'.toks) (it:=C) (λ b o hb e=>hs'.extBut b o hb e) fC.1 fC.2.1 fC.2.2.2.1 fC.2.2.2.2.1 fC.2.2.2.2.2,rfl,z D hD⟩
def Dt(te:TE)(i:Nat):TS:=λ D σ H=>te σ H λ v H1=>D.nx (σ.set i (some v)) H1
theorem kT{i:Nat}{y:Str}{py spos:Pos}{wi:TI}(hN:X.N.Nodup)(Vn:X.N[i]? = some y)(hy:Loc X.env.scope y)
  (O:bA X scope cl x fr ix)(hi:PI X (.Name x px) iter wi)
  (ht:∀ C fp s H,PF (j6 X (x :: fr) scope cl C fp s H) ifs tt)(he:∀ C fp s H,PE (j6 X (x :: fr) scope cl C fp s H) elt te)
  (hsw:swapsWith (.ListComp elt [⟨.Name x px,iter,ifs,0⟩] scope pos) (some (.Name y py)) spos.line X.env=pure true:=by rfl)
  (hs:∀ v,foldedSetIterable iter X.env v=pure v:=by intro _; rfl)(hf:X.fn y=true \/ X.env.scope.names.lookup y=some .local:=by first | exact .inl rfl | exact .inr rfl | assumption):
  PS X (.Assign [.Name y py] (.ListComp elt [⟨.Name x px,iter,ifs,0⟩] scope pos) spos) (Dt (Ds wi tt te ix) i):=by
 intro pins s σ H D I h
 rw [exec_Assign_Name_used _ _ _ _ hsw]
 refine af (wpAny_standAt (af ?_))
 show wpAny _ X.A (do let _ <- comprehension (.ListComp elt [⟨.Name x px,iter,ifs,0⟩] scope pos) scope X.env _ (newList []) false (eval iter X.env) (some (assign (.Name y py) X.env))) _ _ s
 refine af (wpAny_mono (wpAny_comprehension_free (use:=some (assign (.Name y py) X.env)) (Q:=λ _ s'=>SP X pins D .next s') rfl hs O.clos O.kind O.names
  (bV (hi pins s σ H _ I h) λ v s1 h1=>bV h1 λ itv s2 h2=>?_)) (λ _ s' hq=>aE (aE hq)) λ _ _ e=>e)
 obtain ⟨it,fp,tn,J,H2,e,I2,T,st2,f2,W,⟨m0,w0⟩,turn⟩:=h2
 subst e
 refine pG O ht he I2 T st2 f2 (λ ys H=>∀ p,H p=none->D.nx (σ.set i (some (.ref p))) (upd H p (.lst ys))) W m0 w0 turn λ L C s' ys H' I' hm fC hD z=>?_
 obtain ⟨m,hm⟩:=hm
 show wpAny _ X.A (assign (.Name y py) X.env (.ref L)) _ _ _
 refine wpAny_assign_Name (mh I' hN Vn hy (v:=.ref L) rfl (λ s'' Vo LW=>?_) hf)
 obtain ⟨a,LW,ha⟩:=LW
 have Vp:C ≠ a:=by
  rcases ha with z | z
  ·rw [z]; exact fC.2.1
  ·exact aV (fC.2.2.2.2.1 _ _ z)
 refine ⟨m,hm.sameBut LW Vp,λ h' hs'=>?_⟩
 exact ⟨_,_,Vo.turned (t':=s''.toks) (it:=C) (λ b o hb e=>hs'.extBut b o hb e) fC.1 fC.2.1 fC.2.2.2.1 fC.2.2.2.2.1 fC.2.2.2.2.2,z L hD⟩
theorem bA.plain(calm:X.calm=true)(cell:∀ y∈scope.names,y.2 ≠ .cell)(free:∀ y∈scope.names,y.2 ≠ .free)(kind:scope.kind=.function)
  (names:∀ y∈scope.names,y.2=.local->scope.names.lookup y.1=some .local)(loc:scope.names.lookup x=some .local):bA X scope [] x [] [] where
 calm:=calm
 clos:=closureFor_none free
 cell:=cell
 kind:=kind
 names:=names
 loc:=loc
 nd:=by simp
 OU:=λ y c h=>by cases h
 JT:=λ y h=>by
  exfalso
  have mem:∀ {k:NameKind},(relabel scope X.env).names.lookup y=some k->∃ z∈scope.names,(if (z.2 == .free && X.env.scope.kind == .function && X.env.kindOf z.1 == some .cell) then (z.1,NameKind.cell) else (z.1,z.2))=(y,k):=λ {k} e=>by
   have q:=gF e
   obtain ⟨z,hz,e⟩:=aF.mp q
   exact ⟨z,hz,e⟩
  rcases h with h | h
  ·obtain ⟨z,hz,e⟩:=mem h
   have n1:=free z hz
   have n2:(z.2 == NameKind.free)=false:=by cases hk:z.2 <;> first | rfl | exact absurd hk n1
   rw [n2,oK,oK,if_neg j0] at e
   exact cell z hz (congrArg Prod.snd e)
  ·obtain ⟨z,hz,e⟩:=mem h
   have n1:=free z hz
   have n2:(z.2 == NameKind.free)=false:=by cases hk:z.2 <;> first | rfl | exact absurd hk n1
   rw [n2,oK,oK,if_neg j0] at e
   exact n1 (congrArg Prod.snd e)
 fx:=λ j y h=>by cases j <;> cases h
 len:=rfl
end
section
variable {X:Cx}
theorem Du:cG X (.builtin "isinstance") (λ xs H Q=>∃ x T t b,xs=[x,.ty T] /\ gC X.K H x t /\ PySem.W.kitOne X.K t (.type T)=some b /\ Q (.bl b) H):=by
 intro pins s σ H xs us Q I r h
 obtain ⟨x,T,t,b,rfl,ty,e,q⟩:=h
 obtain ⟨u,u',rfl,r1,r2⟩:=vals2 r
 cases r2
 exact AZ I r1 ty e λ tk=>⟨.bl b,H,I.tok tk,rfl,q⟩
theorem rm{prog:Program}{w:World}{A:Around}{E:Value->Shared->Prop}{it t:Addr}{items:Array Value}(hne:t ≠ it):∀ (n i:Nat) (s:Shared) (Q:List Value->Shared->Prop),s.heap.IsListIter it t i->s.heap.IsList t items->i + n <= items.size ->
  (∀ h',h'.IsListIter it t (i + n)->Heap.SameBut it s.heap h'->Q ((items.toList.drop i).take n) { s with heap:=h' })->wpAny (model prog w) A (draw (.ref it) n) Q E s
 | 0,i,s,Q,hit,_,_,hQ=>by
  show wpAny _ _ (pure []) Q E s
  exact aE (by simpa using hQ s.heap hit (oN ..))
 | n + 1,i,s,Q,hit,ht,hle,hQ=>by
  have hlt:i < items.size:=by omega
  show wpAny _ _ (pyNext (.ref it) >>= _) Q E s
  refine af (wpAny_pyNext_list_item hit ht (x:=items[i]) (by simp [hlt]) λ h₁ LX hs₁=>?_)
  refine af (wpAny_holding (rm hne n (i + 1) _ _ LX (ht.extBut hs₁.extBut hne) (by omega) λ h₂ Vq hs₂=>aE ?_))
  have hd:items.toList.drop i=items[i] :: items.toList.drop (i + 1):=by simp [List.drop_eq_getElem_cons,hlt]
  have:=hQ h₂ (by rw [show i + (n + 1)=i + 1 + n by omega]; exact Vq) (hs₁.trans hs₂)
  rw [hd,List.take_succ_cons] at this
  exact this
theorem uE{prog:Program}{w:World}{A:Around}{E:Value->Shared->Prop}{s:Shared}{t:Addr}{items:Array Value}{targets:List (Bool × (Value->Sem Unit))}{Q:Unit->Shared->Prop}(hh:A.handled=none)(ht:s.heap.IsList t items)
  (hn:targets.length=items.size)(hstar:targets.findIdx? (·.1)=none)
  (h:∀ h',Heap.ExtBut s.heap.objs.size s.heap h'->wpAny (model prog w) A (assignInOrder (targets.map (·.2)) items.toList) Q E { s with heap:=h' }):
  wpAny (model prog w) A (unpack (.ref t) targets) Q E s:=by
 have hlt:t ≠ s.heap.objs.size:=by obtain ⟨o,ho,_⟩:=ht; exact aM (aA ho)
 unfold unpack
 rw [hn,hstar]
 refine af (wpAny_holding ?_)
 unfold unpackItems
 refine af ?_
 unfold notIterableAtAll
 refine af (wpAny_specialOf ht.typeIs F.slot_list_iter.lookup ?_)
 refine aE ?_
 simp only [aS,if_false]
 refine af (wpAny_holding (wpAny_pyIter_list ht ?_))
 refine af (wpAny_holding (rm hlt items.size 0 _ _ ⟨_,fK _ rfl,rfl,rfl⟩ (ht.push _) (by omega) λ h₁ LX hs₁=>?_))
 have hall:List.take items.size (List.drop 0 items.toList)=items.toList:=by
  rw [List.drop_zero]; exact List.take_of_length_le (by simp)
 rw [hall]
 rw [if_neg (by simp)]
 have ht₁:h₁.IsList t items:=(ht.push _).extBut hs₁.extBut hlt
 refine af (wpAny_holding (wpAny_pyNext_list_end hh LX ht₁ (by simp) λ h₂ Tw=>?_))
 simp only [Option.isSome_none,aS,if_false]
 exact aE (h h₂ λ b o hb e=>Tw b o hb (hs₁.extBut b o hb (bO _ e)))
def Qa(K:az)(n:Nat)(t:AU):TG:=λ v σ H Q=>∃ a xs,v=.ref a /\ bK K H a xs /\ xs.length=n /\ t xs σ H Q
theorem LY{es:List Expr}{k:Nat}{t:AU}{n:Nat}(hc:X.calm=true)(h:OR X es t)
  (hn:(assignEach es X.env).length=n:=by rfl)(hst:(assignEach es X.env).findIdx? (·.1)=none:=by rfl):PG X (.Tuple es k pos) (Qa X.K n t):=by
 intro pins s σ H v u Q I r hw
 obtain ⟨a,xs,e1,hq,hl,hw⟩:=hw
 subst e1
 cases r
 obtain ⟨its,rv,pl,hz⟩:=I.list hq
 rw [assign_Tuple]
 refine af (wpAny_standAt (uE (I.ok.hd hc) pl.isList (by simp [hn,<- hl,rv.length]) hst λ h' hx=>?_))
 have I1:Inv X pins σ H { s with heap:=h' }:=I.kept (t':=s.toks) λ b o e=>hx b o (aM (aA e)) e
 exact h pins _ σ H xs _ Q I1 (by simpa using rv) hw
end
end L2
namespace RV
open PySem
variable {t:Addr}
theorem A7:Manifest.owners.lookup (String.ofList ['d','e','s','r','e','v','e','r'].reverse)=some Manifest.sig_reversed:=by kernel_rfl
theorem slot_next:Slot "reversed" "__next__" "reversed.__next__" :=
 .of (owner := "reversed") (n := "__next__") (by rw [typeLookup_type,builtinLookup_eq_fast]; kernel_rfl) (by decide +kernel) (by decide +kernel) (by decide +kernel)
  (by first | exact .inl (by decide +kernel) | exact .inr (by decide +kernel)) (by rw [isSubtype_type]; kernel_rfl)
theorem entry_next:entryFor table "reversed.__next__" = some Builtin.«reversed.__next__»:=entryFor_of_tree (by kernel_rfl)
theorem args_next(a:Value):argsOk "reversed.__next__" ⟨[a],[]⟩:=by
 unfold argsOk; rw [signature?_of (id := "reversed.__next__") (n:=['_','_','t','x','e','n','_','_']) (o:=['d','e','s','r','e','v','e','r']) (by kernel_rfl) A7]; kernel_rfl
def uF(h:Heap)(a t:Addr)(i:Int):Prop:=∃ o,h.get? a=some o /\ o.cls=.type "reversed" /\ o.data=.fields #[.ref t,rawInt i]
section
variable {prog:Program}{w:World}{A:Around}{E:Value->Shared->Prop}{s:Shared}
theorem uF.typeIs{a:Addr}{i:Int}(x:uF s.heap a t i):s.TypeIs (.ref a) "reversed" := let ⟨o,ho,hc,_⟩:=x; ⟨o,ho,hc⟩
theorem uF.at{h h':Heap}{a:Addr}{i:Int}(x:uF h a t i)(e:∀ o,h.get? a=some o->h'.get? a=some o):uF h' a t i:=let ⟨o,ho,r⟩:=x; ⟨o,e _ ho,r⟩
theorem next_item{it:Addr}{i:Nat}{items:Array Value}{x:Value}{Q:Option Value->Shared->Prop}(hit:uF s.heap it t (i:Int))(ht:PyProof.Rows.IsTup s.heap t items)(hx:items[i]? = some x)(hfit:items.size < 2 ^ 62)
  (hQ:∀ h' tk,uF h' it t ((i:Int) - 1)->Heap.SameBut it s.heap h'->Q (some x) { s with heap:=h',toks:=tk }):wpAny (model prog w) A (pyNext (.ref it)) Q E s:=by
 obtain ⟨o,ho,hc,hd⟩:=id hit
 have hlt:i < items.size:=by
  rw [gE] at hx
  exact hx.1
 have hj:seqIndex? (i:Int) items.size=some i:=by
  have h1:¬ ((i:Int) < 0):=by omega
  unfold seqIndex?
  simp [h1,hlt]
 unfold pyNext
 refine af (wpAny_attempt (wpAny_callSpecial?_slot (name:=Str.ofString "__next__") hit.typeIs slot_next
  (wpAny_call_entry slot_next hit.typeIs entry_next ?_ (args_next _))))
 unfold Builtin.«reversed.__next__»
 refine af (wpAny_of_eq (a:=(Value.ref it,[])) rfl ?_)
 try dsimp only
 refine af (wpAny_field ho hd (x:=.ref t) rfl ?_)
 refine af (wpAny_field ho hd (x:=rawInt (i:Int)) rfl ?_)
 show wpAny _ _ (if (i:Int) < 0 then _ else _) _ _ s
 rw [if_neg (by omega)]
 refine af (wpAny_specialOf ht.typeIs PyProof.Rows.slot_tuple_getitem.lookup ?_)
 refine wpAny_ite_split (λ hab=>absurd hab (by decide)) (λ _=>?_)
 refine af (wpAny_mkInt ?_)
 refine af (wpAny_attempt (PyProof.Rows.getItem_tuple ht (by omega) (by omega) hj hx ?_))
 try dsimp only
 refine af (wpAny_field ho hd (x:=rawInt (i:Int)) rfl ?_)
 refine af (wpAny_setField ho hd (by simp) ?_)
 refine aE ⟨x,rfl,aE (hQ _ _ ?_ (f9 ..))⟩
 exact ⟨_,cj _ ho (fk (bW hd _)),(iJ ..).trans hc,by
  rw [bW hd]; simp⟩
theorem next_end{it:Addr}{Q:Option Value->Shared->Prop}(hh:A.handled=none)(hit:uF s.heap it t (-1))
  (hQ:∀ h',Heap.ExtBut it s.heap h'->Q none { s with heap:=h' }):wpAny (model prog w) A (pyNext (.ref it)) Q E s:=by
 obtain ⟨o,ho,hc,hd⟩:=id hit
 unfold pyNext
 refine af (wpAny_attempt (wpAny_callSpecial?_slot (name:=Str.ofString "__next__") hit.typeIs slot_next
  (wpAny_call_entry slot_next hit.typeIs entry_next ?_ (args_next _))))
 unfold Builtin.«reversed.__next__»
 refine af (wpAny_of_eq (a:=(Value.ref it,[])) rfl ?_)
 try dsimp only
 refine af (wpAny_field ho hd (x:=.ref t) rfl ?_)
 refine af (wpAny_field ho hd (x:=rawInt (-1)) rfl ?_)
 show wpAny _ _ (if (-1:Int) < 0 then _ else _) _ _ s
 rw [if_pos (by decide)]
 refine af (wpAny_rule ?_)
 refine af ?_
 wp_delta
 refine af (wpAny_setField ho hd (by simp) ?_)
 have ho2:=cj (Obj.mapFields (·.setIfInBounds 1 (rawInt (-1)))) ho (fk (bW hd _))
 refine wpAny_setField ho2 (bW hd _) (by simp) ?_
 refine af ?_
 show wpAny _ _ (newExc (.type "StopIteration") [] >>= _) _ _ _
 refine af ?_
 simp only [newExc,newTuple]
 refine af (wpAny_newObj_type ?_ (by size_fits))
 refine af (m:=firstArgMember _ _) (wpAny_of_eq (a:=Value.none) (by first | rfl | (simp only [firstArgMember]; rfl)) ?_)
 refine wpAny_newObj_type ?_ (by size_fits)
 simp only [raiseNew]
 refine af (wpAny_handled ?_)
 first | rw [show A.in1.handled=none from hh] | rw [hh]
 refine af (aE (wpAny_throw ?_))
 refine af (wpAny_isInstance (T := "StopIteration") (b:=true) ⟨_,fK _ rfl,rfl⟩ isSubtype_stop ?_)
 refine aE (hQ _ λ b o' hb e=>?_)
 refine bO _ (bO _ ?_)
 exact (c7 _ _ (aV hb)).trans ((c7 _ _ (aV hb)).trans e)
variable {I:Addr}{fp wr:List Addr}{n:Nat}{P:Nat->Value->Prop}{St:Nat->Heap->Prop}{T:String}
end
end RV
namespace L2
open PySem PySem.Spec PyProof.Rows
variable {v x:V}{i j:Int}{b:Bool}{tl:TA}{g:TG}{A B:Prop}{p q a:Addr}{o:HO}{H':Hp}{xs:List V}{T:String}{R:It->Hp->Prop}{X:Cx}{y x0 x1 x2 x3 x4 x5 x6 x7 x8 x9 GZ:Option V}
section
variable {X:Cx}{tg:Expr}
end
section
variable {K:az}{nx bk ct:St->Hp->Prop}{rt:VK}{σ:St}{H:Hp}{Q:VK}{P:Bool->Hp->Prop}{ta tb tc te:TE}{t u:TS}{c d:TT}
theorem LZ(h:nx σ H):JB ⟨nx,rt,bk,ct⟩ σ H:=h
theorem JU(J:St->Hp->Prop)(h:t ⟨J,rt,bk,ct⟩ σ H)(k:∀ σ' H',J σ' H'->u ⟨nx,rt,bk,ct⟩ σ' H'):GQ t u ⟨nx,rt,bk,ct⟩ σ H:=⟨J,h,k⟩
theorem Qc(h:te σ H rt):Pf te ⟨nx,rt,bk,ct⟩ σ H:=h
theorem L1(h:te σ H λ _ H1=>nx σ H1):JC te ⟨nx,rt,bk,ct⟩ σ H:=h
theorem Zq(h:Q v H):tC v σ H Q:=h
theorem Vr{r:R2}(h:ta σ H λ x H1=>tb σ H1 λ y H2=>r x y H2 Q):Lq r ta tb σ H Q:=h
theorem Vs{r:V->Hp->VK->Prop}(h:ta σ H λ x H1=>r x H1 Q):X4 r ta σ H Q:=h
theorem Zr{g:Int->V}(h:Q (g i) H):rU g (.int i) H Q:=⟨i,rfl,h⟩
def qI(P:Bool->Hp->Prop):VK:=λ x H=>∃ k,x=.bl k /\ P k H
theorem Qd(h:P b H):qI P (.bl b) H:=⟨b,rfl,h⟩
theorem L4(h:te σ H (qI P)):CY te σ H P:=h
theorem Zt(h:te σ H (qI P)):tB te σ H P:=h
theorem Qe(h:c σ H λ b H1=>if b=true then d σ H1 P else P false H1):Pb c d σ H P:=h
theorem Vt(h:c σ H λ b H1=>if b=true then P true H1 else d σ H1 P):XX c d σ H P:=h
theorem Qf(h:c σ H λ b H1=>P (!b) H1):Pc c σ H P:=h
theorem Qg(h:c σ H λ b H1=>if b=true then ta σ H1 Q else tb σ H1 Q):XY c ta tb σ H Q:=h
theorem L5(h:ta σ H (qI λ b H1=>if b=true then tb σ H1 Q else Q (.bl false) H1)):Jz ta tb σ H Q:=h
theorem Qh(h:ta σ H (qI λ b H1=>if b=true then Q (.bl true) H1 else tb σ H1 Q)):Pd ta tb σ H Q:=h
theorem GR{r r':R2}(h:ta σ H λ x H1=>tb σ H1 λ y H2=>r x y H2 (qI λ b H3=>if b=true then tc σ H3 (λ z H4=>r' y z H4 Q) else Q (.bl false) H3)):CZ r r' ta tb tc σ H Q:=h
theorem Vu{g:Int->Int->V}(h:Q (g i j) H):JI g (.int i) (.int j) H Q:=⟨i,j,rfl,rfl,h⟩
theorem Zu{C:Int->Int->Prop}{g:Int->Int->V}(hc:C i j)(h:Q (g i j) H):rI C g (.int i) (.int j) H Q:=⟨i,j,rfl,rfl,hc,h⟩
theorem Qi(h:Q (.bl (decide (i=j))) H):Vd (.int i) (.int j) H Q:=⟨rfl,by rw [show decide (V.int i=V.int j)=decide (i=j) by simp]; exact h⟩
theorem Qj{i j:Str}(h:Q (.bl (decide (i=j))) H):Vd (.str i) (.str j) H Q:=⟨rfl,by rw [show decide (V.str i=V.str j)=decide (i=j) by simp]; exact h⟩
theorem s_call{sp:Sp}{E:XK}(h:tl σ H λ vs H1=>sp vs H1 Q E):C3 sp [] E tl σ H Q:=by
 show tl σ H λ vs H1=>sp (vs++[]) H1 Q E
 simpa only [dY] using h
theorem Qk{R:List V->Hp->Prop}(h:R [] H):PD σ H R:=h
theorem L6{R:List V->Hp->Prop}(h:ta σ H λ x H1=>tl σ H1 λ xs H2=>R (x :: xs) H2):JJ ta tl σ H R:=h
theorem Vv{r:List V->Hp->VK->Prop}(h:tl σ H λ vs H1=>r vs H1 Q):Vf r tl σ H Q:=h
theorem Ql(h:te σ H λ x H1=>g x σ H1 nx):Lm te g ⟨nx,rt,bk,ct⟩ σ H:=h
theorem zH(h1:b=true->A)(h2:b=false->B):if b=true then A else B:=by
 cases b
 ·rw [if_neg j0]; exact h2 rfl
 ·rw [if_pos rfl]; exact h1 rfl
theorem yd{p:Prop}[Decidable p](h1:p->A)(h2:¬ p->B):if decide p=true then A else B:=zH (λ h=>h1 (of_decide_eq_true h)) λ h=>h2 (of_decide_eq_false h)
theorem L7{p:Prop}[Decidable p](hp:p)(h:A):if decide p=true then A else B:=yd (λ _=>h) λ n=>absurd hp n
theorem L8{p:Prop}[Decidable p](hp:¬ p)(h:B):if decide p=true then A else B:=yd (λ n=>absurd n hp) λ _=>h
theorem Dv{p:Prop}[Decidable p](h1:¬ p->A)(h2:p->B):if (!decide p)=true then A else B:=zH (λ h=>h1 (by simpa using h)) λ h=>h2 (by simpa using h)
theorem Ma{p:Prop}[Decidable p](hp:p)(h:B):if (!decide p)=true then A else B:=Dv (λ n=>absurd hp n) λ _=>h
theorem Qm(h:B):if (!true)=true then A else B:=P1 h
theorem Qn(h:A):if (!false)=true then A else B:=LR h
def eB(H:Hp)(p:Addr)(o:HO)(H':Hp):Prop:=H p=none /\ H'=upd H p o
def lX(H:Hp)(p:Addr)(o:HO)(H':Hp):Prop:=H'=upd H p o
theorem eB.self(n:eB H p o H'):H' p=some o:=by rw [n.2]; exact cL
theorem eB.keep{v:HO}(n:eB H p o H')(h:H q=some v):H' q=some v:=by rw [n.2,aR (bw h n.1)]; exact h
theorem eB.same(n:eB H p o H'):aD H H':=λ _ _ h=>n.keep h
theorem eB.none{H':Hp}(n:eB H p o H')(h:H' q=Option.none):H q=Option.none:=n.same.free h
theorem eB.ne{v:HO}{H':Hp}(n:eB H p o H')(h:H q=some v):q ≠ p:=bw h n.1
theorem lX.self(n:lX H p o H'):H' p=some o:=by rw [show H'=upd H p o from n]; exact cL
theorem lX.keep{v:HO}(n:lX H p o H')(ne:q ≠ p)(h:H q=some v):H' q=some v:=by rw [show H'=upd H p o from n,aR ne]; exact h
theorem lX.none{v:HO}(n:lX H p o H')(hp:H p=some v)(h:H q=Option.none):H' q=Option.none:=by rw [show H'=upd H p o from n,aR (λ e=>by rw [e,hp] at h; cases h)]; exact h
def Qo(xs:List V)(H:Hp)(Q:VK):Prop:=xs.length <= sizeLine /\ ∀ p,H p=none->Q (.ref p) (upd H p (.tup xs))
def Qp(xs:List V)(H:Hp)(Q:VK):Prop:=xs.length <= sizeLine /\ ∀ p,H p=none->Q (.ref p) (upd H p (.lst xs))
theorem Qq(h:tl σ H λ xs H1=>Qo xs H1 Q):PJ tl σ H Q:=h
theorem Qs(h:tl σ H λ xs H1=>Qp xs H1 Q):PK tl σ H Q:=h
theorem Mb(hz:xs.length <= 1000)(h:∀ p H',eB H p (.tup xs) H'->Q (.ref p) H'):Qo xs H Q:=⟨bq hz (by decide),λ p hp=>h p _ ⟨hp,rfl⟩⟩
theorem Mc(hz:xs.length <= 1000)(h:∀ p H',eB H p (.lst xs) H'->Q (.ref p) H'):Qp xs H Q:=⟨bq hz (by decide),λ p hp=>h p _ ⟨hp,rfl⟩⟩
theorem iy(hS:bK K H p xs)(hv:qF xs i=some v)(h:Q v H):LI K (.ref p) (.int i) H Q:=⟨p,xs,i,v,rfl,rfl,hS,hv,h⟩
theorem uG(hS:fF K H p xs)(hv:qF xs i=some v)(h:Q v H):LJ K (.ref p) (.int i) H Q:=⟨p,xs,i,v,rfl,rfl,hS,hv,h⟩
theorem JV{z:Str}{ch:Nat}(hz:z.length <= 1000)(hv:qF z.cps.toList i=some ch)(h:Q (.str ⟨#[ch]⟩) H):PN (.str z) (.int i) H Q:=⟨z,i,ch,rfl,rfl,bq hz (by decide),hv,h⟩
theorem Vw(hS:bK K H p xs \/ fF K H p xs)(h1:i0 x=true)(h2:xs.all i0=true)(h:Q (.bl (uu x xs)) H):Tu K false x (.ref p) H Q:=⟨p,xs,rfl,hS,h1,h2,h⟩
theorem Qt(hS:bK K H p xs \/ fF K H p xs)(h1:i0 x=true)(h2:xs.all i0=true)(h:Q (.bl (!uu x xs)) H):Tu K true x (.ref p) H Q:=⟨p,xs,rfl,hS,h1,h2,h⟩
theorem Vx{r:V->List V->Hp->VK->Prop}(h:ta σ H λ x H1=>OT K T x H1 /\ tl σ H1 λ xs H2=>r x xs H2 Q):X8 K T r ta tl σ H Q:=h
theorem Qu{r:V->List V->Hp->VK->Prop}(h:ta σ H λ x H1=>OT K T x H1 /\ r x [] H1 Q):PU K T r ta σ H Q:=h
theorem Dw{l:Addr}{y:V}(hl:H l=some (.lst xs))(hz:xs.length < 1000000)(h:∀ H',lX H l (.lst (xs++[y])) H'->Q .bZ H'):zB (.ref l) [y] H Q:=⟨l,xs,y,rfl,rfl,hl,bz hz (by decide),h _ rfl⟩
theorem s_pop{l:Addr}{y:V}(hl:H l=some (.lst xs))(hy:xs[xs.length - 1]? = some y)(h:∀ H',lX H l (.lst xs.dropLast) H'->Q y H'):PX (.ref l) [] H Q:=⟨l,xs,y,rfl,rfl,hl,hy,h _ rfl⟩
def Qv(K:az)(R:It->Hp->Prop):V->Hp->Prop:=λ x H=>∃ a,x=.ref a /\ (∃ xs,bK K H a xs) /\ R (Gg K a) H
def Qw(K:az)(R:It->Hp->Prop):V->Hp->Prop:=λ x H=>∃ a,x=.ref a /\ (∃ xs,fF K H a xs) /\ R (JE K a) H
theorem Me{tl:TE}(h:tl σ H (Qv K R)):JF K tl σ H R:=h
theorem GS{tl:TE}(h:tl σ H (Qw K R)):Pp K tl σ H R:=h
theorem Dy(hb:b=true)(h:A):if b=true then A else B:=zH (λ _=>h) λ n=>by rw [hb] at n; cases n
theorem Dz(hb:b=false)(h:B):if b=true then A else B:=zH (λ n=>by rw [hb] at n; cases n) λ _=>h
def Mf(K:az):List V->Hp->VK->Prop:=λ xs H Q=>∃ p ys,xs=[.ref p] /\ (bK K H p ys \/ fF K H p ys) /\ Q (.int ys.length) H
theorem cM:cG X (.builtin "len") (Mf X.K):=sP
theorem Qx{ys:List V}(hS:bK K H p ys \/ fF K H p ys)(h:Q (.int ys.length) H):Mf K [.ref p] H Q:=⟨p,ys,rfl,hS,h⟩
def Mg(K:az):List V->Hp->VK->Prop:=λ xs H Q=>∃ x T t b,xs=[x,.ty T] /\ gC K H x t /\ PySem.W.kitOne K t (.type T)=some b /\ Q (.bl b) H
theorem mJ:cG X (.builtin "isinstance") (Mg X.K):=Du
theorem JW{ty:Value}(ht:gC K H x ty)(e:PySem.W.kitOne K ty (.type T)=some b)(h:Q (.bl b) H):Mg K [x,.ty T] H Q:=⟨x,T,ty,b,rfl,ht,e,h⟩
def zI(K:az):List V->Hp->VK->Prop:=λ xs H Q=>∃ p ys,xs=[.ref p] /\ (bK K H p ys \/ fF K H p ys) /\ ∀ l,H l=none->Q (.ref l) (upd H l (.lst ys))
theorem ye:cG X (.type "list") (zI X.K):=sQ
theorem DA{ys:List V}(hS:bK K H p ys \/ fF K H p ys)(h:∀ l H',eB H l (.lst ys) H'->Q (.ref l) H'):zI K [.ref p] H Q:=⟨p,ys,rfl,hS,λ l hl=>h l _ ⟨hl,rfl⟩⟩
def Qy(R:It->Hp->Prop):List V->Hp->Prop:=λ vs H=>∃ j:Int,vs=[.int j] /\ -(2 ^ 62) <= j /\ j < 2 ^ 62 /\ R (kM 0 j.toNat) H
theorem DB(h:tl σ H (Qy R)):JG tl σ H R:=h
theorem Qz(h1:-(2 ^ 62) <= j)(h2:j < 2 ^ 62)(h:R (kM 0 j.toNat) H):Qy R [.int j] H:=⟨j,rfl,h1,h2,h⟩
def Mh(J:It)(g:TG)(tb:TS)(nx:St->Hp->Prop)(rt:VK)(σ:St)(H:Hp):Prop:=∃ W:Nat->Nat->St->Hp->Prop,(∃ m,W 0 m σ H) /\ ∀ i m σ H,W i m σ H ->
 (J.stop i H /\ nx σ H) \/ (J.go i H /\ ∃ N:St->Hp->Prop,(∀ σ' H',N σ' H'->∃ m',m' < m /\ W (i + 1) m' σ' H') /\ ∀ x H',J.CD i H x H'->g x σ H' λ σ2 H2=>tb ⟨N,rt,nx,N⟩ σ2 H2)
theorem QA{wi:TI}{tb:TS}(h:wi σ H λ J H1=>Mh J g tb nx rt σ H1):Pq wi g tb ⟨nx,rt,bk,ct⟩ σ H:=h
theorem GU{lo:Int}{n:Nat}{tb:TS}(Pv:Nat->St->Hp->Prop)(h0:Pv 0 σ H)
  (hs:∀ i σ H,i < n->Pv i σ H->g (.int (lo + i)) σ H λ σ2 H2=>tb ⟨Pv (i + 1),rt,nx,Pv (i + 1)⟩ σ2 H2)(hd:∀ σ H,Pv n σ H->nx σ H):Mh (kM lo n) g tb nx rt σ H :=
 AW (D:=⟨nx,rt,nx,nx⟩) Pv h0 hs hd
theorem f_list{tb:TS}(Pv:Nat->St->Hp->Prop)(h0:Pv 0 σ H)(hl:∀ i σ H,i <= xs.length->Pv i σ H->bK K H a xs)
  (hs:∀ i x σ H,xs[i]? = some x->Pv i σ H->g x σ H λ σ2 H2=>tb ⟨Pv (i + 1),rt,nx,Pv (i + 1)⟩ σ2 H2)(hd:∀ σ H,Pv xs.length σ H->nx σ H):Mh (Gg K a) g tb nx rt σ H :=
 CU (D:=⟨nx,rt,nx,nx⟩) Pv h0 hl hs hd
theorem f_tup{tb:TS}(Pv:Nat->St->Hp->Prop)(h0:Pv 0 σ H)(hl:∀ i σ H,i <= xs.length->Pv i σ H->fF K H a xs)
  (hs:∀ i x σ H,xs[i]? = some x->Pv i σ H->g x σ H λ σ2 H2=>tb ⟨Pv (i + 1),rt,nx,Pv (i + 1)⟩ σ2 H2)(hd:∀ σ H,Pv xs.length σ H->nx σ H):Mh (JE K a) g tb nx rt σ H :=
 Gy (D:=⟨nx,rt,nx,nx⟩) Pv h0 hl hs hd
theorem Mi{n:Nat}{gs:AU}{R:St->Hp->Prop}(hS:fF K H a xs)(hn:xs.length=n)(h:gs xs σ H R):Lk K n gs (.ref a) σ H R:=⟨a,xs,rfl,hS,hn,h⟩
theorem GV{gs:AU}{vs:List V}{R:St->Hp->Prop}(h:g v σ H λ σ' H'=>gs vs σ' H' R):JD g gs (v :: vs) σ H R:=⟨v,vs,rfl,h⟩
theorem Mj{R:St->Hp->Prop}(h:R σ H):Pk [] σ H R:=⟨rfl,h⟩
theorem GW{xs:List V}(hS:bK K H p xs)(h:R (Gg K p) H):Qv K R (.ref p) H:=⟨p,rfl,⟨xs,hS⟩,h⟩
theorem Mk{xs:List V}(hS:fF K H p xs)(h:R (JE K p) H):Qw K R (.ref p) H:=⟨p,rfl,⟨xs,hS⟩,h⟩
theorem Vy{tb:TS}{m:Nat}{W:Nat->St->Hp->Prop}(h:tb ⟨λ σ' H'=>∃ m',m' < m /\ W m' σ' H',rt,nx,λ σ' H'=>∃ m',m' < m /\ W m' σ' H'⟩ σ H):∃ N:St->Hp->Prop,(∀ σ' H',N σ' H'->∃ m',m' < m /\ W m' σ' H') /\ tb ⟨N,rt,nx,N⟩ σ H:=⟨_,λ _ _ h=>h,h⟩
theorem nQ{tb:TS}(W:Nat->St->Hp->Prop)(h0:∃ m,W m σ H)(hs:∀ m σ H,W m σ H->c σ H λ b H1=>if b=true then ∃ N:St->Hp->Prop,(∀ σ' H',N σ' H'->∃ m',m' < m /\ W m' σ' H') /\ tb ⟨N,rt,nx,N⟩ σ H1 else nx σ H1):CQ c tb ⟨nx,rt,bk,ct⟩ σ H:=⟨W,h0,hs⟩
def JX(t u:TS):TS:=GQ t u
def JY(t u:TS):TS:=GQ t u
theorem kU{st:Stmt}{rest:List Stmt}{t u:TS}(h1:PS X st t)(h2:nE X rest u):nE X (st :: rest) (JX t u):=nP h1 h2
theorem uH{st:Stmt}{rest:List Stmt}{t u:TS}(h1:PS X st t)(h2:nE X rest u):nE X (st :: rest) (JY t u):=nP h1 h2
theorem Ml(h:t ⟨λ σ' H'=>σ'=σ /\ H'=H,rt,bk,ct⟩ σ H)(k:u ⟨nx,rt,bk,ct⟩ σ H):JX t u ⟨nx,rt,bk,ct⟩ σ H:=⟨_,h,λ _ _ e=>by rw [e.1,e.2]; exact k⟩
theorem Mm(h:t ⟨λ σ' H'=>σ'=σ /\ aD H H',rt,bk,ct⟩ σ H)(k:∀ H',aD H H'->u ⟨nx,rt,bk,ct⟩ σ H'):JY t u ⟨nx,rt,bk,ct⟩ σ H:=⟨_,h,λ _ _ e=>by rw [e.1]; exact k _ e.2⟩
theorem lX.same{H0:Hp}(n:lX H p o H')(e:aD H0 H)(hp:H0 p=Option.none):aD H0 H':=λ b v q=>n.keep (bw q hp) (e b v q)
theorem QB{xs:List V}(hS:bK K H p xs)(h:A):OT K "list" (.ref p) H /\ A:=⟨.inl ⟨rfl,_,hS⟩,h⟩
theorem Mn{r:St}(h:Q v H):j4 0 (some v :: r) H Q:=⟨v,rfl,h⟩
theorem Vz{r:St}{R:St->Hp->Prop}(h:R (some v :: r) H):fG 0 v (y :: r) H R:=h
theorem Mp{r:St}(h:Q v H):j4 1 (x0 :: some v :: r) H Q:=⟨v,rfl,h⟩
theorem VA{r:St}{R:St->Hp->Prop}(h:R (x0 :: some v :: r) H):fG 1 v (x0 :: y :: r) H R:=h
theorem Mq{r:St}(h:Q v H):j4 2 (x0 :: x1 :: some v :: r) H Q:=⟨v,rfl,h⟩
theorem VB{r:St}{R:St->Hp->Prop}(h:R (x0 :: x1 :: some v :: r) H):fG 2 v (x0 :: x1 :: y :: r) H R:=h
theorem Mr{r:St}(h:Q v H):j4 3 (x0 :: x1 :: x2 :: some v :: r) H Q:=⟨v,rfl,h⟩
theorem QC{r:St}{R:St->Hp->Prop}(h:R (x0 :: x1 :: x2 :: some v :: r) H):fG 3 v (x0 :: x1 :: x2 :: y :: r) H R:=h
theorem Mt{r:St}(h:Q v H):j4 4 (x0 :: x1 :: x2 :: x3 :: some v :: r) H Q:=⟨v,rfl,h⟩
theorem VC{r:St}{R:St->Hp->Prop}(h:R (x0 :: x1 :: x2 :: x3 :: some v :: r) H):fG 4 v (x0 :: x1 :: x2 :: x3 :: y :: r) H R:=h
theorem Mu{r:St}(h:Q v H):j4 5 (x0 :: x1 :: x2 :: x3 :: x4 :: some v :: r) H Q:=⟨v,rfl,h⟩
theorem VD{r:St}{R:St->Hp->Prop}(h:R (x0 :: x1 :: x2 :: x3 :: x4 :: some v :: r) H):fG 5 v (x0 :: x1 :: x2 :: x3 :: x4 :: y :: r) H R:=h
theorem Mv{r:St}(h:Q v H):j4 6 (x0 :: x1 :: x2 :: x3 :: x4 :: x5 :: some v :: r) H Q:=⟨v,rfl,h⟩
theorem VE{r:St}{R:St->Hp->Prop}(h:R (x0 :: x1 :: x2 :: x3 :: x4 :: x5 :: some v :: r) H):fG 6 v (x0 :: x1 :: x2 :: x3 :: x4 :: x5 :: y :: r) H R:=h
theorem Mw{r:St}(h:Q v H):j4 7 (x0 :: x1 :: x2 :: x3 :: x4 :: x5 :: x6 :: some v :: r) H Q:=⟨v,rfl,h⟩
theorem VF{r:St}{R:St->Hp->Prop}(h:R (x0 :: x1 :: x2 :: x3 :: x4 :: x5 :: x6 :: some v :: r) H):fG 7 v (x0 :: x1 :: x2 :: x3 :: x4 :: x5 :: x6 :: y :: r) H R:=h
theorem Mx{r:St}(h:Q v H):j4 8 (x0 :: x1 :: x2 :: x3 :: x4 :: x5 :: x6 :: x7 :: some v :: r) H Q:=⟨v,rfl,h⟩
theorem VG{r:St}{R:St->Hp->Prop}(h:R (x0 :: x1 :: x2 :: x3 :: x4 :: x5 :: x6 :: x7 :: some v :: r) H):fG 8 v (x0 :: x1 :: x2 :: x3 :: x4 :: x5 :: x6 :: x7 :: y :: r) H R:=h
theorem My{r:St}(h:Q v H):j4 9 (x0 :: x1 :: x2 :: x3 :: x4 :: x5 :: x6 :: x7 :: x8 :: some v :: r) H Q:=⟨v,rfl,h⟩
theorem VH{r:St}{R:St->Hp->Prop}(h:R (x0 :: x1 :: x2 :: x3 :: x4 :: x5 :: x6 :: x7 :: x8 :: some v :: r) H):fG 9 v (x0 :: x1 :: x2 :: x3 :: x4 :: x5 :: x6 :: x7 :: x8 :: y :: r) H R:=h
theorem GX{r:St}(h:Q v H):j4 10 (x0 :: x1 :: x2 :: x3 :: x4 :: x5 :: x6 :: x7 :: x8 :: x9 :: some v :: r) H Q:=⟨v,rfl,h⟩
theorem QD{r:St}{R:St->Hp->Prop}(h:R (x0 :: x1 :: x2 :: x3 :: x4 :: x5 :: x6 :: x7 :: x8 :: x9 :: some v :: r) H):fG 10 v (x0 :: x1 :: x2 :: x3 :: x4 :: x5 :: x6 :: x7 :: x8 :: x9 :: y :: r) H R:=h
theorem GY{r:St}(h:Q v H):j4 11 (x0 :: x1 :: x2 :: x3 :: x4 :: x5 :: x6 :: x7 :: x8 :: x9 :: GZ :: some v :: r) H Q:=⟨v,rfl,h⟩
theorem QE{r:St}{R:St->Hp->Prop}(h:R (x0 :: x1 :: x2 :: x3 :: x4 :: x5 :: x6 :: x7 :: x8 :: x9 :: GZ :: some v :: r) H):fG 11 v (x0 :: x1 :: x2 :: x3 :: x4 :: x5 :: x6 :: x7 :: x8 :: x9 :: GZ :: y :: r) H R:=h
theorem G0{Tz:Option V}{r:St}(h:Q v H):j4 12 (x0 :: x1 :: x2 :: x3 :: x4 :: x5 :: x6 :: x7 :: x8 :: x9 :: GZ :: Tz :: some v :: r) H Q:=⟨v,rfl,h⟩
theorem QF{Tz:Option V}{r:St}{R:St->Hp->Prop}(h:R (x0 :: x1 :: x2 :: x3 :: x4 :: x5 :: x6 :: x7 :: x8 :: x9 :: GZ :: Tz :: some v :: r) H):fG 12 v (x0 :: x1 :: x2 :: x3 :: x4 :: x5 :: x6 :: x7 :: x8 :: x9 :: GZ :: Tz :: y :: r) H R:=h
end
end L2
namespace ZP
open PySem
variable {Q:Value->Shared->Prop}
def Src(t:Bool)(h:Heap)(a:Addr)(xs:Array Value):Prop:=match t with
 | true=>h.IsTuple a xs
 | false=>h.IsList a xs
def kM(t:Bool)(h:Heap)(it a:Addr)(i:Nat):Prop:=match t with
 | true=>h.IsTupleIter it a i
 | false=>h.IsListIter it a i
def kW(t:Bool)(a:Addr):Obj:=match t with
 | true=>{ cls:=.type "tuple_iterator", data:=.fields #[.ref a,.int 0 0] }
 | false=>{ cls:=.type "list_iterator", data:=.fields #[.ref a,.int 0 0] }
section
variable {t:Bool}{h h':Heap}{a it:Addr}{xs:Array Value}{i:Nat}
theorem Src.at(x:Src t h a xs)(k:∀ o,h.get? a=some o->h'.get? a=some o):Src t h' a xs:=by
 cases t
 ·obtain ⟨o,e,r⟩:=x; exact ⟨o,k o e,r⟩
 ·obtain ⟨o,e,r⟩:=x; exact ⟨o,k o e,r⟩
theorem Src.here(x:Src t h a xs):∃ o,h.get? a=some o:=by
 cases t
 ·obtain ⟨o,e,r⟩:=x; exact ⟨o,e⟩
 ·obtain ⟨o,e,r⟩:=x; exact ⟨o,e⟩
theorem Src.push(x:Src t h a xs)(o:Obj):Src t (h.push o) a xs:=x.at λ _ e=>bO _ e
theorem kM.at(x:kM t h it a i)(k:∀ o,h.get? it=some o->h'.get? it=some o):kM t h' it a i:=by
 cases t
 ·obtain ⟨o,e,r⟩:=x; exact ⟨o,k o e,r⟩
 ·obtain ⟨o,e,r⟩:=x; exact ⟨o,k o e,r⟩
theorem kM.here(x:kM t h it a i):∃ o,h.get? it=some o /\ ∃ vs,o.data=.fields vs:=by
 cases t
 ·obtain ⟨o,e,c,d⟩:=x; exact ⟨o,e,_,d⟩
 ·obtain ⟨o,e,c,d⟩:=x; exact ⟨o,e,_,d⟩
theorem kM.new(e:h.get? it=some (kW t a)):kM t h it a 0:=by
 cases t
 ·exact ⟨_,e,rfl,rfl⟩
 ·exact ⟨_,e,rfl,rfl⟩
end
section
variable {prog:Program}{w:World}{A:Around}{E:Value->Shared->Prop}{s:Shared}{t:Bool}{a it:Addr}{xs:Array Value}{i:Nat}
theorem zJ(x:Src t s.heap a xs)(q:Q (.ref s.heap.objs.size) { s with heap:=s.heap.push (kW t a) }):wpAny (model prog w) A (pyIter (.ref a)) Q E s:=by
 cases t
 ·exact wpAny_pyIter_list x q
 ·exact wpAny_pyIter_tuple x q
theorem alive{T:Addr}{o:Obj}{Q:Option Obj->Shared->Prop}(ho:s.heap.get? T=some o)(h:Q (some o) s):wpAny (model prog w) A (loadIfAlive T) Q E s:=by
 have h':Q (s.heap.get? T) s:=by rw [ho]; exact h
 exact λ _ _ _=>h'
theorem next_item{x:Value}(hit:kM t s.heap it a i)(hs:Src t s.heap a xs)(hx:xs[i]? = some x)
  (hQ:∀ h',kM t h' it a (i + 1)->Heap.SameBut it s.heap h'->Q x { s with heap:=h' }):wpAny (model prog w) A (Builtin.SmallTypes.nextOf (.ref it)) Q E s:=by
 cases t
 ·exact wpAny_nextOf_list_item hit hs hx hQ
 ·have hit:s.heap.IsTupleIter it a i:=hit
  obtain ⟨o,ho,hc,hd⟩:=id hit
  obtain ⟨ol,G1,_,nl,hdl⟩:=id hs
  unfold Builtin.SmallTypes.nextOf
  refine af (wpAny_callSpecial?_slot (name:=Str.ofString "__next__") hit.typeIs sC (wpAny_call_entry sC hit.typeIs F.entry_tuple_iterator_next ?_ (F.args_tuple_iterator_next_1 _)))
  show wpAny _ _ (field (.ref it) 0 >>= _) _ _ s
  refine af (wpAny_field ho hd (x:=.ref a) rfl ?_)
  show wpAny _ _ (if (Value.ref a == Value.none)=true then _ else _) _ _ s
  rw [if_neg (show ¬ ((Value.ref a == Value.none)=true) from j0)]
  show wpAny _ _ (field (.ref it) 1 >>= _) _ _ s
  refine af (wpAny_field ho hd (x:=.int i 0) rfl ?_)
  show wpAny _ _ (seqItems? (.ref a) >>= _) _ _ s
  refine af (wpAny_seqItems G1 hdl ?_)
  simp only [gT,hx]
  refine af (wpAny_setField ho hd (by simp) (aE ⟨x,rfl,aE (hQ _ ?_ (f9 ..))⟩))
  exact ⟨_,cj _ ho (fk (bW hd _)),(iJ ..).trans hc,by rw [bW hd]; simp [rawInt]⟩
theorem next_end(hh:A.handled=none)(hit:kM t s.heap it a i)(hs:Src t s.heap a xs)(hx:xs[i]? = none)
  (hE:∀ h' e,Heap.ExtBut it s.heap h'->(∃ o,h'.get? e=some o /\ o.cls=.type "StopIteration")->E (.ref e) { s with heap:=h' }):wpAny (model prog w) A (Builtin.SmallTypes.nextOf (.ref it)) Q E s:=by
 cases t
 ·exact wpAny_nextOf_list_end hh hit hs hx hE
 ·have hit:s.heap.IsTupleIter it a i:=hit
  obtain ⟨o,ho,hc,hd⟩:=id hit
  obtain ⟨ol,G1,_,nl,hdl⟩:=id hs
  unfold Builtin.SmallTypes.nextOf
  refine af (wpAny_callSpecial?_slot (name:=Str.ofString "__next__") hit.typeIs sC (wpAny_call_entry sC hit.typeIs F.entry_tuple_iterator_next ?_ (F.args_tuple_iterator_next_1 _)))
  show wpAny _ _ (field (.ref it) 0 >>= _) _ _ s
  refine af (wpAny_field ho hd (x:=.ref a) rfl ?_)
  show wpAny _ _ (if (Value.ref a == Value.none)=true then _ else _) _ _ s
  rw [if_neg (show ¬ ((Value.ref a == Value.none)=true) from j0)]
  show wpAny _ _ (field (.ref it) 1 >>= _) _ _ s
  refine af (wpAny_field ho hd (x:=.int i 0) rfl ?_)
  show wpAny _ _ (seqItems? (.ref a) >>= _) _ _ s
  refine af (wpAny_seqItems G1 hdl ?_)
  simp only [gT,hx]
  refine af (wpAny_rule (af (wpAny_setField ho hd (by simp) ?_)))
  show wpAny _ _ (newExc (.type "StopIteration") [] >>= _) _ _ _
  refine af ?_
  simp only [newExc,newTuple]
  refine af (wpAny_newObj_type ?_ (by size_fits))
  refine af (m:=firstArgMember _ _) (wpAny_of_eq (a:=Value.none) (by first | rfl | (simp only [firstArgMember]; rfl)) ?_)
  refine wpAny_newObj_type ?_ (by size_fits)
  simp only [raiseNew]
  refine af (wpAny_handled ?_)
  first | rw [show A.in1.handled=none from hh] | rw [hh]
  refine af (aE (wpAny_throw ?_))
  exact hE _ _ (((f9 ..).extBut.push _).push _) ⟨_,fK _ rfl,rfl⟩
end
abbrev ZO(h:Heap)(z TI TO:Addr)(f0:Value)(f:Bool):Prop :=
 h.get? z=some { cls:=.type "zip", dict:=none,data:=.fields #[f0,.bool f,.bool false,.ref TI,.ref TO],slots:=#[] }
structure Zs (t1 t2:Bool) (TI TO i1 i2 l1 l2:Addr) (i:Nat) (h:Heap):Prop where
 ti:IsPair h TI (.ref i1) (.ref i2)
 to:∃ a b,IsPair h TO a b
 a1:kM t1 h i1 l1 i
 a2:kM t2 h i2 l2 i
theorem Zs.keep{t1 t2:Bool}{TI TO i1 i2 l1 l2:Addr}{i:Nat}{h h':Heap}(x:Zs t1 t2 TI TO i1 i2 l1 l2 i h)(k:∀ b,b=TI \/ b=TO \/ b=i1 \/ b=i2->∀ o,h.get? b=some o->h'.get? b=some o):Zs t1 t2 TI TO i1 i2 l1 l2 i h' :=
 ⟨k _ (.inl rfl) _ x.ti,let ⟨a,b,e⟩:=x.to; ⟨a,b,k _ (.inr (.inl rfl)) _ e⟩,x.a1.at λ o e=>k _ (.inr (.inr (.inl rfl))) o e,x.a2.at λ o e=>k _ (.inr (.inr (.inr rfl))) o e⟩
def Rest(z TO i1 i2:Addr)(h h':Heap):Prop:=∀ c o,c ≠ z->c ≠ TO->c ≠ i1->c ≠ i2->h.get? c=some o->h'.get? c=some o
section
variable {prog:Program}{w:World}{A:Around}{E:Value->Shared->Prop}{s:Shared}{t1 t2:Bool}{z TI TO i1 i2 l1 l2:Addr}{i:Nat}{xs ys:Array Value}{x y:Value}
theorem DC(D:ZipApart z TI TO i1 i2 l1 l2)(hz:ZO s.heap z TI TO .none false)(st:Zs t1 t2 TI TO i1 i2 l1 l2 i s.heap)(hl1:Src t1 s.heap l1 xs)(hl2:Src t2 s.heap l2 ys)(hx:xs[i]? = some x)(hy:ys[i]? = some y)
  (hQ:∀ h',ZO h' z TI TO (rawInt s.heap.objs.size) false->Zs t1 t2 TI TO i1 i2 l1 l2 (i + 1) h'->IsPair h' s.heap.objs.size x y->h'.objs.size=s.heap.objs.size + 1->Rest z TO i1 i2 s.heap h'->Q (.ref s.heap.objs.size) { s with heap:=h' }):
  wpAny (model prog w) A (Builtin.«zip.__next__» ⟨[.ref z],[]⟩) (λ fin s'=>∃ v,fin=.done (.ret v) /\ Q v s') E s:=by
 obtain ⟨hTI,⟨a,b,hTO⟩,h1,h2⟩:=st
 show wpAny _ _ (field (.ref z) 2 >>= _) _ _ _
 refine af (wpAny_field hz rfl (x:=.bool false) rfl ?_)
 show wpAny _ _ (field (.ref z) 3 >>= _) _ _ _
 refine af (wpAny_field hz rfl (x:=.ref TI) rfl ?_)
 refine af (wpAny_seqItems hTI rfl ?_)
 show wpAny _ _ (Builtin.SmallTypes.ownedTupleIsFree (.ref z) >>= _) _ _ _
 refine af ?_
 unfold Builtin.SmallTypes.ownedTupleIsFree
 refine af (wpAny_field hz rfl (x:=.none) rfl (aE ?_))
 simp only [if_true]
 refine af (wpAny_rule ?_)
 refine af (wpAny_field hz rfl (x:=.ref TO) rfl ?_)
 refine af (wpAny_setField_rec hz (by simp) λ h₁ uI hs₁=>?_)
 replace uI:ZO h₁ z TI TO .ellipsis false:=uI
 refine af ?_
 simp only [List.zipIdx_cons,List.zipIdx_nil,gW,jh]
 refine af (af (wpAny_onRaise ?_))
 show wpAny _ _ (Builtin.SmallTypes.nextOf (.ref i1) >>= _) _ _ _
 refine af (next_item (h1.at λ o e=>hs₁.extBut _ o D.i1z e) (hl1.at λ o e=>hs₁.extBut _ o D.l1z e) hx λ h₂ JZ hs₂=>aE ?_)
 have DE:IsPair h₂ TO a b:=hs₂.extBut _ _ D.TOi1 (hs₁.extBut _ _ D.TOz hTO)
 refine af (wpAny_seqItems DE rfl ?_)
 refine af (wpAny_updateSeq_pair DE λ h₃ G2 lY=>?_)
 replace G2:IsPair h₃ TO x b:=G2
 refine af (wpAny_letGo (aE ?_))
 refine af (af (wpAny_onRaise ?_))
 show wpAny _ _ (Builtin.SmallTypes.nextOf (.ref i2) >>= _) _ _ _
 refine af (next_item (h2.at λ o e=>lY.extBut _ o D.TOi2.symm (hs₂.extBut _ o D.i12.symm (hs₁.extBut _ o D.i2z e)))
  (hl2.at λ o e=>lY.extBut _ o D.l2TO (hs₂.extBut _ o D.l2i1 (hs₁.extBut _ o D.l2z e))) hy λ h₄ Zv J0=>aE ?_)
 have QG:IsPair h₄ TO x b:=J0.extBut _ _ D.TOi2 G2
 refine af (wpAny_seqItems QG rfl ?_)
 refine af (wpAny_updateSeq_pair QG λ h₅ G3 J1=>?_)
 replace G3:IsPair h₅ TO x y:=G3
 refine af (wpAny_letGo (aE (aE ?_)))
 refine af (wpAny_seqItems G3 rfl ?_)
 refine af (wpAny_newTuple ?_)
 have hsz:h₅.objs.size=s.heap.objs.size:=by rw [J1.1,J0.1,lY.1,hs₂.1,hs₁.1]
 have Yc:ZO h₅ z TI TO .ellipsis false:=J1.extBut _ _ D.TOz.symm (J0.extBut _ _ D.i2z.symm (lY.extBut _ _ D.TOz.symm (hs₂.extBut _ _ D.i1z.symm uI)))
 have Yd:Rest z TO i1 i2 s.heap h₅:=λ c o c1 c2 c3 c4 e=>J1.extBut _ _ c2 (J0.extBut _ _ c4 (lY.extBut _ _ c2 (hs₂.extBut _ _ c3 (hs₁.extBut _ _ c1 e))))
 have Zw:kM t1 h₅ i1 l1 (i + 1):=JZ.at λ o e=>J1.extBut _ o D.TOi1.symm (J0.extBut _ o D.i12 (lY.extBut _ o D.TOi1.symm e))
 have Zx:kM t2 h₅ i2 l2 (i + 1):=Zv.at λ o e=>J1.extBut _ o D.TOi2.symm e
 have QH:z < h₅.objs.size:=aA Yc
 show wpAny _ _ (Builtin.SmallTypes.ownedTupleHandOut (.ref z) (.ref h₅.objs.size) >>= _) _ _ _
 refine af ?_
 unfold Builtin.SmallTypes.ownedTupleHandOut
 have Zy:ZO (h₅.push { cls:=.type "tuple", data:=.seq #[x,y] }) z TI TO .ellipsis false:=bO _ Yc
 refine af (wpAny_setField_rec Zy (by simp) λ h₇ VI VJ=>?_)
 replace VI:ZO h₇ z TI TO (rawInt h₅.objs.size) false:=VI
 refine wpAny_setField_rec VI (by simp) λ h₈ TF VL=>?_
 replace TF:ZO h₈ z TI TO (rawInt h₅.objs.size) false:=TF
 have up:∀ c o,c ≠ z->h₅.get? c=some o->h₈.get? c=some o:=λ c o c1 e=>VL.extBut _ _ c1 (VJ.extBut _ _ c1 (bO _ e))
 have Ye:IsPair h₈ h₅.objs.size x y:=VL.extBut _ _ (fO QH) (VJ.extBut _ _ (fO QH) (fK _ rfl))
 have Yg:h₈.objs.size=h₅.objs.size + 1:=by rw [VL.1,VJ.1,dI]
 rw [hsz] at TF Ye Yg
 refine aE ⟨_,rfl,?_⟩
 show Q (.ref h₅.objs.size) _
 rw [hsz]
 exact hQ h₈ TF ⟨up _ _ D.TIz (Yd _ _ D.TIz D.TITO D.TIi1 D.TIi2 hTI),⟨x,y,up _ _ D.TOz G3⟩,Zw.at λ o e=>up _ o D.i1z e,Zx.at λ o e=>up _ o D.i2z e⟩ Ye Yg λ c o c1 c2 c3 c4 e=>up c o c1 (Yd c o c1 c2 c3 c4 e)
theorem TH{f:Bool}{T:Addr}{oT:Obj}(D:ZipApart z TI TO i1 i2 l1 l2)(hz:ZO s.heap z TI TO (rawInt T) f)(hT:s.heap.get? T=some oT)(st:Zs t1 t2 TI TO i1 i2 l1 l2 i s.heap)(hl1:Src t1 s.heap l1 xs)(hl2:Src t2 s.heap l2 ys)(hx:xs[i]? = some x)(hy:ys[i]? = some y)
  (hQ:∀ h',ZO h' z TI TO (rawInt T) true->Zs t1 t2 TI TO i1 i2 l1 l2 (i + 1) h'->IsPair h' s.heap.objs.size x y->h'.objs.size=s.heap.objs.size + 1->Rest z TO i1 i2 s.heap h'->Q (.ref s.heap.objs.size) { s with heap:=h' }):
  wpAny (model prog w) A (Builtin.«zip.__next__» ⟨[.ref z],[]⟩) (λ fin s'=>∃ v,fin=.done (.ret v) /\ Q v s') E s:=by
 obtain ⟨hTI,⟨a,b,hTO⟩,h1,h2⟩:=st
 show wpAny _ _ (field (.ref z) 2 >>= _) _ _ _
 refine af (wpAny_field hz rfl (x:=.bool false) rfl ?_)
 show wpAny _ _ (field (.ref z) 3 >>= _) _ _ _
 refine af (wpAny_field hz rfl (x:=.ref TI) rfl ?_)
 refine af (wpAny_seqItems hTI rfl ?_)
 show wpAny _ _ (Builtin.SmallTypes.ownedTupleIsFree (.ref z) >>= _) _ _ _
 have fin:∀ h₁,ZO h₁ z TI TO (rawInt T) true->Heap.SameBut z s.heap h₁->∀ h₂ h₃,kM t1 h₂ i1 l1 (i + 1)->Heap.SameBut i1 h₁ h₂->kM t2 h₃ i2 l2 (i + 1)->Heap.SameBut i2 h₂ h₃ ->
   Q (.ref h₃.objs.size) { s with heap:=h₃.push { cls:=.type "tuple", data:=.seq #[x,y] } }:=by
  intro h₁ uI hs₁ h₂ h₃ q1 hs₂ q2 lY
  have hsz:h₃.objs.size=s.heap.objs.size:=by rw [lY.1,hs₂.1,hs₁.1]
  have up:Rest z TO i1 i2 s.heap (h₃.push { cls:=.type "tuple", data:=.seq #[x,y] }):=λ c o c1 c2 c3 c4 e=>bO _ (lY.extBut _ _ c4 (hs₂.extBut _ _ c3 (hs₁.extBut _ _ c1 e)))
  have hp:IsPair (h₃.push { cls:=.type "tuple", data:=.seq #[x,y] }) h₃.objs.size x y:=fK _ rfl
  rw [hsz] at hp ⊢
  refine hQ _ (bO _ (lY.extBut _ _ D.i2z.symm (hs₂.extBut _ _ D.i1z.symm uI))) ⟨up _ _ D.TIz D.TITO D.TIi1 D.TIi2 hTI,⟨a,b,?_⟩,?_,?_⟩ hp (by rw [dI,hsz]) up
  ·exact bO _ (lY.extBut _ _ D.TOi2 (hs₂.extBut _ _ D.TOi1 (hs₁.extBut _ _ D.TOz hTO)))
  ·exact q1.at λ o e=>bO _ (lY.extBut _ o D.i12 e)
  ·exact q2.at λ o e=>bO _ e
 refine af ?_
 unfold Builtin.SmallTypes.ownedTupleIsFree
 refine af (wpAny_field hz rfl (x:=rawInt T) rfl ?_)
 show wpAny _ _ (loadIfAlive ((T:Int).toNat) >>= _) _ _ _
 rw [gT]
 refine af (alive hT ?_)
 simp only [Option.isNone_some,aS,if_false]
 refine af (wpAny_field hz rfl (x:=.bool f) rfl ?_)
 cases f
 ·rw [if_pos (by decide)]
  refine af (wpAny_setField_rec hz (by simp) λ h₁ uI hs₁=>aE ?_)
  replace uI:ZO h₁ z TI TO (rawInt T) true:=uI
  rw [if_neg (by decide)]
  refine af ?_
  simp only [<- jg,gW,jh]
  refine af (af (wpAny_holding ?_))
  show wpAny _ _ (Builtin.SmallTypes.nextOf (.ref i1) >>= _) _ _ _
  refine af (next_item (h1.at λ o e=>hs₁.extBut _ o D.i1z e) (hl1.at λ o e=>hs₁.extBut _ o D.l1z e) hx λ h₂ JZ hs₂=>aE ?_)
  refine aE (af (af (wpAny_holding ?_)))
  show wpAny _ _ (Builtin.SmallTypes.nextOf (.ref i2) >>= _) _ _ _
  refine af (next_item (h2.at λ o e=>hs₂.extBut _ o D.i12.symm (hs₁.extBut _ o D.i2z e)) (hl2.at λ o e=>hs₂.extBut _ o D.l2i1 (hs₁.extBut _ o D.l2z e)) hy λ h₃ VM lY=>aE ?_)
  refine aE (aE ?_)
  refine af (wpAny_newTuple (aE ⟨_,rfl,?_⟩) (hsz:=by show 2 <= sizeLine; decide))
  exact fin h₁ uI hs₁ h₂ h₃ JZ hs₂ VM lY
 ·rw [if_neg (by decide)]
  refine aE ?_
  have uI:=hz
  have hs₁:Heap.SameBut z s.heap s.heap:=oN ..
  let h₁:=s.heap
  rw [if_neg (by decide)]
  refine af ?_
  simp only [<- jg,gW,jh]
  refine af (af (wpAny_holding ?_))
  show wpAny _ _ (Builtin.SmallTypes.nextOf (.ref i1) >>= _) _ _ _
  refine af (next_item (h1.at λ o e=>hs₁.extBut _ o D.i1z e) (hl1.at λ o e=>hs₁.extBut _ o D.l1z e) hx λ h₂ JZ hs₂=>aE ?_)
  refine aE (af (af (wpAny_holding ?_)))
  show wpAny _ _ (Builtin.SmallTypes.nextOf (.ref i2) >>= _) _ _ _
  refine af (next_item (h2.at λ o e=>hs₂.extBut _ o D.i12.symm (hs₁.extBut _ o D.i2z e)) (hl2.at λ o e=>hs₂.extBut _ o D.l2i1 (hs₁.extBut _ o D.l2z e)) hy λ h₃ VM lY=>aE ?_)
  refine aE (aE ?_)
  refine af (wpAny_newTuple (aE ⟨_,rfl,?_⟩) (hsz:=by show 2 <= sizeLine; decide))
  exact fin h₁ uI hs₁ h₂ h₃ JZ hs₂ VM lY
theorem G4{f:Bool}{f0:Value}{Q:Fin->Shared->Prop}(hf:f0=.none \/ ∃ (T:Addr) (oT:Obj),f0=rawInt T /\ s.heap.get? T=some oT)(hh:A.handled=none)(D:ZipApart z TI TO i1 i2 l1 l2)(hz:ZO s.heap z TI TO f0 f)(st:Zs t1 t2 TI TO i1 i2 l1 l2 i s.heap)(hl1:Src t1 s.heap l1 xs)(hl2:Src t2 s.heap l2 ys)
  (hend:xs[i]? = none \/ ys[i]? = none)
  (hE:∀ h' e,Rest z TO i1 i2 s.heap h'->(∃ o,h'.get? e=some o /\ o.cls=.type "StopIteration")->E (.ref e) { s with heap:=h' }):
  wpAny (model prog w) A (Builtin.«zip.__next__» ⟨[.ref z],[]⟩) Q E s:=by
 obtain ⟨hTI,⟨a,b,hTO⟩,h1,h2⟩:=st
 show wpAny _ _ (field (.ref z) 2 >>= _) _ _ _
 refine af (wpAny_field hz rfl (x:=.bool false) rfl ?_)
 show wpAny _ _ (field (.ref z) 3 >>= _) _ _ _
 refine af (wpAny_field hz rfl (x:=.ref TI) rfl ?_)
 refine af (wpAny_seqItems hTI rfl ?_)
 show wpAny _ _ (Builtin.SmallTypes.ownedTupleIsFree (.ref z) >>= _) _ _ _
 refine af ?_
 unfold Builtin.SmallTypes.ownedTupleIsFree
 rcases hf with rfl | ⟨T,oT,rfl,hT⟩
 ·refine af (wpAny_field hz rfl (x:=.none) rfl (aE ?_))
  simp only [if_true]
  refine af (wpAny_rule ?_)
  refine af (wpAny_field hz rfl (x:=.ref TO) rfl ?_)
  refine af (wpAny_setField_rec hz (by simp) λ h₁ uI hs₁=>?_)
  replace uI:ZO h₁ z TI TO .ellipsis f:=uI
  refine af ?_
  simp only [List.zipIdx_cons,List.zipIdx_nil,gW,jh]
  refine af (af (wpAny_onRaise ?_))
  show wpAny _ _ (Builtin.SmallTypes.nextOf (.ref i1) >>= _) _ _ _
  cases hx:xs[i]? with
  | none =>
   refine af (next_end hh (h1.at λ o e=>hs₁.extBut _ o D.i1z e) (hl1.at λ o e=>hs₁.extBut _ o D.l1z e) hx λ h₂ e hs₂ he=>?_)
   obtain ⟨oe,Mz,hce⟩:=he
   have Yh:ZO h₂ z TI TO .ellipsis f:=hs₂ _ _ D.i1z.symm uI
   have VN:e ≠ z:=λ x=>by subst x; rw [Yh] at Mz; cases Mz; simp at hce
   exact wpAny_setField_rec Yh (by simp) λ h₃ _ lY=>hE h₃ e (λ c o c1 _ c3 _ x=>lY.extBut _ _ c1 (hs₂ _ _ c3 (hs₁.extBut _ _ c1 x))) ⟨oe,lY.extBut _ _ VN Mz,hce⟩
  | some x =>
   have hy:ys[i]? = none:=by
    rcases hend with h | h
    ·rw [hx] at h; cases h
    ·exact h
   refine af (next_item (h1.at λ o e=>hs₁.extBut _ o D.i1z e) (hl1.at λ o e=>hs₁.extBut _ o D.l1z e) hx λ h₂ JZ hs₂=>aE ?_)
   have DE:IsPair h₂ TO a b:=hs₂.extBut _ _ D.TOi1 (hs₁.extBut _ _ D.TOz hTO)
   refine af (wpAny_seqItems DE rfl ?_)
   refine af (wpAny_updateSeq_pair DE λ h₃ G2 lY=>?_)
   refine af (wpAny_letGo (aE ?_))
   refine af (af (wpAny_onRaise ?_))
   show wpAny _ _ (Builtin.SmallTypes.nextOf (.ref i2) >>= _) _ _ _
   refine af (next_end hh (h2.at λ o e=>lY.extBut _ o D.TOi2.symm (hs₂.extBut _ o D.i12.symm (hs₁.extBut _ o D.i2z e)))
    (hl2.at λ o e=>lY.extBut _ o D.l2TO (hs₂.extBut _ o D.l2i1 (hs₁.extBut _ o D.l2z e))) hy λ h₄ e J0 he=>?_)
   obtain ⟨oe,Mz,hce⟩:=he
   have Yi:ZO h₄ z TI TO .ellipsis f:=J0 _ _ D.i2z.symm (lY.extBut _ _ D.TOz.symm (hs₂.extBut _ _ D.i1z.symm uI))
   have VN:e ≠ z:=λ x=>by subst x; rw [Yi] at Mz; cases Mz; simp at hce
   exact wpAny_setField_rec Yi (by simp) λ h₅ _ J1=>hE h₅ e (λ c o c1 c2 c3 c4 x=>J1.extBut _ _ c1 (J0 _ _ c4 (lY.extBut _ _ c2 (hs₂.extBut _ _ c3 (hs₁.extBut _ _ c1 x))))) ⟨oe,J1.extBut _ _ VN Mz,hce⟩
 ·refine af (wpAny_field hz rfl (x:=rawInt T) rfl ?_)
  show wpAny _ _ (loadIfAlive ((T:Int).toNat) >>= _) _ _ _
  rw [gT]
  refine af (alive hT ?_)
  simp only [Option.isNone_some,aS,if_false]
  refine af (wpAny_field hz rfl (x:=.bool f) rfl ?_)
  cases f
  ·rw [if_pos (by decide)]
   refine af (wpAny_setField_rec hz (by simp) λ h₁ uI hs₁=>aE ?_)
   rw [if_neg (by decide)]
   refine af ?_
   simp only [<- jg,gW,jh]
   refine af (af (wpAny_holding ?_))
   show wpAny _ _ (Builtin.SmallTypes.nextOf (.ref i1) >>= _) _ _ _
   cases hx:xs[i]? with
   | none=>exact af (next_end hh (h1.at λ o e=>hs₁.extBut _ o D.i1z e) (hl1.at λ o e=>hs₁.extBut _ o D.l1z e) hx λ h₂ e hs₂ he=>hE h₂ e (λ c o c1 _ c3 _ x=>hs₂ _ _ c3 (hs₁.extBut _ _ c1 x)) he)
   | some x =>
    have hy:ys[i]? = none:=by
     rcases hend with h | h
     ·rw [hx] at h; cases h
     ·exact h
    refine af (next_item (h1.at λ o e=>hs₁.extBut _ o D.i1z e) (hl1.at λ o e=>hs₁.extBut _ o D.l1z e) hx λ h₂ JZ hs₂=>aE ?_)
    refine aE (af (af (wpAny_holding ?_)))
    show wpAny _ _ (Builtin.SmallTypes.nextOf (.ref i2) >>= _) _ _ _
    exact af (next_end hh (h2.at λ o e=>hs₂.extBut _ o D.i12.symm (hs₁.extBut _ o D.i2z e)) (hl2.at λ o e=>hs₂.extBut _ o D.l2i1 (hs₁.extBut _ o D.l2z e)) hy λ h₃ e lY he=>hE h₃ e (λ c o c1 _ c3 c4 x=>lY _ _ c4 (hs₂.extBut _ _ c3 (hs₁.extBut _ _ c1 x))) he)
  ·rw [if_neg (by decide)]
   refine aE ?_
   let h₁:=s.heap
   have hs₁:Heap.SameBut z s.heap s.heap:=oN ..
   rw [if_neg (by decide)]
   refine af ?_
   simp only [<- jg,gW,jh]
   refine af (af (wpAny_holding ?_))
   show wpAny _ _ (Builtin.SmallTypes.nextOf (.ref i1) >>= _) _ _ _
   cases hx:xs[i]? with
   | none=>exact af (next_end hh (h1.at λ o e=>hs₁.extBut _ o D.i1z e) (hl1.at λ o e=>hs₁.extBut _ o D.l1z e) hx λ h₂ e hs₂ he=>hE h₂ e (λ c o c1 _ c3 _ x=>hs₂ _ _ c3 (hs₁.extBut _ _ c1 x)) he)
   | some x =>
    have hy:ys[i]? = none:=by
     rcases hend with h | h
     ·rw [hx] at h; cases h
     ·exact h
    refine af (next_item (h1.at λ o e=>hs₁.extBut _ o D.i1z e) (hl1.at λ o e=>hs₁.extBut _ o D.l1z e) hx λ h₂ JZ hs₂=>aE ?_)
    refine aE (af (af (wpAny_holding ?_)))
    show wpAny _ _ (Builtin.SmallTypes.nextOf (.ref i2) >>= _) _ _ _
    exact af (next_end hh (h2.at λ o e=>hs₂.extBut _ o D.i12.symm (hs₁.extBut _ o D.i2z e)) (hl2.at λ o e=>hs₂.extBut _ o D.l2i1 (hs₁.extBut _ o D.l2z e)) hy λ h₃ e lY he=>hE h₃ e (λ c o c1 _ c3 c4 x=>lY _ _ c4 (hs₂.extBut _ _ c3 (hs₁.extBut _ _ c1 x))) he)
theorem G5{Q:Option Value->Shared->Prop}{Q':Value->Shared->Prop}(hT:s.TypeIs (.ref z) "zip")(h:wpAny (model prog w) A.in1 (Builtin.«zip.__next__» ⟨[.ref z],[]⟩) (λ fin s'=>∃ v,fin=.done (.ret v) /\ Q' v s') (λ _ _=>False) s)(q:∀ v s',Q' v s'->Q (some v) s'):wpAny (model prog w) A (pyNext (.ref z)) Q E s:=by
 unfold pyNext
 refine af (wpAny_attempt (wpAny_callSpecial?_slot (name:=Str.ofString "__next__") hT F.slot_zip_next (wpAny_call_entry F.slot_zip_next hT F.entry_zip_next (wpAny_mono h (λ fin s' h'=>?_) λ _ _ h'=>h'.elim) (F.args_zip_next_1 _))))
 obtain ⟨v,rfl,h'⟩:=h'
 exact ⟨v,rfl,aE (q v s' h')⟩
theorem MA{Q:Option Value->Shared->Prop}(hT:s.TypeIs (.ref z) "zip")(h:wpAny (model prog w) A.in1 (Builtin.«zip.__next__» ⟨[.ref z],[]⟩) (λ _ _=>False) (λ e s'=>∃ a o,e=.ref a /\ s'.heap.get? a=some o /\ o.cls=.type "StopIteration" /\ Q none s') s):wpAny (model prog w) A (pyNext (.ref z)) Q E s:=by
 unfold pyNext
 refine af (wpAny_attempt (wpAny_callSpecial?_slot (name:=Str.ofString "__next__") hT F.slot_zip_next (wpAny_call_entry F.slot_zip_next hT F.entry_zip_next (wpAny_mono h (λ _ _ h'=>h'.elim) λ e s' h'=>?_) (F.args_zip_next_1 _))))
 obtain ⟨a,o,rfl,ho,hc,q⟩:=h'
 refine af (wpAny_isInstance (T := "StopIteration") (b:=true) ⟨o,ho,hc⟩ isSubtype_stop ?_)
 exact aE q
end
section
variable {prog:Program}{w:World}{A:Around}{E:Value->Shared->Prop}{s:Shared}{t1 t2:Bool}{l1 l2:Addr}{xs ys:Array Value}
abbrev TJ(t1:Bool)(h:Heap)(l1:Addr):Heap:=h.push (kW t1 l1)
abbrev TL(t1 t2:Bool)(h:Heap)(l1 l2:Addr):Heap:=(TJ t1 h l1).push (kW t2 l2)
abbrev TM(t1 t2:Bool)(h:Heap)(l1 l2:Addr):Heap:=(TL t1 t2 h l1 l2).push { cls:=.type "tuple", data:=.seq #[.ref h.objs.size,.ref (TJ t1 h l1).objs.size] }
abbrev TN(t1 t2:Bool)(h:Heap)(l1 l2:Addr):Heap:=(TM t1 t2 h l1 l2).push { cls:=.type "tuple", data:=.seq #[.none,.none] }
abbrev MB(t1 t2:Bool)(h:Heap)(l1 l2:Addr):Heap:=(TN t1 t2 h l1 l2).push { cls:=.type "zip", data:=.fields #[.none,.bool false,.bool false,.ref (TL t1 t2 h l1 l2).objs.size,.ref (TM t1 t2 h l1 l2).objs.size] }
theorem A8(t1 t2:Bool)(l1 l2:Addr)(xs ys:Array Value):
  Meets (Builtin.«zip.__new__» ⟨[.type "zip", .ref l1,.ref l2],[]⟩) (λ _ R s=>Src t1 s.heap l1 xs /\ Src t2 s.heap l2 ys /\
   R (.ok (.ret (.ref (TN t1 t2 s.heap l1 l2).objs.size))) { s with heap:=MB t1 t2 s.heap l1 l2 }) :=
 .of_wp λ prog w A R s h=>by
  obtain ⟨hp,g,d,tk,os⟩:=s; obtain ⟨hl1,hl2,h⟩:=h
  have hsub:=sub_zip
  have Zz:Src t1 (Shared.heap ⟨hp,g,d,tk,os⟩) l1 xs:=hl1
  have Yj:Src t2 (Shared.heap ⟨hp.push (kW t1 l1),g,d,tk,os⟩) l2 ys:=Src.push hl2 _
  wp_walk using zJ Zz,zJ Yj
  exact ⟨_,rfl,h⟩
theorem DF(hl1:Src t1 s.heap l1 xs)(hl2:Src t2 s.heap l2 ys)
  (h:∀ h',ZO h' (s.heap.objs.size + 4) (s.heap.objs.size + 2) (s.heap.objs.size + 3) .none false->Zs t1 t2 (s.heap.objs.size + 2) (s.heap.objs.size + 3) s.heap.objs.size (s.heap.objs.size + 1) l1 l2 0 h' ->
   h'.objs.size=s.heap.objs.size + 5->(∀ c o,s.heap.get? c=some o->h'.get? c=some o)->Q (.ref (s.heap.objs.size + 4)) { s with heap:=h' }):
  wpAny (model prog w) A (call (.type "zip") [.ref l1,.ref l2]) Q E s:=by
 refine callType_new F.called_zip (by decide) (F.typeCall_zip_2 _ _) (F.newCall_zip_2 _ _) (λ obj=>F.args_object_init_3 obj _ _) F.entry_zip_new
  (A8 t1 t2 l1 l2 xs ys) ⟨hl1,hl2,?_⟩
 have z1:(TJ t1 s.heap l1).objs.size=s.heap.objs.size + 1:=dI ..
 have z2:(TL t1 t2 s.heap l1 l2).objs.size=s.heap.objs.size + 2:=by rw [dI,z1]
 have z3:(TM t1 t2 s.heap l1 l2).objs.size=s.heap.objs.size + 3:=by rw [dI,z2]
 have z4:(TN t1 t2 s.heap l1 l2).objs.size=s.heap.objs.size + 4:=by rw [dI,z3]
 have z5:(MB t1 t2 s.heap l1 l2).objs.size=s.heap.objs.size + 5:=by rw [dI,z4]
 have g5:(MB t1 t2 s.heap l1 l2).get? (TN t1 t2 s.heap l1 l2).objs.size=some _:=fK _ rfl
 have g4:(MB t1 t2 s.heap l1 l2).get? (TM t1 t2 s.heap l1 l2).objs.size=some _:=bO _ (fK _ rfl)
 have g3:(MB t1 t2 s.heap l1 l2).get? (TL t1 t2 s.heap l1 l2).objs.size=some _:=bO _ (bO _ (fK _ rfl))
 have r2:(kW t2 l2).isFreed=false:=by cases t2 <;> rfl
 have r1:(kW t1 l1).isFreed=false:=by cases t1 <;> rfl
 have g2:(MB t1 t2 s.heap l1 l2).get? (TJ t1 s.heap l1).objs.size=some (kW t2 l2):=bO _ (bO _ (bO _ (fK _ r2)))
 have g1:(MB t1 t2 s.heap l1 l2).get? s.heap.objs.size=some (kW t1 l1):=bO _ (bO _ (bO _ (bO _ (fK _ r1))))
 show _ /\ _
 rw [z2,z3,z4] at g5
 rw [z1,z2] at g3
 rw [z3] at g4
 rw [z1] at g2
 rw [z4]
 exact ⟨⟨_,g5,rfl⟩,h _ g5 ⟨g3,⟨_,_,g4⟩,kM.new g1,kM.new g2⟩ z5 λ c o x =>
  bO _ (bO _ (bO _ (bO _ (bO _ x))))⟩
end
section
variable {prog:Program}{w:World}{A:Around}{E:Value->Shared->Prop}{s:Shared}{I:Addr}{T:String}{St:Heap->Prop}
end
end ZP
theorem BT.QI:PySem.bootBuiltins "zip" = some (.type "zip"):=by decide +kernel
namespace L2
open PySem PySem.Spec PyProof.Rows
variable {b a p:Addr}{xs:List V}{R:Option Int->Hp->Prop}{i:Int}{scope:Scope}{cl:List (Str × Addr)}{fr:List Str}{ix:List Nat}{v:V}{tt:TT}
section
variable {X:Cx}{pins:List (Addr × Obj)}{σ:St}{H:Hp}{s:Shared}{h':Heap}
theorem Inv.nR{t':Nat}{fp:List Addr}(I:Inv X pins σ H s)(k:∀ b o,b ∉ fp->s.heap.get? b=some o->h'.get? b=some o)(hf:∀ b∈fp,fT X pins H b):Inv X pins σ H { s with heap:=h',toks:=t' }:=by
 have Pa:∀ b u,H b=some u->b ∉ fp:=λ b u e z=>by rw [(hf b z).1] at e; cases e
 refine I.step (g':=s.gens) (d':=s.drawn) (ch:=fp) (λ b hb=>?_) (λ b o _ _ hc e _=>k b o hc e) (λ b o _ _ hc e _=>⟨o.slots,k b o hc e⟩) (λ _ _ _ _ n=>n)
  (λ b o hc e=>⟨o,k b o hc e⟩) (λ _ _ e=>e) (λ _ _ _ e=>e) (λ b ps e=>⟨#[],by rw [e]; simp⟩) (λ m hm=>?_) (λ b u e=>?_) I.bare
 ·exact ⟨(hf b hb).2.2.2.1,(hf b hb).2.1,(hf b hb).2.2.2.2.1,(hf b hb).2.2.2.2.2⟩
 ·obtain ⟨o,es,ep,ho,r⟩:=hm
  exact ⟨o,es,ep,k _ o (λ z=>(hf _ z).2.1 rfl) ho,r⟩
 ·refine (I.hok b u e).stay (λ c v hc q=>k c v ?_ q) (λ _ q=>q) λ _ _ q=>q
  rcases hc with z | z
  ·rw [z]; exact Pa b u e
  ·exact Pa c _ z
theorem fT.upd{T:Addr}{o:HO}(f:fT X pins H b)(h:b ≠ T):fT X pins (L2.upd H T o) b:=⟨by rw [aR h]; exact f.1,f.2⟩
def A9(t:Bool)(K:az)(H:Hp)(a:Addr)(xs:List V):Prop:=match t with
 | true=>fF K H a xs
 | false=>bK K H a xs
theorem aD.VO{K:az}{H H':Hp}(e:aD H H')(h:fF K H a xs):fF K H' a xs:=by
 rcases h with (h | ⟨o,h⟩) | h
 ·exact .inl (.inl (e _ _ h))
 ·exact .inl (.inr ⟨o,e _ _ h⟩)
 ·exact .inr h
theorem Inv.src{t:Bool}(I:Inv X pins σ H s)(h:A9 t X.K H a xs):∃ its:List Value,Vals xs its /\ ZP.Src t s.heap a its.toArray /\ xs.length <= sizeLine:=by
 cases t
 ·obtain ⟨its,r,pl,z⟩:=I.list h
  exact ⟨its,r,pl.isList,z⟩
 ·obtain ⟨its,r,pl,z⟩:=I.tuple h
  exact ⟨its,r,pl,z⟩
def br(H:Hp)(ps:List Addr)(xs ys:List V)(i:Nat):Prop:=ps.length=i /\ ∀ (j:Nat) (p:Addr),ps[j]? = some p->∃ x y,xs[j]? = some x /\ ys[j]? = some y /\ H p=some (.tup [x,y])
theorem uJ:jf X (binaryOp .FloorDiv) (rI (λ _ j=>0 < j /\ j < 18446744073709551616) λ i j=>.int (i / j)):=Px λ i j _ _ _ _ _ hc q=>by
 have h1:(0:Int) < j:=hc.1
 have h2:j < 18446744073709551616:=hc.2
 refine floordiv_int (by omega) (by rw [Int.fdiv_eq_ediv_of_nonneg i (by omega)]; exact q) (.inl (PyProof.noPylong_of_log2 ?_))
 have h3:j.natAbs.log2 < 64:=(Nat.log2_lt (by omega)).mpr (by omega)
 omega
end
section
variable {K:az}{nx bk ct:St->Hp->Prop}{rt:VK}{σ:St}{H:Hp}{Q:VK}{te:TE}{t u:TS}
def J2(R:Option Int->Hp->Prop):V->Hp->Prop:=λ x H=>∃ i,x=.int i /\ R (some i) H
theorem MC(h:te σ H (J2 R)):JL te σ H R:=h
theorem G6(h:R (some i) H):J2 R (.int i) H:=⟨i,rfl,h⟩
theorem DG(h:R none H):zy σ H R:=h
end
def Ba{α:Type}(P:α->Prop):List α->Prop
 | []=>True
 | a :: l=>P a /\ Ba P l
theorem Ba.mem{α:Type}{P:α->Prop}:∀ {l:List α},Ba P l->∀ a∈l,P a
 | [],_,a,h=>nomatch h
 | b :: l,hl,a,h=>by
  rcases aG.mp h with e | h
  ·rw [e]; exact hl.1
  ·exact Ba.mem hl.2 a h
section
variable {X:Cx}
theorem bA.caps{x:Str}{nm:List Str}(calm:X.calm=true)(clos:closureFor scope X.env=pure cl)(cell:∀ y∈scope.names,y.2 ≠ .cell)(kind:scope.kind=.function)
  (names:∀ y∈scope.names,y.2=.local->scope.names.lookup y.1=some .local)(loc:scope.names.lookup x=some .local)(nd:(x :: fr).Nodup)
  (hcl:Ba (λ p=>X.env.cells.lookup p.1=some p.2) cl)(hnm:cl.map (·.1)=nm)(hfree:∀ z∈scope.names,z.2=.free->z.1∈nm)(hlen:fr.length=ix.length)
  (hfx:Ba (λ p=>X.N[p.2]? = some p.1 /\ X.env.kindOf p.1=some .cell /\ (relabel scope X.env).names.lookup p.1=some .cell) (fr.zip ix)):bA X scope cl x fr ix where
 calm:=calm
 clos:=clos
 cell:=cell
 kind:=kind
 names:=names
 loc:=loc
 nd:=nd
 OU:=λ y c h=>hcl.mem (y,c) (gF h)
 JT:=λ y h=>by
  have mem:∀ {k:NameKind},(relabel scope X.env).names.lookup y=some k->∃ z∈scope.names,(if (z.2 == .free && X.env.scope.kind == .function && X.env.kindOf z.1 == some .cell) then (z.1,NameKind.cell) else (z.1,z.2))=(y,k):=λ {k} e=>by
   have q:=gF e
   obtain ⟨z,hz,e⟩:=aF.mp q
   exact ⟨z,hz,e⟩
  have key:∃ z∈scope.names,z.1=y /\ z.2=.free:=by
   rcases h with h | h
   ·obtain ⟨z,hz,e⟩:=mem h
    refine ⟨z,hz,?_⟩
    by_cases hf:(z.2 == NameKind.free)=true
    ·refine ⟨?_,by cases hk:z.2 <;> rw [hk] at hf <;> first | rfl | cases hf⟩
     split at e
     ·exact congrArg Prod.fst e
     ·exact congrArg Prod.fst e
    ·exfalso
     rw [Bool.not_eq_true] at hf
     rw [hf,oK,oK,if_neg j0] at e
     exact cell z hz (congrArg Prod.snd e)
   ·obtain ⟨z,hz,e⟩:=mem h
    refine ⟨z,hz,?_⟩
    split at e
    ·exact absurd (congrArg Prod.snd e) (by intro q; cases q)
    ·exact ⟨congrArg Prod.fst e,congrArg Prod.snd e⟩
  obtain ⟨z,hz,rfl,hk⟩:=key
  have hm:=hfree z hz hk
  rw [<- hnm] at hm
  obtain ⟨p,hp,e⟩:=aF.mp hm
  cases q:cl.lookup z.1 with
  | some c=>exact ⟨c,rfl⟩
  | none =>
   exfalso
   have:=List.lookup_eq_none_iff.mp q p hp
   rw [e] at this
   simp at this
 fx:=λ j y h=>by
  have hj:j < fr.length:=(eU h).1
  have hi:ix[j]? = some (ix[j]'(by omega)):=by simp
  have hz:(y,ix[j]'(by omega))∈fr.zip ix:=fL (i:=j) (by rw [l0]; exact ⟨h,hi⟩)
  obtain ⟨a,b,c⟩:=hfx.mem _ hz
  exact ⟨_,hi,a,.inl b,.inl c⟩
 len:=hlen
end
section
variable {X:Cx}{K:az}{nx bk ct:St->Hp->Prop}{rt:VK}{σ:St}{H:Hp}{Q:VK}{P:Bool->Hp->Prop}{te ta tb:TE}{t u:TS}
def G7:R2:=λ x y H Q=>y=.bZ /\ Q (.bl (decide (x=.bZ))) H
def DI:R2:=λ x y H Q=>y=.bZ /\ Q (.bl (!decide (x=.bZ))) H
theorem zK:jf X (compareOp .Is) G7:=Ly
theorem DJ:jf X (compareOp .IsNot) DI:=GC
theorem MD(h:Q (.bl true) H):G7 .bZ .bZ H Q:=⟨rfl,h⟩
theorem ME(h:Q (.bl false) H):G7 (.ref a) .bZ H Q:=⟨rfl,h⟩
theorem MF(h:Q (.bl false) H):G7 (.int i) .bZ H Q:=⟨rfl,h⟩
theorem G8(h:Q (.bl false) H):DI .bZ .bZ H Q:=⟨rfl,h⟩
theorem G9(h:Q (.bl true) H):DI (.int i) .bZ H Q:=⟨rfl,h⟩
def DK(K:az):List V->Hp->VK->Prop:=λ xs H Q=>∃ p ys,xs=[.ref p] /\ ((bK K H p ys /\ ∀ l,H l=none->Q (.ref l) (upd H l (.tup ys))) \/ (fF K H p ys /\ Q (.ref p) H))
theorem Bb:cG X (.type "tuple") (DK X.K):=qH
theorem MG{ys:List V}(hS:bK K H p ys)(h:∀ l H',eB H l (.tup ys) H'->Q (.ref l) H'):DK K [.ref p] H Q:=⟨p,ys,rfl,.inl ⟨hS,λ l hl=>h l _ ⟨hl,rfl⟩⟩⟩
theorem MH{n:Nat}{gs:AU}{R:St->Hp->Prop}(hS:bK K H a xs)(hn:xs.length=n)(h:gs xs σ H R):Qa K n gs (.ref a) σ H R:=⟨a,xs,rfl,hS,hn,h⟩
theorem QJ{l:Addr}{zs:List V}(h1:H l=some (.lst xs))(h2:H b=some (.lst zs))(hz:xs.length + zs.length <= 1000000)(h:∀ p H',eB H p (.lst (xs++zs)) H'->Q (.ref p) H'):PY (.ref l) (.ref b) H Q :=
 ⟨l,b,xs,zs,rfl,rfl,h1,h2,bq hz (by decide),λ p hp=>h p _ ⟨hp,rfl⟩⟩
theorem DL{l:Addr}{zs:List V}(h1:H l=some (.lst xs))(h2:H b=some (.lst zs))(hz:xs.length + zs.length <= 1000000)(h:∀ H',lX H l (.lst (xs++zs)) H'->Q .bZ H'):zC (.ref l) [.ref b] H Q :=
 ⟨l,b,xs,zs,rfl,rfl,h1,h2,bq hz (by decide),h _ rfl⟩
def MI(K:az)(P:Bool->Hp->Prop):VK:=λ x H=>∃ k,GD K x H k /\ P k H
def QK(K:az)(ta:TE):TT:=λ σ H Q=>ta σ H λ x H'=>∃ k,GD K x H' k /\ Q k H'
theorem mK{a:Expr}(ha:PE X a ta)(he:∀ whole,isTrue a X.env whole=(do let v <- whole; standAt a.pos; holding [v] (truthy v))):PT X a (QK X.K ta):=C1 ha he
theorem QL(h:ta σ H (MI K P)):QK K ta σ H P:=h
theorem MJ(hS:bK K H p xs)(h:P (!xs.isEmpty) H):MI K P (.ref p) H:=⟨_,.inl ⟨xs,hS,rfl⟩,h⟩
theorem MK{b:Bool}(h:P b H):MI K P (.bl b) H:=⟨_,rfl,h⟩
theorem VP{r:V->Option Int->Option Int->Hp->VK->Prop}{tl th:TO}(h:te σ H λ x H1=>tl σ H1 λ l H2=>th σ H2 λ u H3=>r x l u H3 Q):X7 r te tl th σ H Q:=h
theorem QM{lo hi:Option Int}(hS:bK K H a xs)(h:∀ p H',eB H p (.lst (jv xs lo hi)) H'->Q (.ref p) H'):PR K (.ref a) lo hi H Q:=⟨a,xs,rfl,hS,λ p hp=>h p _ ⟨hp,rfl⟩⟩
theorem ML{i:Nat}(e:σ[i]? = some (some v))(h:Q v H):j4 i σ H Q:=⟨v,e,h⟩
theorem MM{i:Nat}(h:te σ H λ v H1=>fG i v σ H1 nx):Dt te i ⟨nx,rt,bk,ct⟩ σ H:=h
theorem QN{c:TT}(Jt Jf:Hp->Prop)(h:c σ H λ b H1=>if b=true then Jt H1 else Jf H1)(h1:∀ H1,Jt H1->t ⟨nx,rt,bk,ct⟩ σ H1)(h2:∀ H1,Jf H1->u ⟨nx,rt,bk,ct⟩ σ H1):P4 c t u ⟨nx,rt,bk,ct⟩ σ H:=⟨Jt,Jf,h,h1,h2⟩
theorem MN{to ti:TE}{ts:Gx}{R:St->Hp->Prop}(h:to σ H λ o H1=>ti σ H1 λ i H2=>ts o i v H2 λ H3=>R σ H3):Pn to ti ts v σ H R:=h
theorem DM{k:Int}{j:Nat}{R:Hp->Prop}(hl:H p=some (.lst xs))(hj:Gh xs.length k=some j)(h:∀ H',lX H p (.lst (xs.set j v)) H'->R H'):JM (.ref p) (.int k) v H R:=⟨p,xs,k,j,rfl,rfl,hl,hj,h _ rfl⟩
theorem uK(x y:Str):(x++y).length=x.length + y.length:=by
 show (x.cps++y.cps).size=x.cps.size + y.cps.size
 simp
theorem J3(h:P true H):LV σ H P:=h
def DN(J:It)(tt:TT)(te:TE)(τ:St)(Q:VK)(H:Hp):Prop:=∃ W:Nat->Nat->List V->Hp->Prop,(∃ m,W 0 m [] H) /\ ∀ i m ys H,W i m ys H ->
 (J.stop i H /\ ∀ p,H p=none->Q (.ref p) (upd H p (.lst ys))) \/ (J.go i H /\ ys.length < sizeLine /\ ∃ N:List V->Hp->Prop,(∀ ys' H',N ys' H'->∃ m',m' < m /\ W (i + 1) m' ys' H') /\
  ∀ v H',J.CD i H v H'->tt (some v :: τ) H' λ b H3=>if b=true then te (some v :: τ) H3 λ y H4=>N (ys++[y]) H4 else N ys H3)
theorem MO{wi:TI}(h:wi σ H λ J H1=>DN J tt te (cut ix σ) Q H1):Ds wi tt te ix σ H Q:=h
theorem jQ{lo:Int}{n:Nat}{τ:St}(Pv:Nat->List V->Hp->Prop)(h0:Pv 0 [] H)
  (hs:∀ i ys H,i < n->Pv i ys H->ys.length < sizeLine /\ tt (some (.int (lo + i)) :: τ) H λ b H3=>if b=true then te (some (.int (lo + i)) :: τ) H3 λ y H4=>Pv (i + 1) (ys++[y]) H4 else Pv (i + 1) ys H3)
  (hd:∀ ys H,Pv n ys H->∀ p H',eB H p (.lst ys) H'->Q (.ref p) H'):DN (kM lo n) tt te τ Q H:=by
 refine ⟨λ i m ys H=>m=n - i /\ i <= n /\ Pv i ys H,⟨n,by simp,aO _,h0⟩,?_⟩
 rintro i m ys H ⟨rfl,hi,p⟩
 by_cases hlt:i < n
 ·obtain ⟨hz,q⟩:=hs i ys H hlt p
  refine .inr ⟨hlt,hz,Pv (i + 1),λ σ' H' p'=>⟨n - (i + 1),by omega,rfl,hlt,p'⟩,λ x H' y=>?_⟩
  obtain ⟨e,y⟩:=y
  subst e y
  exact q
 ·have e:i=n:=by omega
  subst e
  exact .inl ⟨ay _,λ q hq=>hd ys H p q _ ⟨hq,rfl⟩⟩
theorem fP{τ:St}(Pv:Nat->List V->Hp->Prop)(h0:Pv 0 [] H)(hl:∀ i ys H,i <= xs.length->Pv i ys H->bK K H a xs)
  (hs:∀ i x ys H,xs[i]? = some x->Pv i ys H->ys.length < sizeLine /\ tt (some x :: τ) H λ b H3=>if b=true then te (some x :: τ) H3 λ y H4=>Pv (i + 1) (ys++[y]) H4 else Pv (i + 1) ys H3)
  (hd:∀ ys H,Pv xs.length ys H->∀ p H',eB H p (.lst ys) H'->Q (.ref p) H'):DN (Gg K a) tt te τ Q H:=by
 refine ⟨λ i m ys H=>m=xs.length - i /\ i <= xs.length /\ Pv i ys H,⟨xs.length,by simp,aO _,h0⟩,?_⟩
 rintro i m ys H ⟨rfl,hi,p⟩
 have q:=hl i ys H hi p
 by_cases hlt:i < xs.length
 ·have hx:xs[i]? = some xs[i]:=by simp [hlt]
  obtain ⟨hz,q'⟩:=hs i _ ys H hx p
  refine .inr ⟨⟨xs,xs[i],q,hx⟩,hz,Pv (i + 1),λ σ' H' p'=>⟨xs.length - (i + 1),by omega,rfl,hlt,p'⟩,λ x H' y=>?_⟩
  obtain ⟨e,y⟩:=y
  subst e
  have e2:x=xs[i]:=Option.some.inj ((y xs q).symm.trans hx)
  subst e2
  exact q'
 ·have e:i=xs.length:=by omega
  subst e
  exact .inl ⟨⟨xs,q,ay _⟩,λ r hr=>hd ys H p r _ ⟨hr,rfl⟩⟩
end
structure gM (X:Cx) (scope:Scope) (cl:List (Str × Addr)) (xs fr:List Str) (ix:List Nat):Prop where
 calm:X.calm=true
 clos:closureFor scope X.env=pure cl
 cell:∀ y∈scope.names,y.2 ≠ .cell
 kind:scope.kind=.function
 names:∀ y∈scope.names,y.2=.local->scope.names.lookup y.1=some .local
 nd:(xs++fr).Nodup
 OU:∀ y c,cl.lookup y=some c->X.env.cells.lookup y=some c
 JT:∀ y,((relabel scope X.env).names.lookup y=some .cell \/ (relabel scope X.env).names.lookup y=some .free)->∃ c,cl.lookup y=some c
 fx:∀ (j:Nat) y,fr[j]? = some y->∃ i:Nat,ix[j]? = some i /\ X.N[i]? = some y /\ (X.env.kindOf y=some .cell \/ X.env.kindOf y=some .free) /\ ((relabel scope X.env).names.lookup y=some .cell \/ (relabel scope X.env).names.lookup y=some .free)
 len:fr.length=ix.length
section
variable {X:Cx}{pins:List (Addr × Obj)}{σ:St}{H:Hp}{s:Shared}
theorem gM.of{x:Str}{xs:List Str}(O:bA X scope cl x fr ix)(nd:(xs++fr).Nodup):gM X scope cl xs fr ix:=⟨O.calm,O.clos,O.cell,O.kind,O.names,nd,O.OU,O.JT,O.fx,O.len⟩
theorem nh{elt iter tg:Expr}{xs:List Str}{g:TG}{ifs:List Expr}{pos:Pos}{te:TE}{E:Value->Shared->Prop}{RR:Value->Addr->Result->Shared->Prop}
  (O:gM X scope cl xs fr ix)(hg:∀ C fp s H,PG (j6 X (xs++fr) scope cl C fp s H) tg g)(ht:∀ C fp s H,PF (j6 X (xs++fr) scope cl C fp s H) ifs tt)(he:∀ C fp s H,PE (j6 X (xs++fr) scope cl C fp s H) elt te)
  {it:Addr}{fp:List Addr}{tn:Nat->Heap->Prop}{J:It}{H2:Hp}{s2:Shared}(I2:Inv X pins σ H2 s2)(T:Turn X.prog X.w X.K tg J fp it tn)(st2:tn 0 s2.heap)(f2:∀ b∈fp,fT X pins H2 b)
  (Z:List V->Hp->Prop)(W:Nat->Nat->List V->St->Hp->Prop)(m0:Nat)(w0:W 0 m0 [] (List.replicate xs.length none++cut ix σ) H2)
  (turn:∀ i m ys τ H,W i m ys τ H->(J.stop i H /\ Z ys H) \/ (J.go i H /\ ys.length < sizeLine /\ ∃ N:List V->St->Hp->Prop,(∀ ys' τ' H',N ys' τ' H'->∃ m',m' < m /\ W (i + 1) m' ys' τ' H') /\
   ∀ v H',J.CD i H v H'->g v τ H' λ τ2 H2=>tt τ2 H2 λ b H3=>if b=true then te τ2 H3 λ y H4=>N (ys++[y]) τ2 H4 else N ys τ2 H3))
  (hRR:∀ D C s' ys H',Inv X pins σ (upd H' D (.lst ys)) s'->(∃ m,s'.heap.Ns C m)->fT X pins (upd H' D (.lst ys)) C->H' D=none->Z ys H'->RR (.ref D) C (.ok .next) s'):
  wpAny (model X.prog X.w) X.A (newList []) (λ acc s₃=>wpAny (model X.prog X.w) X.A (newFunctionEnv scope X.env.globals cl [] X.env.qual none .none (some X.env)) (λ cenv s₄ =>
   codeAny (model X.prog X.w) X.A (.compStart (.ListComp elt [⟨tg,iter,ifs,0⟩] scope pos) 0 (.ref it) acc { cenv with scope:=relabel scope X.env }) (RR acc cenv.locals) s₄) E s₃) E s2:=by
 refine wpAny_newObj_type (wpAny_newFunctionEnv O.cell (by intro y hy; simp at hy) (λ h₁ xY sU=>?_) O.kind)
 dsimp only at xY sU ⊢
 generalize hG:s2.heap.push { cls:=.type "list", dict:=none,data:=.seq ([]:List Value).toArray }=G at xY sU ⊢
 have hC:G.objs.size=s2.heap.objs.size + 1:=by rw [<- hG,dI]
 have hDC:s2.heap.objs.size ≠ G.objs.size:=by rw [hC]; exact aM (kr _)
 have xZ:s2.heap.objs.size <= G.objs.size:=by rw [hC]; exact jk _
 have below:∀ b,b < s2.heap.objs.size->b ≠ G.objs.size /\ b ≠ s2.heap.objs.size:=λ b hb=>⟨by rw [hC]; exact aM (jl hb),aM hb⟩
 have old:∀ b o,s2.heap.get? b=some o->h₁.get? b=some o:=λ b o e=>sU.extBut b o (below b (aA e)).1 (bO _ (hG ▸ bO _ e))
 have hacc:h₁.get? s2.heap.objs.size=some { cls:=.type "list", data:=.seq ([]:List Value).toArray }:=sU.extBut _ _ hDC (bO _ (hG ▸ fK _ rfl))
 have P5:H2 s2.heap.objs.size=none:=I2.hok.fresh (ay _)
 have P6:H2 G.objs.size=none:=I2.hok.fresh xZ
 have fD:fT X pins H2 s2.heap.objs.size:=I2.mz (ay _) P5
 have fC:fT X pins H2 G.objs.size:=I2.mz xZ P6
 have ya:∀ b∈fp,b < s2.heap.objs.size:=λ b hb=>by
  obtain ⟨o,e,_⟩:=T.obj _ _ st2 b hb
  exact aA e
 have uD:∀ b∈frs X.stack,b∈X.env.locals :: X.fs:=I2.sG
 have dg:=O.OU
 have ok:(j6 X (xs++fr) scope cl G.objs.size fp s2 H2).Ok:=by
  refine ⟨I2.ok.mod,O.kind,I2.ok.glob,I2.ok.blt,xZ,λ y z c h1 h2=>I2.ok.inj y z c (dg y c h1) (dg z c h2),λ y hy=>O.JT y hy,λ y c h _=>absurd h j0,λ h=>I2.ok.hd h,I2.ok.frames,.inl rfl,λ b hb=>?_,I2.bs,bq I2.ok.CC I2.sz,λ b o e hb=>?_,λ b hb hs=>?_,I2.stack,I2.nO⟩
  ·exact ⟨(below b (ya b hb)).1,λ y c e=>(f2 b hb).2.2.2.2.1 y c (dg y c e)⟩
  ·rcases (f2 b hb).2.2.2.1 with z | z
   ·exact I2.ok.xD b o e z
   ·exact absurd (bz (aA (I2.ok.bs b o e).1) z) (cY _)
  ·rcases aG.mp (uD b hs) with z | z
   ·exact (f2 b hb).2.1 z
   ·exact (f2 b hb).2.2.1 z
 have P7:∀ b,s2.heap.objs.size <= b->b ∉ frs X.stack:=λ b hb hs=>by
  rcases aG.mp (uD b hs) with z | z
  ·exact absurd (bz I2.lt (z ▸ hb)) (cY _)
  ·exact I2.Le hb z
 have Ic:Inv (j6 X (xs++fr) scope cl G.objs.size fp s2 H2) [(s2.heap.objs.size,{ cls:=.type "list", data:=.seq ([]:List Value).toArray })] (List.replicate xs.length none++cut ix σ) H2 { s2 with heap:=h₁,toks:=s2.toks + ([]:List (Str × Value)).length }:=by
  refine ⟨ok,rfl,I2.bare,Un.kept old,⟨_,xY,λ i y v h1 h2 h3=>?_⟩,λ y c e=>?_,P6,λ y c e=>I2.gh y c (dg y c e),λ p hp=>?_,I2.hok.kept old,?_⟩
  ·have hk:xs.length <= i:=by
    rcases bX i xs.length with q | q
    ·rw [List.getElem?_append_left (by simpa using q),List.getElem?_replicate,if_pos q] at h2
     cases h2
    ·exact q
   ·obtain ⟨j,rfl⟩:∃ j,i=xs.length + j:=⟨i - xs.length,by omega⟩
    have h1:fr[j]? = some y:=by
     have h1:(xs++fr)[xs.length + j]? = some y:=h1
     rwa [sD (by omega),Nat.add_sub_cancel_left] at h1
    have h2:(cut ix σ)[j]? = some (some v):=by
     rwa [sD (by simp),List.length_replicate,Nat.add_sub_cancel_left] at h2
    obtain ⟨i,e1,e2,k,kc⟩:=O.fx j y h1
    obtain ⟨c,e3⟩:=O.JT y kc
    have e4:σ[i]? = some (some v):=by
     unfold cut at h2
     rw [bh,e1] at h2
     have h2:some ((σ[i]?).join)=some (some v):=h2
     have h2:=Option.some.inj h2
     cases q:σ[i]? with
     | none=>rw [q] at h2; cases h2
     | some z=>rw [q] at h2; exact congrArg some h2
    obtain ⟨m,_,hl⟩:=I2.loc
    obtain ⟨u,r,l⟩:=hl i y v e2 e4 (k.elim (λ z=>.inr (.inl z)) λ z=>.inr (.inr z))
    refine ⟨u,r,.inr ⟨kc,c,e3,?_⟩⟩
    rcases l with ⟨l1,_⟩ | ⟨_,c',l2,l3⟩
    ·rcases k with k | k <;> (rw [k] at l1; cases l1)
    ·have e5:=dg y c e3
     rw [l2] at e5; cases e5
     obtain ⟨o,ho,hd⟩:=l3
     exact ⟨o,old _ _ ho,hd⟩
  ·obtain ⟨v,o,ho,hd⟩:=I2.cell y c (dg y c e)
   exact ⟨v,o,old _ _ ho,hd⟩
  ·have e:p=(s2.heap.objs.size,{ cls:=.type "list", data:=.seq ([]:List Value).toArray }):=by simpa [j6] using hp
   subst e
   exact ⟨hacc,P5,hDC,P7 _ (ay _),λ v z=>by cases z⟩
  ·show (List.replicate xs.length none++cut ix σ).length=(xs++fr).length
   unfold cut
   simp [O.len]
 have yc:∀ b∈fp,b ≠ s2.heap.objs.size:=λ b hb=>(below b (ya b hb)).2
 have pq:∀ {pl:List (Addr × Obj)} {H':Hp},(∀ p∈pl,p.1=s2.heap.objs.size)->(∀ b∈fp,H' b=none)->∀ b∈fp,fT (j6 X (xs++fr) scope cl G.objs.size fp s2 H2) pl H' b:=λ {pl H'} hp hn b hb =>
  ⟨hn b hb,(below b (ya b hb)).1,λ hs=>ok.xE b hb hs,.inl hb,λ y c e=>(f2 b hb).2.2.2.2.1 y c (dg y c e),λ p P8 z=>yc b hb (z.symm.trans (hp p P8))⟩
 have one:∀ {o:Obj},∀ p∈[(s2.heap.objs.size,o)],p.1=s2.heap.objs.size:=λ p hp=>by
  have e:=aC.mp hp
  rw [e]
 have loop:codeAny (model X.prog X.w) X.A (.compLoop (.ListComp elt [⟨tg,iter,ifs,0⟩] scope pos) 0 (.ref it) (.ref s2.heap.objs.size) (compEnvC scope cl G.objs.size X.env)) (RR (.ref s2.heap.objs.size) G.objs.size)
   { s2 with heap:=h₁,toks:=s2.toks + ([]:List (Str × Value)).length }:=by
  refine kR (λ n s'=>∃ (i:Nat) (ys:List V) (its:List Value) (c:Nat) (τ:St) (H':Hp),Inv (j6 X (xs++fr) scope cl G.objs.size fp s2 H2) [(s2.heap.objs.size,{ cls:=.type "list", data:=.seq its.toArray c })] τ H' s' /\ tn i s'.heap /\ (∀ b∈fp,H' b=none) /\ Vals ys its /\ ys.length <= sizeLine /\ W i n ys τ H') ?_ m0
   ⟨0,[],[],0,_,H2,Ic,T.keep _ _ _ st2 (λ b _ o e=>old b o e),λ b hb=>(f2 b hb).1,.nil,aO _,w0⟩
  rintro n s3 ⟨i,ys,its,c,τ,H3,I3,st3,JH,rv,hl3,w3⟩
  rcases turn i n ys τ H3 w3 with ⟨stop,zz⟩ | ⟨go,hlt,N,hN,step⟩
  ·refine wpAny_mono (T.done (j6 X (xs++fr) scope cl G.objs.size fp s2 H2) rfl rfl rfl O.calm i _ s3 _ H3 _ I3 (pq one JH) st3 stop) (λ r s4 h4=>?_) λ _ _ e=>e
   obtain ⟨hr,I4⟩:=h4
   subst hr
   have pD:=I4.pin _ (bF _ (aC.mpr rfl))
   have IX:Inv X pins σ H3 s4:=I2.zp I4.os I4.base I4.hok I4.bare λ b hb=>⟨(f2 b hb).2.2.2.1,(f2 b hb).2.1,(f2 b hb).2.2.2.2.1,(f2 b hb).2.2.2.2.2⟩
   obtain ⟨mC,Vl,_⟩:=I4.loc
   exact hRR _ _ s4 ys H3 (IX.uC ⟨pD.2.1,fD.2⟩ ⟨hl3,its,c,rv,pD.1⟩) ⟨mC,Vl⟩ ⟨by rw [aR (aV hDC)]; exact I4.free,fC.2⟩ pD.2.1 zz
  ·refine wpAny_mono (T.item (j6 X (xs++fr) scope cl G.objs.size fp s2 H2) rfl rfl rfl O.calm i _ s3 _ H3 _ I3 (pq one JH) st3 go) (λ r s4 h4=>?_) λ _ _ e=>e
   obtain ⟨u,hr,h4⟩:=h4
   subst hr
   refine wpAny_mono h4 (λ _ s5 h5=>?_) λ _ _ e=>e
   obtain ⟨v,H5,I5,r5,y5,xJ,Pr⟩:=h5
   have Pu:=I5.pinned (pq one Pr) (T.obj _ _ xJ)
   refine wpAny_mono (hg _ _ _ _ _ s5 τ H5 v u _ Pu r5 (step v H5 y5)) (λ _ s6 h6=>?_) λ _ _ f=>False.elim f
   obtain ⟨τ2,H6,I6,q6⟩:=h6
   refine wpAny_mono (ht _ _ _ _ _ s6 _ H6 _ I6 q6) (λ ok s7 h7=>?_) λ _ _ f=>False.elim f
   obtain ⟨H7,I7,q7⟩:=h7
   cases ok with
   | true =>
    rw [if_pos rfl] at q7 ⊢
    refine wpAny_mono (he _ _ _ _ _ s7 _ H7 _ I7 q7) (λ uy s8 h8=>?_) λ _ _ f=>False.elim f
    obtain ⟨y,H8,I8,r8,n8⟩:=h8
    have pD:=I8.pin _ (bF _ (ki _ (aC.mpr rfl)))
    have rl:=rv.length
    refine append_at (hsz:=by rw [aT]; omega) pD.1 λ h9 P9 Vm=>?_
    obtain ⟨m',hm,w9⟩:=hN _ _ _ n8
    have Ia:Inv (j6 X (xs++fr) scope cl G.objs.size fp s2 H2) (jt fp s5.heap) τ2 H8 s8:=I8.jJ λ p hp=>I8.pin p (bF _ (bF _ hp))
    have Ib:=Ia.turned (h':=h9) (t':=s8.toks) (it:=s2.heap.objs.size) (λ b o hb e=>P9.extBut b o hb e) pD.2.1 hDC (.inr (ay _)) (λ y c e=>fD.2.2.2.2.1 y c (dg y c e))
     λ p hp=>by
      obtain ⟨hb,_⟩:=mD (fp:=fp) (h:=s5.heap) (show p∈jt fp s5.heap from hp)
      exact yc p.1 hb
    refine ⟨m',hm,i + 1,ys++[y],its++[uy],c + 1,τ2,H8,Ib.jJ λ p hp=>?_,T.keep _ _ _ xJ λ b hb o e=>?_,λ b hb=>?_,rv.append (.cons r8 .nil),by rw [aX,g6]; omega,w9⟩
    ·have e:=aC.mp hp
     subst e
     refine ⟨?_,pD.2.1,hDC,pD.2.2.2.1,λ v z=>by cases z⟩
     have q:its.toArray.push uy=(its++[uy]).toArray:=by simp
     rw [<- q]
     exact Vm
    ·exact P9.extBut b o (yc b hb) (I8.pin (b,o) (bF _ (bF _ (cE hb e)))).1
    ·obtain ⟨o,e,d⟩:=T.obj _ _ xJ b hb
     exact (I8.pin (b,o) (bF _ (bF _ (cE hb e)))).2.1
   | false =>
    rw [if_neg j0] at q7 ⊢
    obtain ⟨m',hm,w9⟩:=hN _ _ _ q7
    refine ⟨m',hm,i + 1,ys,its,c,τ2,H7,I7.ju,T.keep _ _ _ xJ λ b hb o e=>?_,λ b hb=>?_,rv,hl3,w9⟩
    ·exact (I7.pin (b,o) (bF _ (bF _ (cE hb e)))).1
    ·obtain ⟨o,e,d⟩:=T.obj _ _ xJ b hb
     exact (I7.pin (b,o) (bF _ (bF _ (cE hb e)))).2.1
 exact codeAny_compStart_list loop (T.self _ 0 _ _ _ (T.keep _ _ _ st2 λ b _ o e=>old b o e) loop)
def yf(wi:TI)(g:TG)(tt:TT)(te:TE)(ix:List Nat)(k:Nat):TE:=λ σ H Q=>wi σ H λ J H1=>∃ W:Nat->Nat->List V->St->Hp->Prop,(∃ m,W 0 m [] (List.replicate k none++cut ix σ) H1) /\ ∀ i m ys τ H,W i m ys τ H ->
 (J.stop i H /\ ∀ p,H p=none->Q (.ref p) (upd H p (.lst ys))) \/ (J.go i H /\ ys.length < sizeLine /\ ∃ N:List V->St->Hp->Prop,(∀ ys' τ' H',N ys' τ' H'->∃ m',m' < m /\ W (i + 1) m' ys' τ' H') /\
  ∀ v H',J.CD i H v H'->g v τ H' λ τ2 H2=>tt τ2 H2 λ b H3=>if b=true then te τ2 H3 λ y H4=>N (ys++[y]) τ2 H4 else N ys τ2 H3)
theorem DO{elt iter tg:Expr}{xs:List Str}{g:TG}{ifs:List Expr}{pos:Pos}{wi:TI}{te:TE}(O:gM X scope cl xs fr ix)(hi:PI X tg iter wi)(hg:∀ C fp s H,PG (j6 X (xs++fr) scope cl C fp s H) tg g)
  (ht:∀ C fp s H,PF (j6 X (xs++fr) scope cl C fp s H) ifs tt)(he:∀ C fp s H,PE (j6 X (xs++fr) scope cl C fp s H) elt te)
  (hs:∀ v,foldedSetIterable iter X.env v=pure v:=by intro _; rfl):PE X (.ListComp elt [⟨tg,iter,ifs,0⟩] scope pos) (yf wi g tt te ix xs.length):=by
 intro pins s σ H Q I h
 rw [eval_ListComp]
 refine wpAny_comprehension_free (use:=none) rfl hs O.clos O.kind O.names (bV (hi pins s σ H _ I h) λ v s1 h1=>bV h1 λ itv s2 h2=>?_)
 obtain ⟨it,fp,tn,J,H2,e,I2,T,st2,f2,W,⟨m0,w0⟩,turn⟩:=h2
 subst e
 refine nh O hg ht he I2 T st2 f2 (λ ys H=>∀ p,H p=none->Q (.ref p) (upd H p (.lst ys))) W m0 w0 turn λ D C s' ys H' I' hm fC hD z=>?_
 obtain ⟨m,hm⟩:=hm
 refine ⟨m,hm,λ h' hs'=>?_⟩
 exact ⟨.ref D,_,I'.turned (t':=s'.toks) (it:=C) (λ b o hb e=>hs'.extBut b o hb e) fC.1 fC.2.1 fC.2.2.2.1 fC.2.2.2.2.1 fC.2.2.2.2.2,rfl,z D hD⟩
end
end L2
theorem BT.uL:PySem.bootBuiltins "enumerate" = some (.type "enumerate"):=by decide +kernel
namespace L2
open PySem PySem.Spec PyProof.Rows
variable {w:World}{K:az}{es:List Expr}{k n:Nat}{pos:Pos}{t1 t2:Bool}{xs ys:List V}{a b:Addr}{R:It->Hp->Prop}{g:TG}{tt:TT}
def QO(K:az)(t1 t2:Bool)(l1 l2:Addr)(xs ys:List V):It :=
 ⟨λ i H=>A9 t1 K H l1 xs /\ A9 t2 K H l2 ys /\ i < min xs.length ys.length,
  λ i H v H'=>∃ p x y,xs[i]? = some x /\ ys[i]? = some y /\ v=.ref p /\ eB H p (.tup [x,y]) H',
  λ i H=>A9 t1 K H l1 xs /\ A9 t2 K H l2 ys /\ min xs.length ys.length <= i⟩
theorem DP{P:Program}{z TI TO i1 i2 l1 l2:Addr}(D:ZipApart z TI TO i1 i2 l1 l2):
  Turn P w K (.Tuple es k pos) (QO K t1 t2 l1 l2 xs ys) [z,TI,TO,i1,i2] z (λ i h=>ZP.ZO h z TI TO .none false /\ ZP.Zs t1 t2 TI TO i1 i2 l1 l2 i h) where
 mem:=by simp
 obj:=λ i h st b hb=>by
  obtain ⟨hz,hs⟩:=st
  obtain ⟨a,c,hTO⟩:=hs.to
  simp only [aG,eF,or_false] at hb
  rcases hb with e | e | e | e | e <;> rw [e]
  ·exact ⟨_,hz,λ v q=>by cases q⟩
  ·exact ⟨_,hs.ti,λ v q=>by cases q⟩
  ·exact ⟨_,hTO,λ v q=>by cases q⟩
  ·obtain ⟨o,e1,vs,d⟩:=hs.a1.here
   exact ⟨o,e1,λ v q=>by rw [d] at q; cases q⟩
  ·obtain ⟨o,e1,vs,d⟩:=hs.a2.here
   exact ⟨o,e1,λ v q=>by rw [d] at q; cases q⟩
 keep:=λ i h h' st kk=>⟨kk z (by simp) _ st.1,st.2.keep λ b hb o e=>kk b (by rcases hb with q | q | q | q <;> simp [q]) o e⟩
 item:=by
  intro X hP hw hK hc i pins s σ H E I hf st hg
  subst hP hw hK
  obtain ⟨q1,q2,hlt⟩:=hg
  obtain ⟨DQ,v1,Bc,z1⟩:=I.src q1
  obtain ⟨its2,v2,Bd,z2⟩:=I.src q2
  have hx:xs[i]? = some (xs[i]'(by omega)):=by simp
  have hy:ys[i]? = some (ys[i]'(by omega)):=by simp
  generalize xs[i]'(by omega)=x at hx
  generalize ys[i]'(by omega)=y at hy
  obtain ⟨u,hu,ru⟩:=v1.get hx
  obtain ⟨v,hv,rv⟩:=v2.get hy
  obtain ⟨hz,hs⟩:=st
  refine ZP.G5 ⟨_,hz,rfl⟩ (ZP.DC (Q:=λ r s'=>r=.ref s.heap.objs.size /\ ∃ h',s'={ s with heap:=h' } /\ ZP.ZO h' z TI TO (rawInt s.heap.objs.size) false /\ ZP.Zs t1 t2 TI TO i1 i2 l1 l2 (i + 1) h' /\ IsPair h' s.heap.objs.size u v /\ ZP.Rest z TO i1 i2 s.heap h')
   D hz hs Bc Bd (by simpa using hu) (by simpa using hv) λ h' a1 a2 a3 _ a5=>⟨rfl,h',rfl,a1,a2,a3,a5⟩) λ r s' q=>?_
  obtain ⟨rfl,h',rfl,hz',st',P8,hr⟩:=q
  refine ⟨_,rfl,wpAny_letOwnedTupleGo_zip hz' λ h2 hz2 hs2=>?_⟩
  have ZA:z ≠ s.heap.objs.size:=aM (aA hz)
  have hr2:∀ b o,b ∉ [z,TO,i1,i2]->s.heap.get? b=some o->h2.get? b=some o:=λ b o hb e =>
   hs2.extBut b o (λ q=>hb (by simp [q])) (hr b o (λ q=>hb (by simp [q])) (λ q=>hb (by simp [q])) (λ q=>hb (by simp [q])) (λ q=>hb (by simp [q])) e)
  have I1:Inv X pins σ H { s with heap:=h2,toks:=s.toks }:=I.nR (fp:=[z,TO,i1,i2]) hr2 λ b hb=>hf b (by
   simp only [aG,eF,or_false] at hb ⊢
   rcases hb with h | h | h | h <;> simp [h])
  have hfr:H s.heap.objs.size=none:=I.hok.fresh (ay _)
  have I2:=I1.uC (I.mz (ay _) hfr) (o:=.tup [x,y]) ⟨by show 2 <= sizeLine; decide,[u,v],.cons ru (.cons rv .nil),⟨_,hs2.extBut _ _ (aV ZA) P8,rfl,_,rfl⟩⟩
  obtain ⟨a,c,hTO⟩:=st'.to
  refine ⟨.ref s.heap.objs.size,_,I2,rfl,⟨_,x,y,hx,hy,rfl,hfr,rfl⟩,⟨hz2,st'.keep λ b hb o e=>hs2.extBut b o ?_ e⟩,λ b hb=>?_⟩
  ·rcases hb with q | q | q | q <;> rw [q]
   ·exact D.TIz
   ·exact D.TOz
   ·exact D.i1z
   ·exact D.i2z
  ·rw [aR ?_]
   ·exact (hf b hb).1
   ·obtain ⟨a0,c0,VQ⟩:=hs.to
    obtain ⟨o1,e1,_⟩:=hs.a1.here
    obtain ⟨o2,e2,_⟩:=hs.a2.here
    have lt:∀ {b:Addr} {o:Obj},s.heap.get? b=some o->b ≠ s.heap.objs.size:=λ e=>aM (aA e)
    simp only [aG,eF,or_false] at hb
    rcases hb with h | h | h | h | h <;> rw [h]
    ·exact lt hz
    ·exact lt hs.ti
    ·exact lt VQ
    ·exact lt e1
    ·exact lt e2
 done:=by
  intro X hP hw hK hc i pins s σ H E I hf st hg
  subst hP hw hK
  obtain ⟨q1,q2,hge⟩:=hg
  obtain ⟨DQ,v1,Bc,z1⟩:=I.src q1
  obtain ⟨its2,v2,Bd,z2⟩:=I.src q2
  obtain ⟨hz,hs⟩:=st
  have e1:=v1.length
  have e2:=v2.length
  refine ZP.MA ⟨_,hz,rfl⟩ (ZP.G4 (.inl rfl) (I.ok.hd hc) D hz hs Bc Bd ?_ λ h' e hr he=>?_)
  ·rcases Nat.le_total xs.length ys.length with hle | hle
   ·refine .inl ?_
    simp only [ji]
    exact gX (by omega)
   ·refine .inr ?_
    simp only [ji]
    exact gX (by omega)
  ·obtain ⟨o,ho,hcl⟩:=he
   refine ⟨e,o,rfl,ho,hcl,rfl,?_⟩
   exact I.nR (t':=s.toks) (fp:=[z,TO,i1,i2]) (λ b o hb e=>hr b o (λ q=>hb (by simp [q])) (λ q=>hb (by simp [q])) (λ q=>hb (by simp [q])) (λ q=>hb (by simp [q])) e) λ b hb=>hf b (by
    simp only [aG,eF,or_false] at hb ⊢
    rcases hb with h | h | h | h <;> simp [h])
 self:=λ A i s Q E st q=>wpAny_pyIter_zip st.1 q
section
variable {X:Cx}{es:List Expr}{k:Nat}{tpos:Pos}
def MP(K:az)(R:It->Hp->Prop):List V->Hp->Prop:=λ vs H=>∃ t1 t2 a b xs ys,vs=[.ref a,.ref b] /\ A9 t1 K H a xs /\ A9 t2 K H b ys /\ R (QO K t1 t2 a b xs ys) H
def QS(K:az)(ta:TA):TI:=λ σ H R=>ta σ H (MP K R)
theorem yg{a b:Expr}{ta:TA}{p:Pos}(hg:Gl X "zip")(hm:X.mg "zip" = none)(ha:PA X [a,b] ta)
  (he:starEach [a,b] X.env=(false,eval a X.env) :: starEach [b] X.env:=by rfl)(hpl:(backTo pos (starEach [b] X.env)).any (·.1)=false:=by rfl):PI X (.Tuple es k tpos) (.Call (.Name "zip" p) [a,b] [] pos) (QS X.K ta):=by
 intro pins s σ H R I h
 refine wpAny_Call_Name_kw (kC I hg hm BT.QI ?_)
 refine nJ (bV (ha pos pins s σ H _ I h) λ us s1 ⟨vs,H1,I1,rv,q1⟩=>?_) he hpl
 obtain ⟨t1,t2,pa,pb,xs,ys,rfl,hx,hy,q⟩:=q1
 obtain ⟨u,u',rfl,r1,r2⟩:=vals2 rv
 cases r1; cases r2
 obtain ⟨DQ,v1,Bc,z1⟩:=I1.src hx
 obtain ⟨its2,v2,Bd,z2⟩:=I1.src hy
 obtain ⟨o1,e1⟩:=Bc.here
 obtain ⟨o2,e2⟩:=Bd.here
 refine ZP.DF Bc Bd λ h' hz st hsz hk=>?_
 have I2:Inv X pins σ H1 { s1 with heap:=h',toks:=s1.toks }:=I1.kept hk
 refine wpAny_pyIter_zip hz ⟨_,_,_,_,H1,rfl,I2,DP (zipApart_new (aA e1) (aA e2)),⟨hz,st⟩,λ b hb=>?_,q⟩
 have fr:∀ b,s1.heap.objs.size <= b->fT X pins H1 b:=λ b hb=>I1.mz hb (I1.hok.fresh hb)
 refine fr b ?_
 simp only [aG,eF,or_false] at hb
 rcases hb with h | h | h | h | h <;> rw [h]
 ·exact kq _ _
 ·exact kq _ _
 ·exact kq _ _
 ·exact ay _
 ·exact kq _ _
end
def QT(K:az)(l:Addr)(xs:List V):It :=
 ⟨λ i H=>bK K H l xs /\ i < xs.length,λ i H v H'=>∃ p x,xs[i]? = some x /\ v=.ref p /\ eB H p (.tup [.int i,x]) H',λ i H=>bK K H l xs /\ xs.length <= i⟩
theorem Be{P:Program}{e it l:Addr}(hei:e ≠ it):
  Turn P w K (.Tuple es k pos) (QT K l xs) [e,it] e (λ i h=>(∃ old,IsEnum h e it i old) /\ h.IsListIter it l i) where
 mem:=by simp
 obj:=λ i h st b hb=>by
  obtain ⟨⟨old,he⟩,o,e1,c,d⟩:=st
  simp only [aG,eF,or_false] at hb
  rcases hb with q | q <;> rw [q]
  ·exact ⟨_,he,λ v q=>by cases q⟩
  ·exact ⟨o,e1,λ v q=>by rw [d] at q; cases q⟩
 keep:=λ i h h' st kk=>⟨let ⟨old,he⟩:=st.1; ⟨old,kk e (by simp) _ he⟩,let ⟨o,e1,r⟩:=st.2; ⟨o,kk it (by simp) o e1,r⟩⟩
 item:=by
  intro X hP hw hK hc i pins s σ H E I hf st hg
  subst hP hw hK
  obtain ⟨q1,hlt⟩:=hg
  obtain ⟨DQ,v1,pl,z1⟩:=I.list q1
  have hx:xs[i]? = some (xs[i]'(by omega)):=by simp
  generalize xs[i]'(by omega)=x at hx
  obtain ⟨u,hu,ru⟩:=v1.get hx
  obtain ⟨⟨old,he⟩,hit⟩:=st
  have hT1:e ≠ s.heap.objs.size:=aM (aA he)
  have hT2:it ≠ s.heap.objs.size:=by
   obtain ⟨o,e1,_⟩:=hit
   exact aM (aA e1)
  refine wpAny_pyNext_enum_item he hit pl.isList (by simpa using hu) hei λ h' ho uM hT hsz hk=>⟨_,rfl,?_⟩
  refine wpAny_letOwnedTupleGo_enum ho λ h2 ZC hs2=>?_
  have hfr:H s.heap.objs.size=none:=I.hok.fresh (ay _)
  have I1:Inv X pins σ H { s with heap:=h2,toks:=s.toks + 1 }:=I.nR (fp:=[e,it]) (λ b o hb e1=>hs2.extBut b o (λ q=>hb (by simp [q])) (hk b o (λ q=>hb (by simp [q])) (λ q=>hb (by simp [q])) e1)) λ b hb=>hf b hb
  have I2:=I1.uC (I.mz (ay _) hfr) (o:=.tup [.int i,x]) ⟨by show 2 <= sizeLine; decide,[.int i s.toks,u],.cons ⟨_,rfl⟩ (.cons ru .nil),⟨_,hs2.extBut _ _ (aV hT1) hT,rfl,_,rfl⟩⟩
  refine ⟨.ref s.heap.objs.size,_,I2,rfl,⟨_,x,hx,rfl,hfr,rfl⟩,⟨⟨_,by simpa using ZC⟩,uM.extBut hs2.extBut (aV hei)⟩,λ b hb=>?_⟩
  rw [aR ?_]
  ·exact (hf b hb).1
  ·simp only [aG,eF,or_false] at hb
   rcases hb with h | h <;> rw [h]
   ·exact hT1
   ·exact hT2
 done:=by
  intro X hP hw hK hc i pins s σ H E I hf st hg
  subst hP hw hK
  obtain ⟨q1,hge⟩:=hg
  obtain ⟨DQ,v1,pl,z1⟩:=I.list q1
  obtain ⟨⟨old,he⟩,hit⟩:=st
  have e1:=v1.length
  refine wpAny_pyNext_enum_end (I.ok.hd hc) he hit pl.isList ?_ λ h' hx=>⟨rfl,?_⟩
  ·simp only [ji]
   exact gX (by omega)
  ·exact I.nR (t':=s.toks) (fp:=[e,it]) (λ b o hb e1=>hx b o (λ q=>hb (by simp [q])) e1) λ b hb=>hf b hb
 self:=λ A i s Q E st q=>let ⟨old,he⟩:=st.1; wpAny_pyIter_enum he q
section
variable {X:Cx}{es:List Expr}{k:Nat}{tpos:Pos}
def MQ(K:az)(R:It->Hp->Prop):List V->Hp->Prop:=λ vs H=>∃ a xs,vs=[.ref a] /\ bK K H a xs /\ R (QT K a xs) H
def J4(K:az)(ta:TA):TI:=λ σ H R=>ta σ H (MQ K R)
theorem nS{a:Expr}{ta:TA}{p:Pos}(hg:Gl X "enumerate")(hm:X.mg "enumerate" = none)(ha:PA X [a] ta)
  (he:starEach [a] X.env=(false,eval a X.env) :: starEach [] X.env:=by rfl)(hpl:(backTo pos (starEach [] X.env)).any (·.1)=false:=by rfl):PI X (.Tuple es k tpos) (.Call (.Name "enumerate" p) [a] [] pos) (J4 X.K ta):=by
 intro pins s σ H R I h
 refine wpAny_Call_Name_kw (kC I hg hm BT.uL ?_)
 refine nJ (bV (ha pos pins s σ H _ I h) λ us s1 ⟨vs,H1,I1,rv,q1⟩=>?_) he hpl
 obtain ⟨pa,xs,rfl,hx,q⟩:=q1
 obtain ⟨u,rfl,r1⟩:=vals1 rv
 cases r1
 obtain ⟨DQ,v1,pl,z1⟩:=I1.list hx
 refine call_enumerate_list pl.isList λ h' hE hI hsz hk=>?_
 have I2:Inv X pins σ H1 { s1 with heap:=h',toks:=s1.toks }:=I1.kept hk
 refine wpAny_pyIter_enum hE ⟨_,_,_,_,H1,rfl,I2,Be (Nat.succ_ne_self _),⟨⟨_,hE⟩,hI⟩,λ b hb=>?_,q⟩
 have fr:∀ b,s1.heap.objs.size <= b->fT X pins H1 b:=λ b hb=>I1.mz hb (I1.hok.fresh hb)
 refine fr b ?_
 simp only [aG,eF,or_false] at hb
 rcases hb with h | h <;> rw [h]
 ·exact kq _ _
 ·exact ay _
end
section
variable {X:Cx}
end
mutual
inductive RD (K:az) (H:Hp):V->PyData->Prop
 | bZ:RD K H .bZ .none
 | bl (b:Bool):RD K H (.bl b) (.bool b)
 | int (i:Int):RD K H (.int i) (.int i)
 | str (x:Str):RD K H (.str x) (.str x)
 | lst {a:Addr} {xs:List V} {ds:List PyData}:bK K H a xs->nT K H xs ds->RD K H (.ref a) (.list ds)
 | tup {a:Addr} {xs:List V} {ds:List PyData}:fF K H a xs->nT K H xs ds->RD K H (.ref a) (.tuple ds)
inductive nT (K:az) (H:Hp):List V->List PyData->Prop
 | nil:nT K H [] []
 | cons {x:V} {d:PyData} {xs:List V} {ds:List PyData}:RD K H x d->nT K H xs ds->nT K H (x :: xs) (d :: ds)
end
section
variable {X:Cx}{pins:List (Addr × Obj)}{σ:St}{H:Hp}{s:Shared}
mutual
theorem RD.reads(I:Inv X pins σ H s):∀ {x:V} {d:PyData} {u:Value},RD X.K H x d->RelV x u->∃ as,Reads s.heap u d as
 | _,_,_,.bZ,r=>by cases r; exact ⟨[],.none⟩
 | _,_,_,.bl b,r=>by cases r; exact ⟨[],.bool b⟩
 | _,_,_,.int i,r=>by obtain ⟨t,rfl⟩:=r; exact ⟨[],.int i t⟩
 | _,_,_,.str x,r=>by obtain ⟨t,rfl⟩:=r; exact ⟨[],.str x t⟩
 | _,_,_,.lst h rs,r=>by
  cases r
  obtain ⟨its,rv,⟨o,n,e,hc,hd,hs⟩,z⟩:=I.list h
  obtain ⟨as,q⟩:=nT.reads I rs rv
  exact ⟨_,.list e hc hs (by simpa using q)⟩
 | _,_,_,.tup h rs,r=>by
  cases r
  obtain ⟨its,rv,⟨o,e,hc,n,hs⟩,z⟩:=I.tuple h
  obtain ⟨as,q⟩:=nT.reads I rs rv
  exact ⟨_,.tuple e hc hs (by simpa using q)⟩
theorem nT.reads(I:Inv X pins σ H s):∀ {xs:List V} {ds:List PyData} {us:List Value},nT X.K H xs ds->Vals xs us->∃ as,ReadsAll s.heap us ds as
 | _,_,_,.nil,r=>by cases r; exact ⟨[],.nil⟩
 | _,_,_,.cons h rs,r=>by
  cases r with
  | cons r1 r2 =>
   obtain ⟨as,q⟩:=RD.reads I h r1
   obtain ⟨bs,q'⟩:=nT.reads I rs r2
   exact ⟨_,.cons q q'⟩
end
end
section
variable {K:az}{H H':Hp}
mutual
theorem RD.same(e:aD H H'):∀ {x:V} {d:PyData},RD K H x d->RD K H' x d
 | _,_,.bZ=>.bZ
 | _,_,.bl b=>.bl b
 | _,_,.int i=>.int i
 | _,_,.str x=>.str x
 | _,_,.lst h rs=>.lst (e.seq h) (nT.same e rs)
 | _,_,.tup h rs=>.tup (e.VO h) (nT.same e rs)
theorem nT.same(e:aD H H'):∀ {xs:List V} {ds:List PyData},nT K H xs ds->nT K H' xs ds
 | _,_,.nil=>.nil
 | _,_,.cons h rs=>.cons (RD.same e h) (nT.same e rs)
end
theorem nT.append{ds es:List PyData}(h:nT K H xs ds)(h':nT K H ys es):nT K H (xs++ys) (ds++es):=by
 induction xs generalizing ds with
 | nil=>cases h; exact h'
 | cons x xs ih=>cases h with
  | cons a b=>exact .cons a (ih b)
end
def Sh(k:Nat)(d:PyData):Prop:=d.canLay0=true /\ d.depth <= k
theorem Sh.shaped{d:PyData}(h:Sh k d)(hk:k <= 64):SeqAt.shaped d=true:=by
 unfold SeqAt.shaped
 rw [h.1,decide_eq_true (bq h.2 hk)]
 rfl
theorem Sh.mono{j k:Nat}{d:PyData}(h:Sh j d)(hk:j <= k):Sh k d:=⟨h.1,bq h.2 hk⟩
theorem Sh.int(i:Int):Sh k (.int i):=⟨rfl,aO _⟩
theorem Sh.bool(i:Bool):Sh k (.bool i):=⟨rfl,aO _⟩
theorem Sh.bZ:Sh k .none:=⟨rfl,aO _⟩
theorem Sh.str{x:Str}(h:PyData.strOk x=true):Sh k (.str x):=⟨h,aO _⟩
theorem Sh.all:∀ {ds:List PyData},(∀ d∈ds,Sh k d)->PyData.canLayAll0 ds=true /\ PyData.depthAll ds <= k
 | [],_=>⟨rfl,aO _⟩
 | d :: ds,h=>by
  have h1:=h d (by simp)
  have h2:=Sh.all (ds:=ds) λ e he=>h e (cX _ he)
  refine ⟨?_,?_⟩
  ·show (PyData.canLay0 d && PyData.canLayAll0 ds)=true
   rw [h1.1,h2.1]; rfl
  ·show max (PyData.depth d) (PyData.depthAll ds) <= k
   exact Nat.max_le.mpr ⟨h1.2,h2.2⟩
theorem Sh.list{ds:List PyData}(h:∀ d∈ds,Sh k d):Sh (k + 1) (.list ds):=⟨(Sh.all h).1,Nat.succ_le_succ (Sh.all h).2⟩
theorem Sh.tup{k:Nat}{ds:List PyData}(h:∀ d∈ds,Sh k d):Sh (k + 1) (.tuple ds):=⟨(Sh.all h).1,Nat.succ_le_succ (Sh.all h).2⟩
def Hf(K:az):R2:=λ x y H Q=>∃ d e,RD K H x d /\ RD K H y e /\ SeqAt.shaped d=true /\ SeqAt.shaped e=true /\ Q (.bl (PyData.eqv d e)) H
section
variable {X:Cx}
theorem DR(hu:X.A.units + 64 < cLine):jf X (compareOp .Eq) (Hf X.K):=by
 intro pins s σ H x y v u Q I rx ry h
 obtain ⟨d,e,hd,he,sd,se,q⟩:=h
 obtain ⟨as,ra⟩:=hd.reads I rx
 obtain ⟨bs,rb⟩:=he.reads I ry
 exact eq_dataH ra rb sd se hu ⟨.bl _,H,I,rfl,q⟩
end
section
variable {K:az}{nx bk ct:St->Hp->Prop}{rt:VK}{σ:St}{H:Hp}{Q:VK}{P:Bool->Hp->Prop}{ta tb tc te:TE}{t u:TS}
theorem QU{lo hi:Option Int}(hS:fF K H a xs)(hw:¬ (HT.dP xs.length 0 lo=0 /\ HT.dP xs.length xs.length hi=xs.length))(h:∀ p H',eB H p (.tup (jv xs lo hi)) H'->Q (.ref p) H'):PM K (.ref a) lo hi H Q:=⟨a,xs,rfl,hS,hw,λ p hp=>h p _ ⟨hp,rfl⟩⟩
theorem MR{tl:TA}(h:tl σ H (MP K R)):QS K tl σ H R:=h
theorem zL(hx:A9 t1 K H a xs)(hy:A9 t2 K H b ys)(h:R (QO K t1 t2 a b xs ys) H):MP K R [.ref a,.ref b] H:=⟨t1,t2,a,b,xs,ys,rfl,hx,hy,h⟩
theorem Hg{tl:TA}(h:tl σ H (MQ K R)):J4 K tl σ H R:=h
theorem QV(hS:bK K H a xs)(h:R (QT K a xs) H):MQ K R [.ref a] H:=⟨a,xs,rfl,hS,h⟩
theorem yh{tb:TS}(Pv:Nat->St->Hp->Prop)(h0:Pv 0 σ H)(hl:∀ i σ H,i <= xs.length->Pv i σ H->bK K H a xs)
  (hs:∀ i x p σ H H',xs[i]? = some x->Pv i σ H->eB H p (.tup [.int i,x]) H'->g (.ref p) σ H' λ σ2 H2=>tb ⟨Pv (i + 1),rt,nx,Pv (i + 1)⟩ σ2 H2)(hd:∀ σ H,Pv xs.length σ H->nx σ H):Mh (QT K a xs) g tb nx rt σ H:=by
 refine ⟨λ i m σ H=>m=xs.length - i /\ i <= xs.length /\ Pv i σ H,⟨xs.length,by simp,aO _,h0⟩,?_⟩
 rintro i m σ H ⟨rfl,hi,p⟩
 have q:=hl i σ H hi p
 by_cases hlt:i < xs.length
 ·refine .inr ⟨⟨q,hlt⟩,Pv (i + 1),λ σ' H' p'=>⟨xs.length - (i + 1),by omega,rfl,hlt,p'⟩,λ x H' y=>?_⟩
  obtain ⟨pa,x',hx,rfl,n⟩:=y
  exact hs i x' pa σ H H' hx p n
 ·have e:i=xs.length:=by omega
  subst e
  exact .inl ⟨⟨q,ay _⟩,hd σ H p⟩
theorem QW{tb:TS}(Pv:Nat->St->Hp->Prop)(h0:Pv 0 σ H)(hl:∀ i σ H,i <= min xs.length ys.length->Pv i σ H->A9 t1 K H a xs /\ A9 t2 K H b ys)
  (hs:∀ i x y p σ H H',xs[i]? = some x->ys[i]? = some y->Pv i σ H->eB H p (.tup [x,y]) H'->g (.ref p) σ H' λ σ2 H2=>tb ⟨Pv (i + 1),rt,nx,Pv (i + 1)⟩ σ2 H2)(hd:∀ σ H,Pv (min xs.length ys.length) σ H->nx σ H):Mh (QO K t1 t2 a b xs ys) g tb nx rt σ H:=by
 refine ⟨λ i m σ H=>m=min xs.length ys.length - i /\ i <= min xs.length ys.length /\ Pv i σ H,⟨min xs.length ys.length,by simp,aO _,h0⟩,?_⟩
 rintro i m σ H ⟨rfl,hi,p⟩
 have q:=hl i σ H hi p
 by_cases hlt:i < min xs.length ys.length
 ·refine .inr ⟨⟨q.1,q.2,hlt⟩,Pv (i + 1),λ σ' H' p'=>⟨min xs.length ys.length - (i + 1),by omega,rfl,hlt,p'⟩,λ x H' y=>?_⟩
  obtain ⟨pa,x',y',hx,hy,rfl,n⟩:=y
  exact hs i x' y' pa σ H H' hx hy p n
 ·have e:i=min xs.length ys.length:=by omega
  rw [e] at p
  exact .inl ⟨⟨q.1,q.2,by omega⟩,hd σ H p⟩
def DS(J:It)(g:TG)(tt:TT)(te:TE)(τ0:St)(Q:VK)(H:Hp):Prop:=∃ W:Nat->Nat->List V->St->Hp->Prop,(∃ m,W 0 m [] τ0 H) /\ ∀ i m ys τ H,W i m ys τ H ->
 (J.stop i H /\ ∀ p,H p=none->Q (.ref p) (upd H p (.lst ys))) \/ (J.go i H /\ ys.length < sizeLine /\ ∃ N:List V->St->Hp->Prop,(∀ ys' τ' H',N ys' τ' H'->∃ m',m' < m /\ W (i + 1) m' ys' τ' H') /\
  ∀ v H',J.CD i H v H'->g v τ H' λ τ2 H2=>tt τ2 H2 λ b H3=>if b=true then te τ2 H3 λ y H4=>N (ys++[y]) τ2 H4 else N ys τ2 H3)
theorem Hh{wi:TI}{ix:List Nat}(h:wi σ H λ J H1=>DS J g tt te (List.replicate k none++cut ix σ) Q H1):yf wi g tt te ix k σ H Q:=h
theorem DT{τ0:St}(Pv:Nat->List V->St->Hp->Prop)(h0:Pv 0 [] τ0 H)(hl:∀ i zs τ H,i <= min xs.length ys.length->Pv i zs τ H->A9 t1 K H a xs /\ A9 t2 K H b ys /\ zs.length <= i)(hz:xs.length <= 1000000)
  (hs:∀ i x y p zs τ H H',xs[i]? = some x->ys[i]? = some y->Pv i zs τ H->eB H p (.tup [x,y]) H'->g (.ref p) τ H' λ τ2 H2=>tt τ2 H2 λ b H3=>if b=true then te τ2 H3 λ y H4=>Pv (i + 1) (zs++[y]) τ2 H4 else Pv (i + 1) zs τ2 H3)
  (hd:∀ zs τ H,Pv (min xs.length ys.length) zs τ H->∀ p H',eB H p (.lst zs) H'->Q (.ref p) H'):DS (QO K t1 t2 a b xs ys) g tt te τ0 Q H:=by
 refine ⟨λ i m zs τ H=>m=min xs.length ys.length - i /\ i <= min xs.length ys.length /\ Pv i zs τ H,⟨min xs.length ys.length,by simp,aO _,h0⟩,?_⟩
 rintro i m zs τ H ⟨rfl,hi,p⟩
 obtain ⟨q1,q2,q3⟩:=hl i zs τ H hi p
 by_cases hlt:i < min xs.length ys.length
 ·refine .inr ⟨⟨q1,q2,hlt⟩,bz (show zs.length < 1000001 by omega) (by decide),Pv (i + 1),λ zs' τ' H' p'=>⟨min xs.length ys.length - (i + 1),by omega,rfl,hlt,p'⟩,λ x H' y=>?_⟩
  obtain ⟨pa,x',y',hx,hy,rfl,n⟩:=y
  exact hs i x' y' pa zs τ H H' hx hy p n
 ·have e:i=min xs.length ys.length:=by omega
  rw [e] at p
  exact .inl ⟨⟨q1,q2,by omega⟩,λ r hr=>hd zs τ H p r _ ⟨hr,rfl⟩⟩
theorem Hi{τ0:St}(Pv:Nat->List V->St->Hp->Prop)(h0:Pv 0 [] τ0 H)(hl:∀ i zs τ H,i <= xs.length->Pv i zs τ H->bK K H a xs /\ zs.length <= i)(hz:xs.length <= 1000000)
  (hs:∀ i x p zs τ H H',xs[i]? = some x->Pv i zs τ H->eB H p (.tup [.int i,x]) H'->g (.ref p) τ H' λ τ2 H2=>tt τ2 H2 λ b H3=>if b=true then te τ2 H3 λ y H4=>Pv (i + 1) (zs++[y]) τ2 H4 else Pv (i + 1) zs τ2 H3)
  (hd:∀ zs τ H,Pv xs.length zs τ H->∀ p H',eB H p (.lst zs) H'->Q (.ref p) H'):DS (QT K a xs) g tt te τ0 Q H:=by
 refine ⟨λ i m zs τ H=>m=xs.length - i /\ i <= xs.length /\ Pv i zs τ H,⟨xs.length,by simp,aO _,h0⟩,?_⟩
 rintro i m zs τ H ⟨rfl,hi,p⟩
 obtain ⟨q1,q3⟩:=hl i zs τ H hi p
 by_cases hlt:i < xs.length
 ·refine .inr ⟨⟨q1,hlt⟩,bz (show zs.length < 1000001 by omega) (by decide),Pv (i + 1),λ zs' τ' H' p'=>⟨xs.length - (i + 1),by omega,rfl,hlt,p'⟩,λ x H' y=>?_⟩
  obtain ⟨pa,x',hx,rfl,n⟩:=y
  exact hs i x' pa zs τ H H' hx p n
 ·have e:i=xs.length:=by omega
  rw [e] at p
  exact .inl ⟨⟨q1,by omega⟩,λ r hr=>hd zs τ H p r _ ⟨hr,rfl⟩⟩
end
def uN(w:World)(K:az)(a:Addr)(kvs:List (Key × V)):Prop:=(a == sysModules)=false /\ ∀ (P:Program) (h:Heap),K.In h->∃ vs,KV kvs vs /\ h.DictOf (bI P w) a vs
def entriesOf(w:World):List (Str × Tok × Value)->List DictEntry
 | []=>[]
 | (k,t,v) :: r=>{ hash:=PyData.keyHash w.params k,key:=.str k t,val:=v } :: entriesOf w r
theorem iN{P:Program}{w:World}:∀ (es:List (Str × Tok × Value)),(∀ e∈entriesOf w es,∃ k,(bI P w).is k e.key=true /\ e.hash=(bI P w).hash k) /\ Pairs (bI P w) (entriesOf w es) (es.map λ e=>(Sum.inr e.1,e.2.2))
 | []=>by
  refine ⟨λ e h=>?_,?_⟩
  ·simp [entriesOf] at h
  ·exact Pairs.nil
 | (k,t,v) :: r=>by
  obtain ⟨h1,h2⟩:=iN (P:=P) (w:=w) r
  refine ⟨λ e he=>?_,.cons (jm P w k t) rfl h2⟩
  rcases aG.mp he with q | q
  ·subst q
   exact ⟨.inr k,jm P w k t,rfl⟩
  ·exact h1 e q
theorem uN.mk'{es:List (Str × Tok × Value)}{kvs:List (Key × V)}(l:K.lookup a=some ⟨.type "dict", none,.dict (entriesOf w es).toArray n,#[]⟩)(hd:(a == sysModules)=false)(nd:(es.map (·.1)).Nodup)
  (hv:KV kvs (es.map λ e=>((Sum.inr e.1:Key),e.2.2))):uN w K a kvs:=by
 refine ⟨hd,λ P h Ld=>⟨_,hv,_,_,_,Ld a _ l,⟨rfl,rfl,rfl⟩,rfl,?_,?_,?_⟩⟩
 ·intro e he
  exact (iN es).1 e (by simpa using he)
 ·simpa using (iN (P:=P) (w:=w) es).2
 ·have q:((es.map λ e=>((Sum.inr e.1:Key),e.2.2)).map (·.1))=(es.map (·.1)).map (λ x=>(Sum.inr x:Key)):=by simp [eV,Function.comp_def]
  rw [q]
  exact ko.mpr (List.Pairwise.imp (λ h e=>h (Sum.inr.inj e)) nd)
section
variable {X:Cx}{o i e f:Expr}{pos apos cpos:Pos}{td ty tx:TE}{a:Addr}{kvs:List (Key × V)}
def DU(a:Addr)(kvs:List (Key × V))(td ty:TE):TE:=λ σ H Q=>td σ H λ x H1=>ty σ H1 λ y H2=>∃ k v,x=.ref a /\ y=kV k /\ iw kvs k=some v /\ Q v H2
theorem uO(C:uN X.w X.K a kvs)(ho:PE X o td)(hi:PE X i ty)(hs:GL i):PE X (.Subscript o i pos) (DU a kvs td ty):=by
 intro pins s σ H Q I h
 refine zD PySem.F.slot_dict_getitem.lookup hs (bV (ho pins s σ H _ I h) λ u s1 ⟨x,H1,I1,rx,q1⟩=>bV (hi pins s1 σ H1 _ I1 q1) λ iv s2 ⟨y,H2,I2,ry,k,v,ex,ey,l,q2⟩=>?_)
 subst ex ey
 obtain rfl:u=Value.ref a:=rx
 obtain ⟨vs,rel,dd⟩:=C.2 X.prog s2.heap I2.jc
 obtain ⟨w',hw,rw'⟩:=iK.some_of (v:=v) (o:=valueAt vs k) (by rw [<- l]; exact rel.val k)
 exact ⟨dd.typeIs,wpAny_getItem_of (uz ry) dd.mapOf hw ⟨v,H2,I2.tok _,rw',q2⟩⟩
end
section
variable {nx bk ct:St->Hp->Prop}{rt:VK}{σ:St}{H:Hp}{Q:VK}{td ty tx:TE}{a:Addr}{kvs:List (Key × V)}
def Yk(a:Addr)(kvs:List (Key × V)):R2:=λ x y H Q=>∃ k v,x=.ref a /\ y=kV k /\ iw kvs k=some v /\ Q v H
theorem Hj(h:td σ H λ x H1=>ty σ H1 λ y H2=>Yk a kvs x y H2 Q):DU a kvs td ty σ H Q:=h
theorem MS{x:Str}{v:V}(hv:iw kvs (.inr x)=some v)(h:Q v H):Yk a kvs (.ref a) (.str x) H Q:=⟨.inr x,v,rfl,rfl,hv,h⟩
end
def e8(K:az)(a:Addr)(xs:List V):Prop:=∀ H:Hp,fF K H a xs
theorem e8.sq{H:Hp}(c:e8 K a xs):fF K H a xs:=c H
theorem e8.mk'{od:Option Addr}{its:Array Value}{sl:Array (Option Value)}(l:K.lookup a=some ⟨.type "tuple", od,.seq its n,sl⟩)(r:Vals xs its.toList)(hz:its.size <= 1000):e8 K a xs :=
 λ _=>.inr ⟨_,its,n,l,rfl,rfl,bq hz (by decide),r⟩
section
variable {X:Cx}{K:az}
theorem jy(e:X.K=K):Gi X (LI K):=e ▸ gI
theorem sV(e:X.K=K):Gi X (LJ K):=e ▸ d8
theorem pH(e:X.K=K):cG X (.builtin "len") (Mf K):=e ▸ cM
theorem MT(e:X.K=K):cG X (.builtin "isinstance") (Mg K):=e ▸ mJ
theorem Hl(e:X.K=K)(hu:X.A.units + 64 < cLine):jf X (compareOp .Eq) (Hf K):=e ▸ DR hu
theorem sW{t:AU}(e:X.K=K)(hc:X.calm=true)(h:OR X es t)
  (hn:(assignEach es X.env).length=n:=by rfl)(hst:(assignEach es X.env).findIdx? (·.1)=none:=by rfl):PG X (.Tuple es k pos) (Lk K n t):=e ▸ o9 hc h hn hst
end
theorem DV{α:Type}(x:α)(xs:List α):qF (x :: xs) 0=some x:=fq (j:=0) rfl
theorem MU{ta:TE}{σ:St}{H:Hp}{Q:VK}(h:ta σ H (qI λ b H1=>Q (.bl (!b)) H1)):JA ta σ H Q:=h
end L2
theorem BT.QX:PySem.bootBuiltins "min" = some (.builtin "min"):=by decide +kernel
theorem BT.J5:PySem.bootBuiltins "max" = some (.builtin "max"):=by decide +kernel
namespace L2
open PySem PySem.Spec PyProof.Rows
section
variable {X:Cx}{K:az}{nx bk ct:St->Hp->Prop}{rt:VK}{σ:St}{H:Hp}{Q:VK}{P:Bool->Hp->Prop}{ta tb tc te td ty tx tv:TE}{t u:TS}{a:Addr}{kvs:List (Key × V)}
def QY:R2:=λ y x H Q=>∃ a o,x=.ref a /\ xX H a y o /\ Q (.bl (!o.isSome)) H
theorem MV(h:ty σ H λ y H1=>td σ H1 λ x H2=>QY y x H2 Q):zE ty td σ H Q:=h
def VR(v x y:V)(H3:Hp)(R:Hp->Prop):Prop:=∃ a H4,x=.ref a /\ uA H3 a y v H4 /\ R H4
theorem MW(h:tv σ H λ v H1=>td σ H1 λ x H2=>ty σ H2 λ y H3=>VR v x y H3 λ H4=>nx σ H4):JR td ty tv ⟨nx,rt,bk,ct⟩ σ H:=h
theorem QZ{i:Int}{v:V}{R:Hp->Prop}(hd:H a=some (.dK kvs))(hz:kvs.length < 1000000)(h:∀ H',lX H a (.dK (putK kvs (.inl i) v)) H'->R H'):VR v (.ref a) (.int i) H R:=⟨a,_,rfl,.inl ⟨kvs,.inl i,hd,rfl,bz hz (by decide),rfl⟩,h _ rfl⟩
theorem MY(h:∀ p H',eB H p (.dK []) H'->Q (.ref p) H'):Dh σ H Q:=λ p hp=>h p _ ⟨hp,rfl⟩
def J6:List V->Hp->VK->Prop:=λ xs H Q=>∃ i j,xs=[.int i,.int j] /\ Q (.int (if j < i then j else i)) H
theorem yi(hc:X.calm=true):cG X (.builtin "min") J6:=AX hc
theorem MZ{i j:Int}(h:Q (.int (if j < i then j else i)) H):J6 [.int i,.int j] H Q:=⟨i,j,rfl,h⟩
theorem uP{i:Nat}{y:Str}{py spos:Pos}{elt iter tg:Expr}{xs:List Str}{g:TG}{ifs:List Expr}{scope:Scope}{cl:List (Str × Addr)}{pos:Pos}{fr:List Str}{ix:List Nat}{wi:TI}{tt:TT}{te:TE}(hN:X.N.Nodup)(Vn:X.N[i]? = some y)(hy:Loc X.env.scope y)
  (O:gM X scope cl xs fr ix)(hi:PI X tg iter wi)(hg:∀ C fp s H,PG (j6 X (xs++fr) scope cl C fp s H) tg g)
  (ht:∀ C fp s H,PF (j6 X (xs++fr) scope cl C fp s H) ifs tt)(he:∀ C fp s H,PE (j6 X (xs++fr) scope cl C fp s H) elt te)
  (hsw:swapsWith (.ListComp elt [⟨tg,iter,ifs,0⟩] scope pos) (some (.Name y py)) spos.line X.env=pure true:=by rfl)
  (hs:∀ v,foldedSetIterable iter X.env v=pure v:=by intro _; rfl)(hf:X.fn y=true \/ X.env.scope.names.lookup y=some .local:=by first | exact .inl rfl | exact .inr rfl | assumption):
  PS X (.Assign [.Name y py] (.ListComp elt [⟨tg,iter,ifs,0⟩] scope pos) spos) (Dt (yf wi g tt te ix xs.length) i):=by
 intro pins s σ H D I h
 rw [exec_Assign_Name_used _ _ _ _ hsw]
 refine af (wpAny_standAt (af ?_))
 show wpAny _ X.A (do let _ <- comprehension (.ListComp elt [⟨tg,iter,ifs,0⟩] scope pos) scope X.env _ (newList []) false (eval iter X.env) (some (assign (.Name y py) X.env))) _ _ s
 refine af (wpAny_mono (wpAny_comprehension_free (use:=some (assign (.Name y py) X.env)) (Q:=λ _ s'=>SP X pins D .next s') rfl hs O.clos O.kind O.names
  (bV (hi pins s σ H _ I h) λ v s1 h1=>bV h1 λ itv s2 h2=>?_)) (λ _ s' hq=>aE (aE hq)) λ _ _ e=>e)
 obtain ⟨it,fp,tn,J,H2,e,I2,T,st2,f2,W,⟨m0,w0⟩,turn⟩:=h2
 subst e
 refine nh O hg ht he I2 T st2 f2 (λ ys H=>∀ p,H p=none->D.nx (σ.set i (some (.ref p))) (upd H p (.lst ys))) W m0 w0 turn λ L C s' ys H' I' hm fC hD z=>?_
 obtain ⟨m,hm⟩:=hm
 show wpAny _ X.A (assign (.Name y py) X.env (.ref L)) _ _ _
 refine wpAny_assign_Name (mh I' hN Vn hy (v:=.ref L) rfl (λ s'' Vo LW=>?_) hf)
 obtain ⟨a,LW,ha⟩:=LW
 have Vp:C ≠ a:=by
  rcases ha with z | z
  ·rw [z]; exact fC.2.1
  ·exact aV (fC.2.2.2.2.1 _ _ z)
 refine ⟨m,hm.sameBut LW Vp,λ h' hs'=>?_⟩
 exact ⟨_,_,Vo.turned (t':=s''.toks) (it:=C) (λ b o hb e=>hs'.extBut b o hb e) fC.1 fC.2.1 fC.2.2.2.1 fC.2.2.2.2.1 fC.2.2.2.2.2,z L hD⟩
end
section
variable {K:az}{H:Hp}{Q:VK}{te:TE}
end
structure Q0 (K:az) (x qual:Str) (st:Stmt) (f:Addr) (fd:FuncData) (dV:Value):Prop where
 ex:∃ (oc:Value) (od:Option Addr) (kV doc pm:Value) (an:Option Addr) (cdv ct:Value) (osl:Array (Option Value)),
  fd=PySem.W.fnOf x qual (fU st) (dQ st) (aB st) dV kV doc pm an cdv ct /\ K.lookup f=some ⟨oc,od,.func fd,osl⟩ /\ PySem.W.codeIn K cdv qual=true
 kp:PySem.W.keepIn K (.ref f)=true
section
variable {P:Program}{w:World}{K:az}{mg:Str->Option Value}{base:Heap}
theorem Q0.ok{x qual:Str}{st:Stmt}{f:Addr}{fd:FuncData}{dV:Value}{N ps:List Str}{k:Nat}{sp:Sp}(F:Q0 K x qual st f fd dV)(S:aP N ps (aB st))(len:∀ vs H Q E,sp vs H Q E->vs.length=ps.length)
  (hbody:∀ (cdv:Value) (A:Around) (outer:List Env) (s:Shared) (H:Hp) (vs:List V) (Q:VK) (E:XK),ef k (A.deeper (envOfC qual (aB st) s.heap.objs.size f cdv))->sp vs H Q E ->
   ∃ t,nE (nF gJ P w K mg base N qual (aB st) f cdv A outer s H E).AS (dQ st) t /\ t { nx:=λ _ H'=>Q .bZ H',rt:=Q } (start N vs) H):bN P w K mg base gJ (k + 1) f fd ps sp:=by
 obtain ⟨oc,od,kV,doc,pm,an,cdv,ct,osl,rfl,lk,hcd⟩:=F.ex
 refine C4 lk hcd S len λ A outer s H vs Q E hr zu=>?_
 obtain ⟨t,h,q⟩:=hbody cdv A outer s H vs Q E hr zu
 exact ⟨t,h.AS,q⟩
end
section
variable {X:Cx}{K:az}{nx bk ct:St->Hp->Prop}{rt:VK}{σ:St}{H:Hp}{Q:VK}{P:Bool->Hp->Prop}{ta tb tc te td ty tx tv:TE}{t u:TS}{a:Addr}
end
end L2
namespace ZP
open PySem PySem.Spec PyProof.Rows
section
variable {prog:Program}{w:World}{A:Around}{E:Value->Shared->Prop}{s:Shared}
end
end ZP
theorem F.dR:PySem.entryFor PySem.table "dict.update.loop" = some PySem.Builtin.«dict.update.loop»:=PySem.entryFor_of_tree (by kernel_rfl)
theorem F.bL:PySem.plainId "dict.update.loop" = true:=by decide +kernel
namespace L2
open PySem PySem.Spec PyProof.Rows
def kD(ks:Nat->Key)(vs:Nat->V):Nat->List (Key × V)
 | 0=>[]
 | i + 1=>putK (kD ks vs i) (ks i) (vs i)
theorem pI(ks:Nat->Key)(vs:Nat->V):∀ i,(kD ks vs i).length <= i
 | 0=>ay _
 | i + 1=>by
  have h1:=jx (kD ks vs i) (ks i) (vs i)
  have h2:=pI ks vs i
  show (putK (kD ks vs i) (ks i) (vs i)).length <= i + 1
  omega
structure zM (prog:Program) (w:World) (z d:Addr) (tn:String) (fp:List Addr) (n:Nat) (ks:Nat->Key) (vs:Nat->V) (St:Nat->Heap->Prop):Prop where
 ty:∀ i (s:Shared),St i s.heap->s.TypeIs (.ref z) tn
 nd:(Value.type tn != Value.type "dict")=true
 self:∀ (A:Around) (s:Shared) (Q:Value->Shared->Prop) (E:Value->Shared->Prop),St 0 s.heap->Q (.ref z) s->wpAny (model prog w) A (pyIter (.ref z)) Q E s
 nk:∀ (A:Around) i (s:Shared) (Q:Option Value->Shared->Prop) (E:Value->Shared->Prop),A.handled=none->St i s.heap->(∀ h' tk,(∀ b o,s.heap.get? b=some o->h'.get? b=some o)->Q none { s with heap:=h',toks:=tk })->wpAny (model prog w) A (getAttr? (.ref z) "keys") Q E s
 frame:∀ i h h',St i h->(∀ b o,b ≠ d->h.get? b=some o->h'.get? b=some o)->St i h'
 item:∀ (A:Around) i (s:Shared) (Q:Option Value->Shared->Prop) (E:Value->Shared->Prop),A.handled=none->i < n->St i s.heap ->
  (∀ h' tk u v,RelV (kV (ks i)) u->RelV (vs i) v->(s.heap.objs.size ≠ d->St (i + 1) h')->h'.get? s.heap.objs.size=some { cls:=.type "tuple", data:=.seq #[u,v] } -> (∀ b o,b ∉ fp->s.heap.get? b=some o->h'.get? b=some o) ->
   Q (some (.ref s.heap.objs.size)) { s with heap:=h',toks:=tk })->wpAny (model prog w) A (pyNext (.ref z)) Q E s
 done:∀ (A:Around) (s:Shared) (Q:Option Value->Shared->Prop) (E:Value->Shared->Prop),A.handled=none->St n s.heap->(∀ h',(∀ b o,b ∉ fp->s.heap.get? b=some o->h'.get? b=some o)->Q none { s with heap:=h' })->wpAny (model prog w) A (pyNext (.ref z)) Q E s
section
variable {prog:Program}{w:World}{A:Around}{z d:Addr}{tn:String}{fp:List Addr}{n:Nat}{ks:Nat->Key}{vs:Nat->V}{St:Nat->Heap->Prop}
theorem zM.loop{R:Result->Shared->Prop}{s0:Shared}(O:zM prog w z d tn fp n ks vs St)(hd:d ∉ fp)(hh:A.in1.handled=none)(hn:n <= sizeLine)
  (hR:∀ h' tk rs,(∀ b o,b ∉ fp->b ≠ d->s0.heap.get? b=some o->h'.get? b=some o)->h'.DictOf (bI prog w) d rs->KV (kD ks vs n) rs->R (.ok (.ret .none)) { s0 with heap:=h',toks:=tk }):
  ∀ (k i:Nat) (h:Heap) (t:Nat) (rs:List (Key × Value)) (c:Tok),n - i=k->i <= n->(∀ b o,b ∉ fp->b ≠ d->s0.heap.get? b=some o->h.get? b=some o)->St i h->h.DictOf (bI prog w) d rs->KV (kD ks vs i) rs ->
   codeAny (model prog w) A (.builtin "dict.update.loop" ⟨[.ref d,.ref z,.int i c,.none],[]⟩) R { s0 with heap:=h,toks:=t }:=by
 intro k
 induction k with
 | zero =>
  intro i h t rs c hk hi kp st dd rel
  have e:i=n:=by omega
  subst e
  refine codeAny_builtin F.dR ?_
  rw [f7 F.bL _]
  show wpAny _ A.in1 (pyNext (.ref z) >>= _) _ _ _
  refine af (O.done _ { s0 with heap:=h,toks:=t } _ _ hh st λ h' k'=>?_)
  show wpAny _ A.in1 (Builtin.Dict.addKeywords d [] >>= _) _ _ _
  refine af (aE (aE ?_))
  exact hR h' t rs (λ b o b1 b2 q=>k' b o b1 (kp b o b1 b2 q)) (let ⟨o,es,ep,q,r⟩:=dd; ⟨o,es,ep,k' d o hd q,r⟩) rel
 | succ k ih =>
  intro i h t rs c hk hi kp st dd rel
  have hlt:i < n:=by omega
  refine codeAny_builtin F.dR ?_
  rw [f7 F.bL _]
  show wpAny _ A.in1 (pyNext (.ref z) >>= _) _ _ _
  refine af (O.item _ i { s0 with heap:=h,toks:=t } _ _ hh hlt st λ h1 t1 u v ru rv st1 ht k1=>?_)
  have hT:d ≠ h.objs.size:=by
   obtain ⟨o,_,_,q,_⟩:=dd
   exact aM (aA q)
  have d1:h1.DictOf (bI prog w) d rs:=let ⟨o,es,ep,q,r⟩:=dd; ⟨o,es,ep,k1 d o hd q,r⟩
  have VS:({ s0 with heap:=h1,toks:=t1 }:Shared).TypeIs (.ref h.objs.size) "tuple" := ⟨_,ht,rfl⟩
  show wpAny _ A.in1 (holding [Value.ref h.objs.size] _ >>= _) _ _ _
  refine af (wpAny_holding ?_)
  refine af (wpAny_tryCatch ?_)
  unfold Builtin.Dict.pairItems
  refine af (wpAny_typeOf VS ?_)
  show wpAny _ _ (seqItems? (.ref h.objs.size) >>= _) _ _ _
  refine af (wpAny_seqItems ht rfl (aE ?_))
  show wpAny _ _ (holding [u,v] (dictSet d u v)) _ _ _
  refine wpAny_holding (wpAny_dictSet_pairs (hsz:=?_) (uz ru) d1 λ h2 d2 sb=>?_)
  ·refine aE ⟨plainId_quiet F.bL _,?_⟩
   refine ih (i + 1) h2 _ (stored rs (ks i) v) 0 (by omega) hlt (λ b o b1 b2 q=>?_) (O.frame _ _ _ (st1 (aV hT)) λ b o b1 q=>sb.extBut b o b1 q) d2 (rel.put (ks i) rv)
   exact sb.extBut b o b2 (k1 b o b1 (kp b o b1 b2 q))
  ·rw [<- rel.length]
   exact bq (pI ks vs i) (bq (g7 hlt) hn)
end
section
variable {prog:Program}{w:World}{A:Around}{E:Value->Shared->Prop}{s:Shared}{z:Addr}{tn:String}{fp:List Addr}{n:Nat}{ks:Nat->Key}{vs:Nat->V}{St:Nat->Heap->Prop}
theorem zM.call{Q:Value->Shared->Prop}(O:zM prog w z s.heap.objs.size tn fp n ks vs St)(hfp:∀ b∈fp,b < s.heap.objs.size)(hh:A.in1.in1.handled=none)(hn:n <= sizeLine)(st:St 0 s.heap)
  (q:∀ h' tk rs,(∀ b o,b ∉ fp->s.heap.get? b=some o->h'.get? b=some o)->h'.DictOf (bI prog w) s.heap.objs.size rs->KV (kD ks vs n) rs->Q (.ref s.heap.objs.size) { s with heap:=h',toks:=tk }):
  wpAny (model prog w) A (call (.type "dict") [.ref z]) Q E s:=by
 refine callType_codes (Q₁:=λ x s1=>x=.ref s.heap.objs.size /\ s1={ s with heap:=s.heap.push { cls:=.type "dict", data:=.dict #[] } }) F.kt_called_dict (F.kt_typeCall_dict_1 _) F.entry_dict_init (kt_code_dict_new _ ⟨rfl,rfl⟩) ?_
 rintro _ _ ⟨rfl,rfl⟩
 have dd:(s.heap.push { cls:=.type "dict", data:=.dict #[] }).DictOf (bI prog w) s.heap.objs.size []:=Heap.DictOf.new s.heap
 have hd:s.heap.objs.size ∉ fp:=λ h=>cY _ (hfp _ h)
 have st1:St 0 (s.heap.push { cls:=.type "dict", data:=.dict #[] }):=O.frame _ _ _ st λ b o _ e=>bO _ e
 refine ⟨dd.typeIs,F.args_dict_init_2 _ _,?_⟩
 unfold Builtin.«dict.__init__»
 refine af ?_
 unfold Builtin.Dict.selfAndRest
 refine af (wpAny_notOrdered_dict dd.typeIs ?_)
 refine aE (a:=(s.heap.objs.size,[Value.ref z])) ?_
 show wpAny _ _ (Builtin.Dict.updateFrom "dict.__init__" s.heap.objs.size (.ref z) [] .none) _ _ _
 unfold Builtin.Dict.updateFrom
 refine af (wpAny_typeOf (O.ty 0 _ st1) ?_)
 rw [if_pos O.nd]
 refine af (O.nk _ 0 _ _ _ hh st1 λ h1 t1 k1=>?_)
 show wpAny _ _ (rule _ >>= _) _ _ _
 refine af (wpAny_rule ?_)
 have st2:St 0 h1:=O.frame _ _ _ st1 λ b o _ e=>k1 b o e
 refine af (O.self _ _ _ _ st2 ?_)
 refine aE ⟨plainId_quiet F.bL _,?_⟩
 have hsz:∀ b o,s.heap.get? b=some o->b ≠ s.heap.objs.size:=λ b o e=>aM (aA e)
 refine O.loop (s0:={ s with heap:=h1,toks:=t1 }) hd hh hn (λ h' tk rs k' d' rel=>?_) _ 0 h1 t1 [] 0 rfl (aO _) (λ b o _ _ e=>e) st2 (let ⟨o,es,ep,x,r⟩:=dd; ⟨o,es,ep,k1 _ _ x,r⟩) .nil
 exact ⟨rfl,q h' tk rs (λ b o b1 e=>k' b o b1 (hsz b o e) (k1 b o (bO _ e))) d' rel⟩
end
end L2
namespace ZP
open PySem PySem.Spec PyProof.Rows
end ZP
namespace L2
open PySem PySem.Spec PyProof.Rows
section
variable {X:Cx}
variable {K:az}{σ:St}{H:Hp}{Q:VK}{a b:Addr}
end
section
variable {X:Cx}{K:az}{nx bk ct:St->Hp->Prop}{rt:VK}{σ:St}{H:Hp}{Q:VK}{P:Bool->Hp->Prop}{ta tb tc te td ty tx tv:TE}{t u:TS}{a:Addr}
theorem Q2{i:Nat}{ti:Pj}{x:V}(e:σ[i]? = some (some x))(h:te σ H λ y H1=>ti x y H1 λ z H2=>fG i z σ H2 nx):Po i te ti ⟨nx,rt,bk,ct⟩ σ H:=⟨x,e,h⟩
theorem Q3{f:Int->Int->Int}{i j:Int}(h:Q (.int (f i j)) H):X0 f (.int i) (.int j) H Q:=⟨i,j,rfl,rfl,h⟩
end
section
variable {K:az}{nx bk ct:St->Hp->Prop}{rt:VK}{σ:St}{H:Hp}{Q:VK}{ta:TA}
end
end L2
namespace HT
open PySem PySem.Spec PyProof.Rows
section
variable {prog:Program}{w:World}{A:Around}{E:Value->Shared->Prop}{s:Shared}
end
end HT
namespace L2
open PySem PySem.Spec PyProof.Rows
section
variable {X:Cx}{K:az}{nx bk ct:St->Hp->Prop}{rt:VK}{σ:St}{H:Hp}{Q:VK}{a:Addr}
end
section
variable {X:Cx}{K:az}{nx bk ct:St->Hp->Prop}{rt:VK}{σ:St}{H:Hp}{Q:VK}{ta tv:TE}{t:TA}{a C dx:Addr}{fs fs':List (Str × V)}{f m:Str}{v y z:V}{sp:Sp}{E:XK}
theorem M0{i j:Int}(h:Q (.int (i - j)) H):PB (.int i) (.int j) H Q:=⟨i,j,rfl,rfl,h⟩
end
section
variable {co si pl mk wd se an st x:V}
end
section
variable {X:Cx}{K:az}{σ:St}{H:Hp}{Q:VK}{t:TA}
end
end L2
namespace ZP
open PySem PySem.Spec PyProof.Rows
theorem qJ:entryFor table "list.__getattribute__" = some Builtin.«object.__getattribute__»:=entryFor_alias (id' := "object.__getattribute__") (by kernel_rfl) (by decide +kernel) (by decide +kernel) (by kernel_rfl)
theorem sX:typeLookup (.type "list") "__getattr__" = pure none:=by
 rw [typeLookup_type,builtinLookup_eq_fast]; kernel_rfl
theorem sY:typeLookup (.type "list") "keys" = pure none:=by
 rw [typeLookup_type,builtinLookup_eq_fast]; kernel_rfl
theorem qK(x:Addr)(its:Array Value)(n:Nat)(sl:Array (Option Value))(u:Tok):
  Meets (Builtin.«object.__getattribute__» ⟨[.ref x,.str "keys" u],[]⟩) (λ A R s=>s.heap.get? x=some { cls:=.type "list", dict:=none,data:=.seq its n,slots:=sl } /\ raisesAttr (.ref x) "keys" A R s):=by
 refine Meets.of_wp λ prog w A R s q=>?_
 obtain ⟨h0,g0,d0,t0,o0⟩:=s
 obtain ⟨hx,q⟩:=q
 have hT:(⟨h0,g0,d0,t0,o0⟩:Shared).TypeIs (.ref x) "list" := ⟨_,hx,rfl⟩
 have hmiss:=sY
 unfold Builtin.«object.__getattribute__»
 repeat (any_goals (first | assumption | wp_step))
 exact wpAny_raiseAttrError q.1 q.2 (attrMsg_fits (by decide +kernel) (by size_fits))
theorem Ho{prog:Program}{w:World}{A:Around}{E:Value->Shared->Prop}{s:Shared}{x:Addr}{its:Array Value}{n:Nat}{sl:Array (Option Value)}{Q:Option Value->Shared->Prop}(hx:s.heap.get? x=some { cls:=.type "list", dict:=none,data:=.seq its n,slots:=sl })(hA:A.handled=none)
  (q:∀ h' tk,(∀ b o,s.heap.get? b=some o->h'.get? b=some o)->Q none { s with heap:=h',toks:=tk }):wpAny (model prog w) A (getAttr? (.ref x) "keys") Q E s:=by
 obtain ⟨h0,g0,d0,t0,o0⟩:=s
 have hT:∀ tk',(⟨h0,g0,d0,tk',o0⟩:Shared).TypeIs (.ref x) "list" := λ _=>⟨_,hx,rfl⟩
 have e1:=sub_AttributeError
 have e2:=F.slot_list_getattribute.lookup
 have e3:=F.slot_list_getattribute.bind (.ref x)
 have e4:=sX
 unfold getAttr? getAttrBy? getAttrBy
 repeat (any_goals (first | assumption | exact hT _ | ((with_reducible show wpAny _ _ (call (Value.builtin "list.__getattribute__") _ _) _ _ _); refine call_meets F.slot_list_getattribute (hT _) qJ (F.args_list_getattribute_2 _ _) (qK x its n sl _) ⟨hx,hA,λ h' tk' e he=>?_⟩) | wp_step))
 obtain ⟨t',u',J7⟩:=he.there
 show wpAny _ _ (getattributeRaised _ _ _ _ _ _ _) _ _ _
 unfold getattributeRaised
 repeat (any_goals (first | assumption | wp_step))
 exact q _ _ he.keeps
end ZP
namespace L2
open PySem PySem.Spec PyProof.Rows
section
variable {prog:Program}{w:World}{A:Around}
end
section
variable {prog:Program}{w:World}{A:Around}{E:Value->Shared->Prop}{s:Shared}
end
section
variable {X:Cx}{K:az}{H:Hp}{Q:VK}{a:Addr}
end
section
variable {H:Hp}{Q:VK}{a:Addr}{kvs:List (Key × V)}
end
theorem jz(f:Nat->Int):∀ n,argBest (λ i j=>decide (f i > f j)) n <= n /\ ∀ i,i <= n->f i <= f (argBest (λ i j=>decide (f i > f j)) n)
 | 0=>⟨ay _,λ i h=>by rw [Nat.le_zero.mp h]; exact Int.le_refl _⟩
 | n + 1=>by
  obtain ⟨h1,h2⟩:=jz f n
  by_cases h:f (n + 1) > f (argBest (λ i j=>decide (f i > f j)) n)
  ·have e:argBest (λ i j=>decide (f i > f j)) (n + 1)=n + 1:=by simp only [argBest]; rw [if_pos (decide_eq_true h)]
   rw [e]
   refine ⟨ay _,λ i hi=>?_⟩
   rcases bX i (n + 1) with hl | hl
   ·have:=h2 i (by omega)
    omega
   ·rw [show i=n + 1 by omega]
    exact Int.le_refl _
  ·have e:argBest (λ i j=>decide (f i > f j)) (n + 1)=argBest (λ i j=>decide (f i > f j)) n:=by simp only [argBest]; rw [if_neg (by simpa using h)]
   rw [e]
   refine ⟨by omega,λ i hi=>?_⟩
   rcases bX i (n + 1) with hl | hl
   ·exact h2 i (by omega)
   ·rw [show i=n + 1 by omega]
    omega
theorem rq:∀ {xs:List Int} {its:List Value},Vals (xs.map V.int) its->∃ ps:List (Int × Tok),its=ps.map (λ p=>.int p.1 p.2) /\ ps.map (·.1)=xs
 | [],_,.nil=>⟨[],rfl,rfl⟩
 | x :: xs,_,.cons r t=>by
  obtain ⟨u,rfl⟩:=r
  obtain ⟨ps,rfl,e⟩:=rq t
  exact ⟨(x,u) :: ps,rfl,by simp [e]⟩
section
variable {X:Cx}{K:az}{H:Hp}{Q:VK}{a:Addr}
end
section
variable {K:az}{σ:St}{H:Hp}{Q:VK}{te:TE}
theorem M1{x y:V}(d e:PyData)(k:Nat)(hk:k <= 64)(hx:RD K H x d)(hy:RD K H y e)(hs:Sh k d)(hs':Sh k e)(h:Q (.bl (PyData.eqv d e)) H):Hf K x y H Q:=⟨d,e,hx,hy,hs.shaped hk,hs'.shaped hk,h⟩
end
section
variable {σ:St}{H:Hp}{Q:VK}
end
section
variable {X:Cx}{K:az}{H:Hp}{Q:VK}{a:Addr}
end
section
variable {X:Cx}{K:az}{H:Hp}{Q:VK}{σ:St}{a:Addr}
end
section
variable {X:Cx}{tg:Expr}
end
section
variable {K:az}{nx bk ct:St->Hp->Prop}{rt:VK}{σ:St}{H:Hp}{Q:VK}{te:TE}
end
section
variable {K:az}{nx:St->Hp->Prop}{rt:VK}{σ:St}{H:Hp}{g:TG}{tb:TS}{a:Addr}{xs:List V}
end
section
variable {K:az}{H:Hp}{Q:VK}{te:TE}{tt:TT}{τ:St}{a:Addr}{xs:List V}
end
section
variable {nx bk ct:St->Hp->Prop}{rt:VK}{σ:St}{H:Hp}{t u:TS}
def zN(t u:TS):TS:=Li t u
theorem M3{D:Ends}(h:zN t u D σ H):Li t u D σ H:=h
theorem M4(h:∀ nx':St->Hp->Prop,(∀ σ H,u ⟨nx,rt,λ _ _=>False,λ _ _=>False⟩ σ H->nx' σ H)->t ⟨nx',rt,λ _ _=>False,λ _ _=>False⟩ σ H):zN t u ⟨nx,rt,λ _ _=>False,λ _ _=>False⟩ σ H:=h _ λ _ _ x=>x
theorem yj(h:∀ nx':St->Hp->Prop,(∀ σ H,u ⟨nx,rt,bk,ct⟩ σ H->nx' σ H)->t ⟨nx',rt,bk,ct⟩ σ H):zN t u ⟨nx,rt,bk,ct⟩ σ H:=h _ λ _ _ x=>x
theorem M5(h:∀ no VT VU:St->Hp->Prop,(∀ σ H,nx σ H->no σ H)->(∀ σ H,bk σ H->VT σ H)->(∀ σ H,ct σ H->VU σ H)->∀ nx':St->Hp->Prop,(∀ σ H,u ⟨no,rt,VT,VU⟩ σ H->nx' σ H)->t ⟨nx',rt,VT,VU⟩ σ H):zN t u ⟨nx,rt,bk,ct⟩ σ H:=h _ _ _ (λ _ _ x=>x) (λ _ _ x=>x) (λ _ _ x=>x) _ λ _ _ x=>x
theorem J8{c:TT}(h:∀ kt kf:Hp->Prop,(∀ H,t ⟨nx,rt,bk,ct⟩ σ H->kt H)->(∀ H,u ⟨nx,rt,bk,ct⟩ σ H->kf H)->c σ H λ b H1=>if b=true then kt H1 else kf H1):Pg c t u ⟨nx,rt,bk,ct⟩ σ H:=h _ _ (λ _ x=>x) λ _ x=>x
end
end L2
namespace SN
open PySem
variable {xs:Array Nat}
theorem DW{j:Nat}(hs:xs.toList.Pairwise (· < ·)):∀ (fuel lo hi:Nat),hi - lo <= fuel->lo <= hi->hi <= xs.size->(∀ i v,i < lo->xs[i]? = some v->v < j)->(∀ i v,hi <= i->xs[i]? = some v->j <= v) ->
  ∀ p,SetTable.below.go xs j fuel lo hi=p->p <= xs.size /\ (∀ i v,i < p->xs[i]? = some v->v < j) /\ ∀ i v,p <= i->xs[i]? = some v->j <= v:=by
 have mono:∀ {i k:Nat} {v u:Nat},i < k->xs[i]? = some v->xs[k]? = some u->v < u:=λ {i k v u} hik hi hk=>by
  rw [<- dz] at hi hk
  obtain ⟨h1,e1⟩:=eU hi
  obtain ⟨h2,e2⟩:=eU hk
  rw [<- e1,<- e2]
  exact jj.mp hs i k h1 h2 hik
 intro fuel
 induction fuel with
 | zero =>
  intro lo hi hf ZD hsz h1 h2 p e
  unfold SetTable.below.go at e
  subst e
  have:lo=hi:=by omega
  exact ⟨by omega,h1,λ i v hi'=>h2 i v (by omega)⟩
 | succ fuel ih =>
  intro lo hi hf ZD hsz h1 h2 p e
  unfold SetTable.below.go at e
  by_cases hlt:lo < hi
  ·rw [if_pos hlt] at e
   dsimp only at e
   have hm:(lo + hi) / 2 < xs.size:=by omega
   have hg:xs[(lo + hi) / 2]? = some xs[(lo + hi) / 2]:=dM hm
   have hgd:xs.getD ((lo + hi) / 2) j=xs[(lo + hi) / 2]:=by simp [Array.getD,hm]
   rw [hgd] at e
   by_cases hc:xs[(lo + hi) / 2] < j
   ·rw [if_pos hc] at e
    refine ih ((lo + hi) / 2 + 1) hi (by omega) (by omega) hsz (λ i v hi' hv=>?_) h2 p e
    rcases bX i ((lo + hi) / 2) with hl | hg'
    ·have:=mono hl hv hg
     omega
    ·have:i=(lo + hi) / 2:=by omega
     subst this
     rw [hg] at hv
     cases hv
     exact hc
   ·rw [if_neg hc] at e
    refine ih lo ((lo + hi) / 2) (by omega) (by omega) (by omega) h1 (λ i v hi' hv=>?_) p e
    rcases bX ((lo + hi) / 2) i with hl | hg'
    ·have:=mono hl hg hv
     omega
    ·have:i=(lo + hi) / 2:=by omega
     subst this
     rw [hg] at hv
     cases hv
     omega
  ·rw [if_neg hlt] at e
   subst e
   exact ⟨by omega,h1,λ i v hi'=>h2 i v (by omega)⟩
theorem iO(hs:xs.toList.Pairwise (· < ·))(j:Nat):SetTable.below xs j <= xs.size /\ (∀ i v,i < SetTable.below xs j->xs[i]? = some v->v < j) /\ ∀ i v,SetTable.below xs j <= i->xs[i]? = some v->j <= v :=
 DW hs xs.size 0 xs.size (by omega) (by omega) (ay _) (λ i v h=>absurd h (Nat.not_lt_zero _)) (λ i v h hv=>by
  have:=(gE.mp hv).1
  omega) _ rfl
theorem yk(hs:xs.toList.Pairwise (· < ·)):SetTable.below xs 0=0:=by
 obtain ⟨h1,h2,_⟩:=iO hs 0
 rcases Nat.eq_zero_or_pos (SetTable.below xs 0) with e | hp
 ·exact e
 ·have:=h2 0 xs[0] hp (dM (by omega))
  omega
theorem yl(hs:xs.toList.Pairwise (· < ·)){i v:Nat}(hv:xs[i]? = some v):SetTable.below xs (v + 1)=i + 1:=by
 obtain ⟨h1,h2,h3⟩:=iO hs (v + 1)
 have hi:=(gE.mp hv).1
 have mono:∀ {i k:Nat} {v u:Nat},i < k->xs[i]? = some v->xs[k]? = some u->v < u:=λ {i k v u} hik hi hk=>by
  rw [<- dz] at hi hk
  obtain ⟨h1,e1⟩:=eU hi
  obtain ⟨h2,e2⟩:=eU hk
  rw [<- e1,<- e2]
  exact jj.mp hs i k h1 h2 hik
 rcases Nat.lt_trichotomy (SetTable.below xs (v + 1)) (i + 1) with hl | he | hg
 ·have:=h3 i v (by omega) hv
  omega
 ·exact he
 ·have hk:i + 1 < xs.size:=by omega
  have hu:=dM hk
  have h4:=h2 (i + 1) _ hg hu
  have h5:=mono (kr i) hv hu
  omega
theorem j7(hs:xs.toList.Pairwise (· < ·)){j:Nat}(hj:∀ (i:Nat) (v:Nat),xs[i]? = some v->v ≠ j):(SetTable.insertAt xs (SetTable.below xs j) j).toList.Pairwise (· < ·):=by
 obtain ⟨h1,h2,h3⟩:=iO hs j
 rw [SetTable.toList_insertAt]
 have hmt:∀ v∈xs.toList.take (SetTable.below xs j),v < j:=λ v hv=>by
  obtain ⟨i,hi⟩:=eX.mp hv
  have hlt:i < SetTable.below xs j:=by
   have:=(eU hi).1
   rw [bQ] at this
   omega
  rw [oU hlt,dz] at hi
  exact h2 i v hlt hi
 have hmd:∀ v∈xs.toList.drop (SetTable.below xs j),j < v:=λ v hv=>by
  obtain ⟨i,hi⟩:=eX.mp hv
  rw [List.getElem?_drop,dz] at hi
  have h4:=h3 _ v (kq _ _) hi
  have h5:=hj _ v hi
  omega
 rw [List.pairwise_append]
 refine ⟨hs.sublist (List.take_sublist ..),?_,λ a ha b hb=>?_⟩
 ·rw [l9]
  exact ⟨hmd,hs.sublist (List.drop_sublist ..)⟩
 ·have:=hmt a ha
  rcases aG.mp hb with e | hb
  ·omega
  ·have:=hmd b hb
   omega
end SN
namespace SG
open PySem
variable {led:Bool}{es:Array (Int × Value)}{t:SetTable}{j ep i:Nat}{a it tp:Addr}{o:Obj}{Q:Value->Shared->Prop}{ys:List Nat}{ns:List Int}
structure Tab (led:Bool) (es:Array (Int × Value)) (t:SetTable):Prop where
 led:t.led=led
 Bf:t.dummies=#[]
 up:t.place.toList.Pairwise (· < ·)
 fits:t.fits es.size=true
theorem Tab.sz(T:Tab led es t):t.place.size=es.size:=by
 have:=T.fits
 unfold SetTable.fits at this
 simp only [fB,beq_iff_eq] at this
 exact this.1
theorem kX(h:t.dummies=#[])(j:Nat):SetTable.has t.dummies j=false:=by unfold SetTable.has; rw [h]; simp
theorem kE(hs:t.place.toList.Pairwise (· < ·))(h:t.slot j=.empty):∀ (i:Nat) (v:Nat),t.place[i]? = some v->v ≠ j:=by
 intro i v hv e
 subst e
 obtain ⟨h1,h2,h3⟩:=SN.iO hs v
 have hi:SetTable.below t.place v <= i:=by
  rcases bX i (SetTable.below t.place v) with hl | hg
  ·exact absurd (h2 i v hl hv) (cY _)
  ·exact hg
 have hlt:=(gE.mp hv).1
 have hb:SetTable.below t.place v < t.place.size:=Nat.lt_of_le_of_lt hi hlt
 have hg:=dM hb
 have h4:=h3 _ _ (ay _) hg
 have hi2:SetTable.below t.place v=i:=by
  rcases bX (SetTable.below t.place v) i with hl | hge
  ·rw [<- dz] at hv hg
   obtain ⟨a1,e1⟩:=eU hg
   obtain ⟨a2,e2⟩:=eU hv
   have:=jj.mp hs _ _ a1 a2 hl
   rw [e1,e2] at this
   omega
  ·omega
 unfold SetTable.slot at h
 dsimp only at h
 rw [hi2,hv] at h
 simp at h
theorem uQ(hd:t.dummies=#[])(f:Nat->Int)(x:Int):∀ (fuel:Nat) (p:SetTable.Probe) (j:Nat) (dm:Option Nat),p.dummy=none->SetTable.probe.go t f x fuel p=some (.empty j dm)->dm=none /\ t.slot j=.empty:=by
 intro fuel
 induction fuel with
 | zero=>intro p j dm _ h; cases h
 | succ fuel ih =>
  intro p j dm hp h
  have ZE:(t.advance p).dummy=none:=by unfold SetTable.advance; split <;> exact hp
  unfold SetTable.probe.go at h
  cases hs:t.slot p.j with
  | empty =>
   rw [hs] at h
   cases h
   exact ⟨hp,hs⟩
  | dummy =>
   exfalso
   unfold SetTable.slot at hs
   dsimp only at hs
   rw [kX hd] at hs
   split at hs <;> cases hs
  | live i =>
   rw [hs] at h
   dsimp only at h
   split at h
   ·cases h
   ·exact ih _ j dm ZE h
theorem Bg(hd:t.dummies=#[]){x:Int}{b:Bool}(h:t.freeSlot x=some (j,b)):b=false /\ t.slot j=.empty:=by
 unfold SetTable.freeSlot at h
 cases e:t.probe (λ _=>x + 1) x (t.probeStart x) with
 | none=>rw [e] at h; cases h
 | some m =>
  cases m with
  | candidate _ _ _=>rw [e] at h; cases h
  | empty k dm =>
   rw [e] at h
   obtain ⟨rfl,h2⟩:=uQ hd _ _ _ _ k dm rfl e
   cases h
   exact ⟨rfl,h2⟩
theorem kY(n:Nat):(Array.range n).toList.Pairwise (· < ·):=by
 rw [Array.toList_range]
 exact List.pairwise_lt_range
theorem Tab.lay(T:Tab led es t)(h:Int)(x:Value):
  ∃ es1 t1 gv,layNew t es h x=(es1,t1,false,gv) /\ Tab led es1 t1 /\ es1.toList.Perm (es.toList++[(h,x)]):=by
 have hp:=layNew_perm t es h x
 have hf:=layNew_fits t es h x
 rw [Array.toList_push] at hp
 cases e:t.freeSlot h with
 | none =>
  have el:layNew t es h x=(es.push (h,x),t.standIn (es.size + 1),false,true):=by unfold layNew; rw [e]
  rw [el] at hp hf
  exact ⟨_,_,_,el,⟨T.led,rfl,kY _,hf⟩,hp⟩
 | some q =>
  obtain ⟨j,b⟩:=q
  obtain ⟨rfl,hs⟩:=Bg T.Bf e
  have M6:t.put j=({ t with place:=SetTable.insertAt t.place (SetTable.below t.place j) j },SetTable.below t.place j):=by
   unfold SetTable.put
   rw [kX T.Bf]
   rfl
  have el:layNew t es h x=(SetTable.insertAt es (SetTable.below t.place j) (h,x),({ t with place:=SetTable.insertAt t.place (SetTable.below t.place j) j }:SetTable).orStandIn (SetTable.insertAt es (SetTable.below t.place j) (h,x)).size,false,!({ t with place:=SetTable.insertAt t.place (SetTable.below t.place j) j }:SetTable).fits (SetTable.insertAt es (SetTable.below t.place j) (h,x)).size):=by
   unfold layNew
   rw [e]
   dsimp only
   rw [M6]
  rw [el] at hp hf
  dsimp only at hp hf
  refine ⟨_,_,_,el,⟨?_,?_,?_,hf⟩,hp⟩
  ·unfold SetTable.orStandIn
   split <;> exact T.led
  ·unfold SetTable.orStandIn
   split
   ·exact T.Bf
   ·rfl
  ·unfold SetTable.orStandIn
   split
   ·exact SN.j7 T.up (kE T.up hs)
   ·exact kY _
theorem Tab.Q4(T:Tab led es t)(n:Nat):
    ∃ es1 t1 gv,relayAll t es n=(es1,t1,gv) /\ Tab led es1 t1 /\ es1.toList.Perm es.toList:=by
  have hp:=relayAll_perm t es n
  have hf:=relayAll_fits t es n
  generalize hR:relayAll t es n=R at hp hf
  obtain ⟨es1,t1,gv⟩:=R
  dsimp only at hp hf
  refine ⟨es1,t1,gv,rfl,⟨?_,?_,?_,hf⟩,hp⟩ <;> clear hp hf <;> unfold relayAll at hR <;> cases e:t.relaid (es.map (·.1)) n with
  | none =>
    rw [e] at hR
    cases hR
    first | exact T.led | rfl | exact kY _
  | some q =>
    obtain ⟨t',od⟩:=q
    rw [e] at hR
    dsimp only at hR
    split at hR
    · obtain ⟨rfl,rfl,_⟩:_ /\ _ /\ _:=by simpa only [Prod.mk.injEq] using hR
      unfold SetTable.relaid SetTable.laid at e
      cases e2:SetTable.layClean (SetTable.sizeAbove n - 1) (es.map (·.1)) with
      | none=>rw [e2] at e; cases e
      | some ow =>
        rw [e2] at e
        cases e
        first
          | exact T.led
          | rfl
          | (rw [List.toList_toArray,ko]
             refine List.Pairwise.filterMap _ (λ a b hab x hx y hy=>?_) (List.pairwise_lt_range (n:=SetTable.sizeAbove n - 1 + 1))
             obtain ⟨_,_,rfl⟩:=cO.mp hx
             obtain ⟨_,_,rfl⟩:=cO.mp hy
             exact hab)
    · cases hR
      first | exact T.led | rfl | exact kY _
open PySem.Spec PyProof.Rows
def bG(w:World):Bool:=w.params.followText "set-order"
theorem Hq:entryFor table "set.__iter__" = some Builtin.«frozenset.__iter__»:=entryFor_alias (id' := "frozenset.__iter__") (by kernel_rfl) rfl (by decide +kernel) (by kernel_rfl)
theorem dS:Slot "set_iterator" "__next__" "set_iterator.__next__" := .of (owner := "set_iterator") (n := "__next__") (by rw [typeLookup_type,builtinLookup_eq_fast]; kernel_rfl) (by decide +kernel) (by decide +kernel) (by decide +kernel) (by first | exact .inl (by decide +kernel) | exact .inr (by decide +kernel)) (by rw [isSubtype_type]; kernel_rfl)
theorem nU:entryFor table "set_iterator.__next__" = some Builtin.«set_iterator.__next__»:=entryFor_of_tree (by kernel_rfl)
theorem nV(a:Value):argsOk "set_iterator.__next__" ⟨[a],[]⟩:=by unfold argsOk; kernel_rfl
theorem nW:Slot "set_iterator" "__iter__" "set_iterator.__iter__" := .of (owner := "set_iterator") (n := "__iter__") (by rw [typeLookup_type,builtinLookup_eq_fast]; kernel_rfl) (by decide +kernel) (by decide +kernel) (by decide +kernel) (by first | exact .inl (by decide +kernel) | exact .inr (by decide +kernel)) (by rw [isSubtype_type]; kernel_rfl)
theorem zO:entryFor table "set_iterator.__iter__" = some Builtin.«dict_keyiterator.__iter__»:=entryFor_alias (id' := "dict_keyiterator.__iter__") (by kernel_rfl) rfl (by decide +kernel) (by kernel_rfl)
theorem zP(a:Value):argsOk "set_iterator.__iter__" ⟨[a],[]⟩:=by unfold argsOk; kernel_rfl
def ord(w:World)(a:Addr)(es:Array (Int × Value))(ep:Nat):Array (Int × Value):=if bG w=true then pickOrder (w.params.setOrder a ep) es else es
theorem kF{α:Type}:∀ (l:List α) (i:Nat) (h:i < l.length),(l[i] :: l.eraseIdx i).Perm l
 | x :: l,0,_=>kh _
 | x :: l,i + 1,h=>by
  have hi:i < l.length:=by simpa using h
  simp only [List.getElem_cons_succ,List.eraseIdx_cons_succ]
  exact (List.Perm.swap x l[i] _).trans ((kF l i hi).cons x)
theorem rA{α:Type}(nx:Nat->Nat):∀ (fuel k:Nat) (left:List α) (out:Array α),left.length <= fuel->(pickOrder.go nx fuel k left out).toList.Perm (out.toList++left)
 | 0,k,left,out,h=>by
  unfold pickOrder.go
  rw [List.eq_nil_of_length_eq_zero (Nat.le_zero.mp h),dY]
 | fuel + 1,k,left,out,h=>by
  unfold pickOrder.go
  cases e:left[nx k % left.length]? with
  | none =>
   dsimp only
   have:left=[]:=by
    cases left with
    | nil=>rfl
    | cons x l =>
     have hlt:nx k % (x :: l).length < (x :: l).length:=Nat.mod_lt _ (Nat.zero_lt_succ _)
     rw [fM hlt] at e
     cases e
   rw [this,dY]
  | some x =>
   dsimp only
   obtain ⟨hlt,ex⟩:=eU e
   have hl:(left.eraseIdx (nx k % left.length)).length <= fuel:=by rw [List.length_eraseIdx_of_lt hlt]; omega
   refine (rA nx fuel (k + 1) _ (out.push x) hl).trans ?_
   rw [Array.toList_push,List.append_assoc]
   refine List.Perm.append_left _ ?_
   have:=kF left _ hlt
   rw [ex] at this
   exact this
theorem DX(w:World)(a:Addr)(es:Array (Int × Value))(ep:Nat):(ord w a es ep).toList.Perm es.toList:=by
 unfold ord
 split
 ·unfold pickOrder
  have:=rA (w.params.setOrder a ep) es.size 0 es.toList #[] (by simp)
  simpa using this
 ·exact kh _
theorem qL{M:Model}{A:Around}{E:Value->Shared->Prop}{s:Shared}{src:Source}{n:Nat}{Q:Nat->Shared->Prop}(hn:n ≠ 0)(h:∀ i,i < n->Q i { s with drawn:=s.drawn.bump src }):wpAny M A (choose src n) Q E s :=
 λ _ _ _=>⟨hn,h _ (Nat.mod_lt _ (Nat.pos_of_ne_zero hn))⟩
theorem pJ{M:Model}{A:Around}{E:Value->Shared->Prop}{α:Type}:∀ (n:Nat) (xs:List α) (s:Shared) (Q:List α->Shared->Prop),xs.length <= n->(∀ ys d',ys.Perm xs->Q ys { s with drawn:=d' })->wpAny M A (drawOrder n xs) Q E s
 | 0,xs,s,Q,hn,h=>by
  have:xs=[]:=List.eq_nil_of_length_eq_zero (Nat.le_zero.mp hn)
  subst this
  exact aE (h [] s.drawn (kh _))
 | n + 1,[],s,Q,hn,h=>aE (h [] s.drawn (kh _))
 | n + 1,x :: xs,s,Q,hn,h=>by
  unfold drawOrder
  refine af (qL (by simp) λ i hi=>?_)
  have e:(x :: xs)[i]? = some (x :: xs)[i]:=fM hi
  rw [e]
  dsimp only
  have hl:((x :: xs).eraseIdx i).length <= n:=by rw [List.length_eraseIdx_of_lt hi]; simp only [dZ] at hn ⊢; omega
  refine af (pJ n _ _ _ hl λ ys d' hp=>aE ?_)
  exact h _ d' ((hp.cons _).trans (kF _ i hi))
section
variable {prog:Program}{w:World}{A:Around}{E:Value->Shared->Prop}{s:Shared}
def Still(w:World)(es:Array (Int × Value))(t:SetTable):Prop:=bG w=true \/ t.plain=true \/ es.size <= 1
def Bh(w:World)(a:Addr)(o:Obj)(es:Array (Int × Value))(ep:Nat)(t:SetTable)(it:Addr)(i:Nat)(h:Heap):Prop :=
 h.get? a=some o /\ ∃ oi sl,h.get? it=some oi /\ oi.cls=.type "set_iterator" /\ oi.data=.fields #[.int ((sl:Nat):Int) 0,.int ((i:Nat):Int) 0,.ref a,.int ((es.size:Nat):Int) 0,.int ((ep:Nat):Int) 0] /\ (bG w=false->SetTable.below t.place sl=i)
theorem Bh.ty(h:Bh w a o es ep t it i s.heap):s.TypeIs (.ref it) "set_iterator" := by
 obtain ⟨_,oi,sl,h1,h2,_⟩:=h
 exact ⟨oi,h1,h2⟩
theorem zQ{o:Obj}{sl:Nat}{Q:Option (Value × Nat)->Shared->Prop}(ho:s.heap.get? a=some o)(hd:o.data=.set es ep t)(T:Tab (!bG w) es t)(hst:Still w es t)(hb:bG w=false->SetTable.below t.place sl=i)
  (h:∀ zo,(∀ e,(ord w a es ep)[i]? = some e->bG w=false->SetTable.below t.place zo=i + 1)->Q ((ord w a es ep)[i]?.map λ e=>(e.2,zo)) s):wpAny (model prog w) A (setNext a sl i ep) Q E s:=by
 unfold setNext
 refine af (wpAny_setState_of ho hd T.fits ?_)
 dsimp only
 unfold setsByText
 refine af (af (wpAny_askSetting (aE ?_)))
 show wpAny _ _ (if bG w=true then _ else _) _ _ _
 cases hx:bG w with
 | true =>
  rw [if_pos rfl]
  simp only [bne_self_eq_false,aS,if_false]
  refine af ?_
  unfold setWalk
  refine af (wpAny_setState_of ho hd T.fits ?_)
  dsimp only
  unfold setsByText
  refine af (af (wpAny_askSetting (aE ?_)))
  show wpAny _ _ (if bG w=true then _ else _) _ _ _
  rw [if_pos hx]
  refine af (wpAny_askSetting (aE (aE ?_)))
  have:=h sl (λ e _ z=>by rw [hx] at z; cases z)
  unfold ord at this
  rw [if_pos hx] at this
  exact this
 | false =>
  rw [if_neg (by decide)]
  have Q5:t.led=true:=by rw [T.led,hx]; rfl
  have hz:=T.sz
  have hup:=T.up
  have hb':=hb hx
  have ho':ord w a es ep=es:=by unfold ord; rw [hx]; rfl
  rw [ho'] at h
  have hdr:(!t.plain && decide (es.size > 1))=false:=by
   rcases hst with e | e | e
   ·rw [hx] at e; cases e
   ·rw [e]; rfl
   ·have:decide (es.size > 1)=false:=decide_eq_false (by omega)
    rw [this,oJ]
  clear T hb ho hd hst
  obtain ⟨mask,place,dummies,finger,led,moves,plain⟩:=t
  dsimp only at Q5 hz hup hb' h hdr
  subst Q5
  show wpAny _ _ (if (!plain && decide (es.size > 1))=true then _ else _) _ _ _
  rw [if_neg (by rw [hdr]; decide)]
  refine af (wpAny_of_eq (a:=()) rfl ?_)
  dsimp only
  rw [hb']
  rcases bX i es.size with hlt | hge
  ·have e1:es[i]? = some es[i]:=dM hlt
   have e2:place[i]? = some place[i]:=dM (by omega)
   rw [e1,e2]
   refine aE ?_
   have:=h (place[i] + 1) (λ _ _ _=>SN.yl hup e2)
   rw [e1] at this
   exact this
  ·have e1:es[i]? = none:=oH hge
   rw [e1]
   refine aE ?_
   have:=h 0 (λ e z=>by rw [e1] at z; cases z)
   rw [e1] at this
   exact this
theorem Hr{e:Int × Value}{Q:Option Value->Shared->Prop}(hne:a ≠ it)(hd:o.data=.set es ep t)(T:Tab (!bG w) es t)(hst:Still w es t)
  (I:Bh w a o es ep t it i s.heap)(hi:(ord w a es ep)[i]? = some e)(hQ:∀ h',Bh w a o es ep t it (i + 1) h'->(∀ b x,b ≠ it->s.heap.get? b=some x->h'.get? b=some x)->Q (some e.2) { s with heap:=h' }):wpAny (model prog w) A (pyNext (.ref it)) Q E s:=by
 have ty:=I.ty
 obtain ⟨ho,oi,sl,xw,hc,hf,hb⟩:=I
 unfold pyNext
 refine af (wpAny_attempt (wpAny_callSpecial?_slot (name:=Str.ofString "__next__") ty dS (wpAny_call_entry dS ty nU ?_ (nV _))))
 unfold Builtin.«set_iterator.__next__»
 refine af (wpAny_of_eq (a:=(Value.ref it,[])) rfl ?_)
 refine af (wpAny_fieldsOf xw hf ?_)
 dsimp only
 refine af (wpAny_setEntries_of ho hd T.fits ?_)
 rw [if_neg (by simp)]
 rw [show ((sl:Nat):Int).toNat=sl from rfl,show ((i:Nat):Int).toNat=i from rfl,show ((ep:Nat):Int).toNat=ep from rfl]
 refine af (zQ ho hd T hst hb λ zo hb'=>?_)
 rw [hi]
 show wpAny _ _ (do setField (.ref it) 0 (rawInt zo); setField (.ref it) 1 (rawInt ((i:Int) + 1)); ret e.2) _ _ s
 have g1:=cj (Obj.mapFields (·.setIfInBounds 0 (rawInt zo))) xw (fk (bW hf _))
 have d1:=bW hf (·.setIfInBounds 0 (rawInt zo))
 refine af (wpAny_setField xw hf (by simp) (af (wpAny_setField g1 d1 (by simp) (aE ⟨_,rfl,aE (hQ _ ?_ λ b x hb e=>?_)⟩))))
 ·have hk:∀ (f g:Obj->Obj) (b:Addr) (x:Obj),b ≠ it->s.heap.get? b=some x->((s.heap.update it f).update it g).get? b=some x:=λ f g b x hb e=>by rw [dH _ _ _ _ hb,dH _ _ _ _ hb]; exact e
  refine ⟨hk _ _ _ _ hne ho,_,zo,cj _ g1 (fk (bW d1 _)),(iJ ..).trans ((iJ ..).trans hc),?_,λ hx=>hb' e hi hx⟩
  rw [bW d1]
  simp [rawInt]
 ·rw [dH _ _ _ _ hb,dH _ _ _ _ hb]; exact e
theorem M7{Q:Option Value->Shared->Prop}(hh:A.handled=none)(hne:a ≠ it)(hd:o.data=.set es ep t)(T:Tab (!bG w) es t)(hst:Still w es t)
  (I:Bh w a o es ep t it i s.heap)(hi:(ord w a es ep)[i]? = none)(hQ:∀ h',(∀ b x,b ≠ it->s.heap.get? b=some x->h'.get? b=some x)->Q none { s with heap:=h' }):wpAny (model prog w) A (pyNext (.ref it)) Q E s:=by
 have ty:=I.ty
 obtain ⟨ho,oi,sl,xw,hc,hf,hb⟩:=I
 unfold pyNext
 refine af (wpAny_attempt (wpAny_callSpecial?_slot (name:=Str.ofString "__next__") ty dS (wpAny_call_entry dS ty nU ?_ (nV _))))
 unfold Builtin.«set_iterator.__next__»
 refine af (wpAny_of_eq (a:=(Value.ref it,[])) rfl ?_)
 refine af (wpAny_fieldsOf xw hf ?_)
 dsimp only
 refine af (wpAny_setEntries_of ho hd T.fits ?_)
 rw [if_neg (by simp)]
 rw [show ((sl:Nat):Int).toNat=sl from rfl,show ((i:Nat):Int).toNat=i from rfl,show ((ep:Nat):Int).toNat=ep from rfl]
 refine af (zQ ho hd T hst hb λ zo hb'=>?_)
 rw [hi]
 show wpAny _ _ (do setField (.ref it) 2 .none; raiseNew (<- newExc (.type "StopIteration") [])) _ _ s
 refine af (wpAny_setField xw hf (by simp) (af ?_))
 simp only [newExc,newTuple]
 refine af (wpAny_newObj_type (af (m:=firstArgMember _ _) (wpAny_of_eq (a:=Value.none) (by first | rfl | (simp only [firstArgMember]; rfl)) (wpAny_newObj_type ?_ (by size_fits)))) (by size_fits))
 simp only [raiseNew]
 refine af (wpAny_handled ?_)
 rw [show A.in1.handled=none from hh]
 refine af (aE (wpAny_throw ?go))
 refine af (wpAny_isInstance (T := "StopIteration") (b:=true) (⟨_,fK _ rfl,rfl⟩) isSubtype_stop ?_)
 refine aE (hQ _ λ b x hb e=>?_)
 exact bO _ (bO _ (by rw [dH _ _ _ _ hb]; exact e))
theorem Bj(hh:A.handled=none)(hne:a ≠ it)(hd:o.data=.set es ep t)(T:Tab (!bG w) es t)(hst:Still w es t):
  Walks prog w A it [it,a] [it] (ord w a es ep).size (λ i v=>∃ e,(ord w a es ep)[i]? = some e /\ v=e.2) (λ i h=>Bh w a o es ep t it i h) where
 sub:=λ b hb=>by simp at hb; simp [hb]
 frame:=λ i h h' st hk=>by
  obtain ⟨h1,oi,sl,h2,r⟩:=st
  exact ⟨hk a (by simp) o h1,oi,sl,hk it (by simp) oi h2,r⟩
 item:=λ i s Q E hi st hQ=>Hr hne hd T hst st (dM hi) λ h' st' hk=>hQ _ h' s.toks ⟨_,dM hi,rfl⟩ st' λ b x hb e=>hk b x (λ z=>hb (by simp [z])) e
 done:=λ s Q E st hQ=>M7 hh hne hd T hst st (oH (ay _)) λ h' hk=>hQ h' s.toks λ b x hb e=>hk b x (λ z=>hb (by simp [z])) e
 self:=λ i s Q E st hQ=>by
  have ty:=st.ty
  refine wpAny_pyIter_slot ty nW (wpAny_call_entry nW ty zO ?_ (zP _))
  show wpAny _ _ (ret (.ref it)) _ _ s
  exact aE ⟨_,rfl, "set_iterator", _,ty,dS.lookup,hQ⟩
def Bk(a:Addr)(o:Obj)(es:Array (Int × Value))(ep:Nat)(tp:Addr)(ys:List Nat)(it:Addr)(i:Nat)(h:Heap):Prop :=
 h.get? a=some o /\ (∃ ot n,h.get? tp=some ot /\ ot.data=.seq (ys.map λ (j:Nat)=>rawInt j).toArray n) /\ ∃ oi,h.get? it=some oi /\ oi.cls=.type "set_iterator" /\ oi.data=.fields #[.ref tp,.int ((i:Nat):Int) 0,.ref a,.int ((es.size:Nat):Int) 0,.int ((ep:Nat):Int) 0]
theorem Bk.ty(h:Bk a o es ep tp ys it i s.heap):s.TypeIs (.ref it) "set_iterator" := by
 obtain ⟨_,_,oi,h1,h2,_⟩:=h
 exact ⟨oi,h1,h2⟩
theorem Hs{t:SetTable}{e:Int × Value}{Q:Option Value->Shared->Prop}(hne:a ≠ it)(hnt:tp ≠ it)(hd:o.data=.set es ep t)(hfit:t.fits es.size=true)
  (I:Bk a o es ep tp ys it i s.heap)(hi:ys[i]? = some j)(he:es[j]? = some e)(hQ:∀ h',Bk a o es ep tp ys it (i + 1) h'->(∀ b x,b ≠ it->s.heap.get? b=some x->h'.get? b=some x)->Q (some e.2) { s with heap:=h' }):wpAny (model prog w) A (pyNext (.ref it)) Q E s:=by
 have ty:=I.ty
 obtain ⟨ho,⟨ot,nt,xy,hdt⟩,oi,xw,hc,hf⟩:=I
 unfold pyNext
 refine af (wpAny_attempt (wpAny_callSpecial?_slot (name:=Str.ofString "__next__") ty dS (wpAny_call_entry dS ty nU ?_ (nV _))))
 unfold Builtin.«set_iterator.__next__»
 refine af (wpAny_of_eq (a:=(Value.ref it,[])) rfl ?_)
 refine af (wpAny_fieldsOf xw hf ?_)
 dsimp only
 refine af (wpAny_setEntries_of ho hd hfit ?_)
 rw [if_neg (by simp)]
 refine af (wpAny_seqItems xy hdt ?_)
 dsimp only
 rw [show ((i:Nat):Int).toNat=i from rfl]
 have e1:((ys.map λ (j:Nat)=>rawInt j).toArray)[i]? = some (rawInt j):=by rw [ji,bh,hi]; rfl
 rw [e1]
 show wpAny _ _ (do let x <- setNextDrawn a ((j:Nat):Int).toNat ((ep:Nat):Int).toNat; setField (.ref it) 1 (rawInt ((i:Int) + 1)); ret x) _ _ s
 rw [show ((j:Nat):Int).toNat=j from rfl,show ((ep:Nat):Int).toNat=ep from rfl]
 refine af ?_
 unfold setNextDrawn
 refine af (wpAny_setState_of ho hd hfit ?_)
 dsimp only
 rw [if_neg (by simp),he]
 refine aE ?_
 refine af (wpAny_setField xw hf (by simp) (aE ⟨_,rfl,aE (hQ _ ?_ λ b x hb e=>?_)⟩))
 ·refine ⟨by rw [dH _ _ _ _ hne]; exact ho,⟨ot,nt,by rw [dH _ _ _ _ hnt]; exact xy,hdt⟩,_,cj _ xw (fk (bW hf _)),(iJ ..).trans hc,?_⟩
  rw [bW hf]
  simp [rawInt]
 ·rw [dH _ _ _ _ hb]; exact e
theorem M8{t:SetTable}{Q:Option Value->Shared->Prop}(hh:A.handled=none)(hne:a ≠ it)(hd:o.data=.set es ep t)(hfit:t.fits es.size=true)
  (I:Bk a o es ep tp ys it i s.heap)(hi:ys[i]? = none)(hQ:∀ h',(∀ b x,b ≠ it->s.heap.get? b=some x->h'.get? b=some x)->Q none { s with heap:=h' }):wpAny (model prog w) A (pyNext (.ref it)) Q E s:=by
 have ty:=I.ty
 obtain ⟨ho,⟨ot,nt,xy,hdt⟩,oi,xw,hc,hf⟩:=I
 unfold pyNext
 refine af (wpAny_attempt (wpAny_callSpecial?_slot (name:=Str.ofString "__next__") ty dS (wpAny_call_entry dS ty nU ?_ (nV _))))
 unfold Builtin.«set_iterator.__next__»
 refine af (wpAny_of_eq (a:=(Value.ref it,[])) rfl ?_)
 refine af (wpAny_fieldsOf xw hf ?_)
 dsimp only
 refine af (wpAny_setEntries_of ho hd hfit ?_)
 rw [if_neg (by simp)]
 refine af (wpAny_seqItems xy hdt ?_)
 dsimp only
 rw [show ((i:Nat):Int).toNat=i from rfl]
 have e1:((ys.map λ (j:Nat)=>rawInt j).toArray)[i]? = none:=by rw [ji,bh,hi]; rfl
 rw [e1]
 show wpAny _ _ (do setField (.ref it) 0 (rawInt 0); setField (.ref it) 2 .none; raiseNew (<- newExc (.type "StopIteration") [])) _ _ s
 have g1:=cj (Obj.mapFields (·.setIfInBounds 0 (rawInt 0))) xw (fk (bW hf _))
 have d1:=bW hf (·.setIfInBounds 0 (rawInt 0))
 refine af (wpAny_setField xw hf (by simp) (af (wpAny_setField g1 d1 (by simp) (af ?_))))
 simp only [newExc,newTuple]
 refine af (wpAny_newObj_type (af (m:=firstArgMember _ _) (wpAny_of_eq (a:=Value.none) (by first | rfl | (simp only [firstArgMember]; rfl)) (wpAny_newObj_type ?_ (by size_fits)))) (by size_fits))
 simp only [raiseNew]
 refine af (wpAny_handled ?_)
 rw [show A.in1.handled=none from hh]
 refine af (aE (wpAny_throw ?go))
 refine af (wpAny_isInstance (T := "StopIteration") (b:=true) (⟨_,fK _ rfl,rfl⟩) isSubtype_stop ?_)
 refine aE (hQ _ λ b x hb e=>?_)
 exact bO _ (bO _ (by rw [dH _ _ _ _ hb,dH _ _ _ _ hb]; exact e))
def nj(es:Array (Int × Value))(ys:List Nat):Array (Int × Value):=(ys.map λ j=>es.toList.getD j (0,.none)).toArray
theorem ym(h:ys.Perm (List.range es.size)):(nj es ys).toList.Perm es.toList:=by
 unfold nj
 rw [List.toList_toArray]
 refine (h.map _).trans ?_
 have:(List.range es.size).map (λ j=>es.toList.getD j (0,.none))=es.toList:=by
  refine List.ext_getElem (by simp) λ i h1 h2=>?_
  simp only [oX,List.getElem_range]
  rw [kg,fM h2]
  rfl
 rw [this]
theorem uR(hh:A.handled=none){t:SetTable}(hne:a ≠ it)(hnt:tp ≠ it)(hd:o.data=.set es ep t)(hfit:t.fits es.size=true)(hp:ys.Perm (List.range es.size)):
  Walks prog w A it [it,a,tp] [it] (nj es ys).size (λ i v=>∃ e,(nj es ys)[i]? = some e /\ v=e.2) (λ i h=>Bk a o es ep tp ys it i h) where
 sub:=λ b hb=>by simp at hb; simp [hb]
 frame:=λ i h h' st hk=>by
  obtain ⟨h1,⟨ot,nt,h2,h3⟩,oi,h4,r⟩:=st
  exact ⟨hk a (by simp) o h1,⟨ot,nt,hk tp (by simp) _ h2,h3⟩,oi,hk it (by simp) oi h4,r⟩
 item:=λ i s Q E hi st hQ=>by
  have hi':i < ys.length:=by simpa [nj] using hi
  have e1:ys[i]? = some ys[i]:=fM hi'
  have hj:ys[i] < es.size:=fN.mp (hp.mem_iff.mp (gY hi'))
  have e2:es[ys[i]]? = some es[ys[i]]:=dM hj
  refine Hs hne hnt hd hfit st e1 e2 λ h' st' hk=>hQ _ h' s.toks ⟨es[ys[i]],?_,rfl⟩ st' λ b x hb e=>hk b x (λ z=>hb (by simp [z])) e
  unfold nj
  rw [ji,bh,e1]
  show some (es.toList.getD ys[i] (0,.none))=_
  rw [kg,dz,e2]
  rfl
 done:=λ s Q E st hQ=>M8 hh hne hd hfit st (by simp [nj]) λ h' hk=>hQ h' s.toks λ b x hb e=>hk b x (λ z=>hb (by simp [z])) e
 self:=λ i s Q E st hQ=>by
  have ty:=st.ty
  refine wpAny_pyIter_slot ty nW (wpAny_call_entry nW ty zO ?_ (zP _))
  show wpAny _ _ (ret (.ref it)) _ _ s
  exact aE ⟨_,rfl, "set_iterator", _,ty,dS.lookup,hQ⟩
theorem DY{o:Obj}{t:SetTable}(ho:s.heap.get? a=some o)(hx:o.ExactSet)(hd:o.data=.set es ep t)(T:Tab (!bG w) es t)(hsz:es.size <= 100000)
  (h:∀ (it:Addr) (h':Heap) (d':Drawn) (fp:List Addr) (od:Array (Int × Value)) (St:Nat->Heap->Prop),(∀ b x,s.heap.get? b=some x->h'.get? b=some x)->s.heap.objs.size <= it->(∀ b∈fp,b=a \/ s.heap.objs.size <= b)->od.toList.Perm es.toList ->
   (∀ A':Around,A'.handled=none->Walks prog w A' it fp [it] od.size (λ i v=>∃ e,od[i]? = some e /\ v=e.2) St)->St 0 h'->Q (.ref it) { s with heap:=h',drawn:=d' }):wpAny (model prog w) A (pyIter (.ref a)) Q E s:=by
 have ty:s.TypeIs (.ref a) "set" := ⟨o,ho,hx.1⟩
 have hlt:=aA ho
 refine wpAny_pyIter_slot ty F.slot_set_iter (wpAny_call_entry F.slot_set_iter ty Hq ?_ (F.args_set_iter_1 _))
 unfold Builtin.«frozenset.__iter__»
 refine af (wpAny_of_eq (a:=a) rfl ?_)
 refine af (m:=Builtin.Frozenset.sizeOf a) (af (wpAny_setEntries_of ho hd T.fits (aE ?_)))
 unfold setDrawn
 refine af (af (wpAny_setState_of ho hd T.fits ?_))
 dsimp only
 unfold setsByText
 refine af (af (wpAny_askSetting (aE (aE ?_))))
 show wpAny _ _ (if (!bG w && (!t.plain && decide (es.size > 1)))=true then _ else _) _ _ _
 by_cases hdr:(!bG w && (!t.plain && decide (es.size > 1)))=true
 ·rw [if_pos hdr]
  refine af (pJ es.size (List.range es.size) s _ (by simp) λ ys d' hp=>?_)
  have hyl:ys.length=es.size:=by rw [hp.length_eq,oZ]
  refine af (wpAny_newTuple ?_ (by rw [au,hyl,sizeLine_eq]; omega))
  refine af (wpAny_setEpoch_of (bO _ ho) hd T.fits (af (wpAny_newObj_type (aE ⟨_,rfl, "set_iterator", _,⟨_,fK _ rfl,rfl⟩,dS.lookup,?_⟩))))
  dsimp only
  have hz:(s.heap.push { cls:=.type "tuple", data:=.seq (ys.map λ (i:Nat)=>rawInt i).toArray }).objs.size=s.heap.objs.size + 1:=by rw [dI]
  refine h _ _ d' [_,a,s.heap.objs.size] (nj es ys) _ (λ b x e=>bO _ (bO _ e)) (by rw [hz]; exact jk _) (λ b hb=>?_) (ym hp) (λ A' hA=>uR hA (tp:=s.heap.objs.size) (by rw [hz]; exact aM (jl hlt)) (by rw [hz]; exact aM (kr _)) hd T.fits hp) ?_
  ·simp only [aG,eF,or_false] at hb
   rcases hb with e | e | e
   ·rw [e,hz]; exact .inr (jk _)
   ·exact .inl e
   ·rw [e]; exact .inr (ay _)
  ·exact ⟨bO _ (bO _ ho),⟨_,_,bO _ (fK _ rfl),rfl⟩,_,fK _ rfl,rfl,rfl⟩
 ·rw [if_neg hdr]
  have hst:Still w es t:=by
   unfold Still
   cases hb:bG w
   ·cases hpl:t.plain
    ·rw [hb,hpl] at hdr
     simp at hdr
     exact .inr (.inr hdr)
    ·exact .inr (.inl rfl)
   ·exact .inl rfl
  refine af (aE (af (wpAny_setEpoch_of ho hd T.fits (af (wpAny_newObj_type (aE ⟨_,rfl, "set_iterator", _,⟨_,fK _ rfl,rfl⟩,dS.lookup,?_⟩))))))
  refine h s.heap.objs.size _ s.drawn [s.heap.objs.size,a] (ord w a es ep) _ (λ b x e=>bO _ e) (ay _) (λ b hb=>?_) (DX w a es ep) (λ A' hA=>Bj hA (aM hlt) hd T hst) ?_
  ·simp only [aG,eF,or_false] at hb
   rcases hb with e | e
   ·rw [e]; exact .inr (ay _)
   ·exact .inl e
  ·exact ⟨bO _ ho,_,0,fK _ rfl,rfl,rfl,λ _=>SN.yk T.up⟩
def M9(es:List (Int × Value)):Prop:=∀ e∈es,∃ n k,e=(hashInt n,Value.int n k)
def Small(led:Bool)(h:Heap)(a:Addr)(ns:List Int):Prop :=
 ∃ o es ep t,h.get? a=some o /\ o.ExactSet /\ o.data=.set es ep t /\ Tab led es t /\ M9 es.toList /\ es.size=ns.length /\ ns.Nodup /\ ∀ n,n∈ns ↔ ∃ k,((hashInt n,Value.int n k):Int × Value)∈es.toList
theorem Small.at'{h h':Heap}(S:Small led h a ns)(e:∀ o,h.get? a=some o->h'.get? a=some o):Small led h' a ns:=by
 obtain ⟨o,es,ep,t,ho,r⟩:=S
 exact ⟨o,es,ep,t,e o ho,r⟩
theorem M9.elems{es:List (Int × Value)}(h:M9 es):ElemsOf (intKind prog w) es:=λ e he=>by
 obtain ⟨n,k,rfl⟩:=h e he
 exact ⟨⟨n,intKind_is _ _ _ _,rfl⟩,rfl⟩
theorem uS(b:Bool){s1:Shared}{R:Unit->Shared->Prop}(h:R () s1):wpAny (model prog w) A (match b with | true=>rule "set.scan.the-table-gave-way" | false=>pure ()) R E s1:=by
 cases b
 ·exact aE h
 ·exact wpAny_rule h
theorem uT{o:Obj}{t:SetTable}(ho:s.heap.get? a=some o)(hx:o.ExactSet)(hd:o.data=.set es ep t){es1:Array (Int × Value)}{t1:SetTable}(T1:Tab led es1 t1)(hz:es1.size <= 100000)
  {g:Bool->Sem Unit}(hg:∀ (b:Bool) (s₁:Shared) (Q':Unit->Shared->Prop),Q' () s₁->wpAny (model prog w) A (g b) Q' E s₁){R:Option Bool->Shared->Prop}
  (h:∀ h' o2 kZ Bl t2,Heap.SameBut a s.heap h'->h'.get? a=some o2->o2.ExactSet->o2.data=.set kZ Bl t2->Tab led kZ t2->kZ.toList.Perm es1.toList->R (some true) { s with heap:=h' }):
  wpAny (model prog w) A (do
    storeSet a es1 t1
    if (!false && t1.tooFull)=true then do
      g (relayAll t1 es1 (SetTable.grown es1.size)).2.2
      storeSet a (relayAll t1 es1 (SetTable.grown es1.size)).1 (relayAll t1 es1 (SetTable.grown es1.size)).2.1
      pure (some true)
     else pure (some true)) R E s:=by
 refine af (wpAny_storeSet_of ho hd ?_ (by rw [sizeLine_eq]; omega))
 have Na:=cj (Obj.putSet es1 t1) ho (by rw [putSet_of es1 t1 hd]; rfl)
 rw [putSet_of es1 t1 hd] at Na
 have OV:=f9 s.heap a (Obj.putSet es1 t1)
 split
 ·obtain ⟨kZ,t2,gv,er,T2,perm⟩:=T1.Q4 (SetTable.grown es1.size)
  rw [er]
  dsimp only
  have hz2:kZ.size=es1.size:=by rw [<- cg,perm.length_eq,cg]
  refine af (hg _ _ _ ?_)
  refine af (wpAny_storeSet_of Na rfl ?_ (by rw [sizeLine_eq]; omega))
  have OW:=cj (Obj.putSet kZ t2) Na (by rw [putSet_of kZ t2 rfl]; rfl)
  rw [putSet_of kZ t2 rfl] at OW
  exact aE (h _ _ kZ _ t2 (OV.trans (f9 _ a _)) OW hx rfl T2 perm)
 ·exact aE (h _ _ es1 _ t1 OV Na hx rfl T1 (kh _))
theorem add_int{k:Int}{q:Tok}{Q:Bool->Shared->Prop}(hS:Small led s.heap a ns)(hl:ns.length <= 4000)
  (h:∀ b h',Heap.SameBut a s.heap h'->Small led h' a (if k∈ns then ns else ns++[k])->Q b { s with heap:=h' }):wpAny (model prog w) A (setAddHashed a (.int k q) (hashInt k)) Q E s:=by
 obtain ⟨o,es,ep,t,ho,hx,hd,T,hI,hz,nd,mem⟩:=hS
 have hel:=hI.elems (prog:=prog) (w:=w)
 have hb:es.size < scanBound:=by unfold scanBound; omega
 have ZF:(intKind prog w).is k (.int k q)=true:=intKind_is _ _ _ _
 unfold setAddHashed setAddHashedIn
 refine wpAny_holding (af (wpAny_setState_of ho hd T.fits ?_))
 dsimp only
 rw [byScan_of (knd:=intKind prog w) rfl hb hel,if_pos rfl]
 unfold setAddByScan
 refine af (af (wpAny_rule (af (wpAny_setScan_of (knd:=intKind prog w) ZF ho hd T.fits hel ?_))))
 cases hr:es.toList.findIdx? (λ e=>(intKind prog w).is k e.2) with
 | some j =>
  dsimp only
  obtain ⟨hj,Yl,_⟩:=List.findIdx?_eq_some_iff_getElem.mp hr
  have hin:k∈ns:=by
   rw [mem]
   have hm:=gY hj
   obtain ⟨n,c,e3⟩:=hI _ hm
   rw [e3] at Yl hm
   have:k=n:=(intKind prog w).inj _ _ _ Yl (intKind_is _ _ _ _)
   rw [this]
   exact ⟨c,hm⟩
  refine aE (aE ?_)
  exact h false s.heap (oN a s.heap) (by rw [if_pos hin]; exact ⟨o,es,ep,t,ho,hx,hd,T,hI,hz,nd,mem⟩)
 | none =>
  dsimp only
  have hno:=List.findIdx?_eq_none_iff.mp hr
  have DZ:k ∉ ns:=λ hin=>by
   obtain ⟨c,hc⟩:=(mem _).mp hin
   have:=hno _ hc
   rw [intKind_is] at this
   cases this
  obtain ⟨es1,t1,gv,hlay,T1,perm⟩:=T.lay (hashInt k) (.int k q)
  have hz1:es1.size=es.size + 1:=by rw [<- cg,perm.length_eq,aX,cg]; rfl
  rw [hlay]
  dsimp only
  refine af (uS gv ?_)
  have fin:∀ h' o2 kZ Bl t2,Heap.SameBut a s.heap h'->h'.get? a=some o2->o2.ExactSet->o2.data=.set kZ Bl t2->Tab led kZ t2->kZ.toList.Perm es1.toList->Q true { s with heap:=h' }:=λ h' o2 kZ Bl t2 sb g2 x2 d2 T2 p2=>by
   have p3:=p2.trans perm
   refine h true h' sb ?_
   rw [if_neg DZ]
   refine ⟨o2,kZ,Bl,t2,g2,x2,d2,T2,λ e he=>?_,by rw [aX,<- cg,p3.length_eq,aX,cg,hz]; rfl,?_,λ n=>?_⟩
   ·rcases aK.mp (p3.mem_iff.mp he) with he | he
    ·exact hI e he
    ·exact ⟨k,q,aC.mp he⟩
   ·rw [d7]
    exact ⟨nd,by simp,λ x hx' y hy e=>DZ (by rw [<- aC.mp hy,<- e]; exact hx')⟩
   ·rw [aK,aC,mem n]
    constructor
    ·rintro (⟨c,hc⟩ | e)
     ·exact ⟨c,p3.mem_iff.mpr (ki _ hc)⟩
     ·rw [e]; exact ⟨q,p3.mem_iff.mpr (by simp)⟩
    ·rintro ⟨c,hc⟩
     rcases aK.mp (p3.mem_iff.mp hc) with hc | hc
     ·exact .inl ⟨c,hc⟩
     ·rw [aC] at hc
      have:=congrArg Prod.snd hc
      injection this with e1 e2
      exact .inr e1
  split
  ·refine af ?_
   rw [hashByValue_scannable 8 (x:=.int k q) rfl]
   refine aE ?_
   simp only [plainKind,if_true]
   refine uT ho hx hd T1 (by omega) (λ b s₁ Q' hq=>?_) λ h' o2 kZ Bl t2 sb g2 x2 d2 T2 p2=>?_
   ·cases b <;> first | exact aE hq | exact wpAny_rule hq
   ·exact aE (fin h' o2 kZ Bl t2 sb g2 x2 d2 T2 p2)
  ·refine af (aE ?_)
   simp only [if_true]
   refine uT ho hx hd T1 (by omega) (λ b s₁ Q' hq=>?_) λ h' o2 kZ Bl t2 sb g2 x2 d2 T2 p2=>?_
   ·cases b <;> first | exact aE hq | exact wpAny_rule hq
   ·exact aE (fin h' o2 kZ Bl t2 sb g2 x2 d2 T2 p2)
def qM(val:Nat->Int):Nat->List Int
 | 0=>[]
 | i + 1=>if val i∈qM val i then qM val i else qM val i++[val i]
theorem uU(val:Nat->Int):∀ i,(qM val i).length <= i
 | 0=>ay _
 | i + 1=>by
  have:=uU val i
  unfold qM
  split
  ·omega
  ·rw [aX,g6]; omega
theorem uV(val:Nat->Int):∀ (i:Nat) (n:Int),n∈qM val i ↔ ∃ j,j < i /\ n=val j
 | 0,n=>by simp [qM]
 | i + 1,n=>by
  have ih:=uV val i
  unfold qM
  split
  ·rename_i hin
   rw [ih n]
   constructor
   ·rintro ⟨j,hj,e⟩; exact ⟨j,by omega,e⟩
   ·rintro ⟨j,hj,e⟩
    rcases bX j i with hlt | hge
    ·exact ⟨j,hlt,e⟩
    ·have:j=i:=by omega
     subst this
     rw [e]
     exact (ih _).mp hin
  ·rw [aK,aC,ih n]
   constructor
   ·rintro (⟨j,hj,e⟩ | e)
    ·exact ⟨j,by omega,e⟩
    ·exact ⟨i,by omega,e⟩
   ·rintro ⟨j,hj,e⟩
    rcases bX j i with hlt | hge
    ·exact .inl ⟨j,hlt,e⟩
    ·have:j=i:=by omega
     subst this
     exact .inr e
theorem D3{R:Result->Shared->Prop}{I:Addr}{fp wr:List Addr}{G:Array GenState->Array GenState->Prop}{n:Nat}{P:Nat->Value->Prop}{St:Nat->Shared->Prop}(W:WalksS prog w A.in1 I fp wr G n P St)(d:Addr)(hd:d ∉ fp)(Sp:Nat->Heap->Prop)
  (at':∀ i h h',Sp i h->(∀ b o,b ∉ wr->h.get? b=some o->h'.get? b=some o)->Sp i h')
  (add:∀ (E':Value->Shared->Prop) i v (s':Shared) (Q:Bool->Shared->Prop),i < n->P i v->Sp i s'.heap->(∀ b h' tk,s'.toks <= tk->Heap.SameBut d s'.heap h'->Sp (i + 1) h'->Q b { s' with heap:=h',toks:=tk })->wpAny (model prog w) A.in1 (setAdd d v) Q E' s'):
  ∀ (m i:Nat) (s:Shared),n - i=m->i <= n->St i s->Sp i s.heap->(∀ s',Moved (d :: wr) G s s'->Sp n s'.heap->R (.ok (.ret .none)) s') ->
   codeAny (model prog w) A (.builtin "set.update.loop" ⟨[.ref d,.ref I],[]⟩) R s:=by
 have hdw:d ∉ wr:=λ h=>hd (W.sub _ h)
 have up:∀ b∈wr,b∈d :: wr:=λ b hb=>cX _ hb
 intro m
 induction m with
 | zero =>
  intro i s em hi st hS hR
  obtain rfl:i=n:=by omega
  refine codeAny_builtin PyProof.Rows.F.entry_set_update_loop ?_
  rw [f7 PyProof.Rows.F.plain_set_update_loop]
  refine af (m:=pyNext (.ref I)) (W.done s _ _ st λ s' hm=>?_)
  exact aE (hR s' (hm.mono up) (at' _ _ _ hS λ b o hb e=>hm.heap b o hb e))
 | succ m ih =>
  intro i s em hi st hS hR
  have hlt:i < n:=by omega
  refine codeAny_builtin PyProof.Rows.F.entry_set_update_loop ?_
  rw [f7 PyProof.Rows.F.plain_set_update_loop]
  refine af (m:=pyNext (.ref I)) (W.item i s _ _ hlt st λ v s' hP st' hm=>?_)
  have hS':=at' _ _ _ hS λ b o hb e=>hm.heap b o hb e
  refine af (m:=holding [v] (setAdd d v)) (wpAny_holding ?_)
  refine add _ i v s' _ hlt hP hS' λ b h' tk htk sb ZG=>?_
  refine aE ⟨plainId_quiet PyProof.Rows.F.plain_set_update_loop _,ih (i + 1) _ (by omega) hlt (W.frame _ s' _ _ st' htk λ b hb o e=>?_) ZG λ s2 hm2 Q6=>?_⟩
  ·rw [sb.2 b (λ z:b=d=>hd (by rw [<- z]; exact hb))]; exact e
  ·refine hR s2 (Moved.trans W.gtrans ((hm.mono up).then_heap htk λ b o hb e=>?_) hm2) Q6
   rw [sb.2 b (λ z:b=d=>hb (by rw [z]; exact gc))]; exact e
theorem Ht(a:Value)
  (h:Q (.ref s.heap.objs.size) { s with heap:=s.heap.push { cls:=.type "set", dict:=none,data:=.set #[] 0 (.fresh 0 0 (!bG w)) } }):
  codeAny (model prog w) A (.call (.builtin "set.__new__") ⟨[.type "set", a],[]⟩) (wants Q E) s:=by
 refine codeAny_of_tree ?_
 refine af (m:=checkBuiltinCall "set.__new__" ⟨[.type "set", a],[]⟩) (wpAny_of_eq (PySem.F.newCall_set_1 a) (aE ⟨plainId_quiet F.plain_set_new _,codeAny_builtin F.entry_set_new ?_⟩))
 rw [f7 F.plain_set_new]
 unfold Builtin.«set.__new__» Builtin.Frozenset.newClass
 have hsub:=sub_set_self
 obtain ⟨hp,g,d,tk,os⟩:=s
 dsimp only
 wp_walk
 refine wpAny_askSetting (aE ?_)
 dsimp only
 simp only [newObj]
 refine af (wpAny_alloc (aE (aE ?_)))
 exact h
theorem rB:Tab led #[] (.fresh 0 0 led):=⟨rfl,rfl,by show List.Pairwise _ []; exact List.Pairwise.nil,rfl⟩
theorem uW{h:Heap}(e:h.get? a=some { cls:=.type "set", dict:=none,data:=.set #[] 0 (.fresh 0 0 led) }):Small led h a [] :=
 ⟨_,#[],0,_,e,⟨rfl,rfl,rfl⟩,rfl,rB,(λ e he=>by simp at he),rfl,iI,λ n=>by simp⟩
set_option maxHeartbeats 3200000 in
theorem set_list{l:Addr}{items:Array Value}(hh:A.handled=none)(hl:s.heap.IsList l items)(Sp:Nat->Heap->Prop)
  (ZH:∀ h',(∀ b o,s.heap.get? b=some o->h'.get? b=some o)->h'.get? s.heap.objs.size=some { cls:=.type "set", dict:=none,data:=.set #[] 0 (.fresh 0 0 (!bG w)) } -> Sp 0 h')
  (at':∀ i h h',Sp i h->(∀ b o,b <= s.heap.objs.size->h.get? b=some o->h'.get? b=some o)->Sp i h')
  (add:∀ (A':Around) (E':Value->Shared->Prop) i v (s':Shared) (Q:Bool->Shared->Prop),A'.handled=none->A'.units <= A.units + 8->items[i]? = some v->Sp i s'.heap->(∀ b h' tk,s'.toks <= tk->Heap.SameBut s.heap.objs.size s'.heap h'->Sp (i + 1) h'->Q b { s' with heap:=h',toks:=tk })->wpAny (model prog w) A' (setAdd s.heap.objs.size v) Q E' s')
  (h:∀ (h':Heap) (tk:Nat),Sp items.size h'->(∀ b o,b < s.heap.objs.size->s.heap.get? b=some o->h'.get? b=some o)->Q (.ref s.heap.objs.size) { s with heap:=h',toks:=tk }):
  wpAny (model prog w) A (call (.type "set") [.ref l]) Q E s:=by
 obtain ⟨c0,t0,m0⟩:=F.called_set.mro
 have m1:=F.called_set.made
 have m2:=F.called_set.sub
 refine wpAny_call (codeAny_of_tree ?_)
 show wpAny _ _ (callAny (.type "set") ⟨[.ref l],[]⟩) _ _ _
 refine aE ⟨Code.quiet_builtin _ (by decide +kernel),(codeAny_builtin F.entry_type_call ?_)⟩
 rw [Around.under_plain (weight_type_call_type "set" [.ref l] []) rfl]
 have m3:=F.called_set.notType
 have m4:=F.called_set.canCreate
 have m5:=PySem.F.typeCall_set_1 (.ref l)
 repeat (any_goals (first | assumption | wp_step))
 refine codeAny_mono (Ht (.ref l) (E:=E) (Q:=λ obj z=>obj=.ref s.heap.objs.size /\ z={ s with heap:=s.heap.push { cls:=.type "set", dict:=none,data:=.set #[] 0 (.fresh 0 0 (!bG w)) } }) ⟨rfl,rfl⟩) λ r z hr=>?_
 cases r with
 | error e=>exact hr
 | ok fl =>
  cases fl with
  | ret obj =>
   obtain ⟨rfl,rfl⟩:=hr
   generalize hH:s.heap.push { cls:=.type "set", dict:=none,data:=.set #[] 0 (.fresh 0 0 (!bG w)) }=H1
   have g1:H1.get? s.heap.objs.size=some { cls:=.type "set", dict:=none,data:=.set #[] 0 (.fresh 0 0 (!bG w)) }:=by rw [<- hH]; exact fK _ rfl
   have k1:∀ b o,s.heap.get? b=some o->H1.get? b=some o:=λ b o e=>by rw [<- hH]; exact bO _ e
   have z1:H1.objs.size=s.heap.objs.size + 1:=by rw [<- hH,dI]
   have ty:Shared.TypeIs { s with heap:=H1 } (.ref s.heap.objs.size) "set" := ⟨_,g1,rfl⟩
   have m6:=F.called_set.init.lookup
   have m7:=F.called_set.init.bind (.ref s.heap.objs.size)
   repeat (any_goals (first | assumption | wp_step))
   refine codeAny_mono (codeAny_call_builtin (R:=wants (λ r z=>r=.none /\ ∃ h' tk,z={ s with heap:=h',toks:=tk } /\ Sp items.size h' /\ ∀ b o,b < s.heap.objs.size->s.heap.get? b=some o->h'.get? b=some o) E)
    F.called_set.init.plain F.entry_set_init (check_set_init_1 ty ?_)) λ r2 s2 hr2=>?_
   ·have hl1:H1.IsList l items:=by
     obtain ⟨ol,e1,e2,n1,e3⟩:=hl
     exact ⟨ol,k1 _ _ e1,e2,n1,e3⟩
    obtain ⟨ol,e1,e2,n1,e3⟩:=hl
    obtain ⟨cc,dd,xx,ss⟩:=ol
    simp only at e2 e3
    subst e2 e3
    have e4:=k1 _ _ e1
    have f1:=PySem.F.sub_list_set
    have f2:=PySem.F.sub_list_frozenset
    have f3:(Value.type "list" == Value.type "dict")=false:=by decide
    unfold Builtin.«set.__init__» noKeywords Builtin.Frozenset.updateFrom
    generalize hp:pyIter=PI
    wp_walk
    subst hp
    refine wpAny_pyIter_list hl1 (af (wpAny_runValue ?_))
    have hlS:l < s.heap.objs.size:=aA e1
    have n2:l ≠ H1.objs.size:=by rw [z1]; exact aM (jl hlS)
    have n3:s.heap.objs.size ∉ [H1.objs.size,l]:=by
     rw [z1]
     intro z
     rcases aG.mp z with z | z
     ·omega
     ·exact absurd (aC.mp z) (fO hlS)
    refine D3 ((Walks.list (by simp [hh]) _ l n2 items).toS) s.heap.objs.size n3 Sp (λ i h h' q hk=>at' i h h' q λ b o hb e=>hk b o (λ z=>?_) e) (λ E' i v s' Q hi hP ZI hQ=>add _ E' i v s' Q (by simp [hh]) (by simp only [Around.in1]; omega) hP ZI hQ) (items.size - 0) 0 _ (by omega) (aO _) ⟨⟨_,fK _ rfl,rfl,rfl⟩,(hl1.push _)⟩ (ZH _ (λ b o e=>bO _ (k1 _ _ e)) (bO _ g1)) ?_
    ·rw [aC.mp z,z1] at hb
     omega
    intro s3 hm Q6
    obtain ⟨h3,g3,d3,t3,o3⟩:=s3
    obtain rfl:g3=s.gens:=hm.gens
    obtain rfl:d3=s.drawn:=hm.drawn
    obtain rfl:o3=s.os:=hm.os
    refine aE (aE ⟨rfl,h3,t3,rfl,Q6,λ b o hb e=>?_⟩)
    refine hm.heap b o (λ z=>?_) (bO _ (k1 _ _ e))
    rcases aG.mp z with z | z
    ·exact absurd z (aM hb)
    ·rw [aC.mp z,z1] at hb
     omega
   ·cases r2 with
    | error e=>exact hr2
    | ok f2 =>
     cases f2 with
     | ret r =>
      obtain ⟨rfl,h3,t3,rfl,Q6,OX⟩:=hr2
      repeat (any_goals (first | assumption | wp_step))
      exact h _ _ Q6 OX
     | _=>exact hr2.elim
  | _=>exact hr.elim
end
theorem ints_of{l:List Value}(h:∀ v∈l,∃ n k,v=Value.int n k):∃ ns:List Int,IntsAre l ns:=by
 induction l with
 | nil=>exact ⟨[],.nil⟩
 | cons v l ih =>
  obtain ⟨n,k,rfl⟩:=h v (by simp)
  obtain ⟨ns,r⟩:=ih λ u hu=>h u (by simp [hu])
  exact ⟨n :: ns,.cons n k r⟩
theorem Hu{l:List Value}(r:IntsAre l ns):∀ n,n∈ns ↔ ∃ k,Value.int n k∈l:=by
 induction r with
 | nil=>intro n; simp
 | @cons m k l ns _ ih =>
  intro n
  rw [aG,ih n]
  constructor
  ·rintro (e | ⟨c,hc⟩)
   ·rw [e]; exact ⟨k,by simp⟩
   ·exact ⟨c,by simp [hc]⟩
  ·rintro ⟨c,hc⟩
   rcases aG.mp hc with e | hc
   ·cases e; exact .inl rfl
   ·exact .inr ⟨c,hc⟩
theorem Hv:typeLookup (.type "set") "__len__" = pure (some (.builtin "set.__len__")):=by rw [typeLookup_type,builtinLookup_eq_fast]; kernel_rfl
section
variable {prog:Program}{w:World}{A:Around}{E:Value->Shared->Prop}{s:Shared}
theorem D4{l:Addr}{items:Array Value}{val:Nat->Int}(hh:A.handled=none)(hl:s.heap.IsList l items)(hv:∀ (i:Nat) (v:Value),items[i]? = some v->∃ t,v=Value.int (val i) t)(hn:items.size <= 4000)
  (h:∀ (h':Heap) (tk:Nat),Small (!bG w) h' s.heap.objs.size (qM val items.size)->(∀ b o,b < s.heap.objs.size->s.heap.get? b=some o->h'.get? b=some o)->Q (.ref s.heap.objs.size) { s with heap:=h',toks:=tk }):
  wpAny (model prog w) A (call (.type "set") [.ref l]) Q E s:=by
 refine set_list hh hl (λ i h=>Small (!bG w) h s.heap.objs.size (qM val i)) (λ h' _ e=>uW e) (λ i h h' q hk=>q.at' λ o e=>hk _ o (ay _) e) (λ A' E' i v s' Q ZJ _ hi hS hQ=>?_) h
 obtain ⟨t,rfl⟩:=hv i v hi
 unfold setAdd
 refine wpAny_holding (af ((intKind prog w).pyHash (k:=val i) (intKind_is _ _ _ _) ?_))
 have hl:=uU val i
 have hlt:=(gE.mp hi).1
 refine add_int (s:={ s' with toks:=s'.toks + 1 }) hS (by omega) λ b h' sb Q7=>?_
 exact hQ b h' _ (jk _) sb Q7
set_option maxHeartbeats 2000000 in
theorem nq{o:Obj}{t:SetTable}{Q:List Value->Shared->Prop}(hh:A.handled=none)(ho:s.heap.get? a=some o)(hx:o.ExactSet)(hd:o.data=.set es ep t)(T:Tab (!bG w) es t)(hsz:es.size <= 100000)
  (hQ:∀ (s':Shared) (vs:List Value),(∀ b x,s.heap.get? b=some x->s'.heap.get? b=some x)->s'.gens=s.gens->s'.os=s.os->s.heap.objs.size < s'.heap.objs.size->vs.Perm (es.toList.map (·.2))->Q vs s'):
  wpAny (model prog w) A (collect (.ref a)) Q E s:=by
 unfold collect
 refine af (wpAny_runValue (codeAny_builtin F.entry_proto_collect ?_))
 rw [f7 F.plain_proto_collect]
 refine af (m:=newList []) (wpAny_newObj_type (aE ⟨plainId_quiet F.plain_list_iadd _,codeAny_builtin F.entry_list_iadd ?_⟩))
 rw [f7 F.plain_list_iadd]
 show wpAny _ A.in1 (Builtin.List.listExtendWith (.ref s.heap.objs.size) (.ref a) (.ref s.heap.objs.size)) _ _ _
 generalize hH:s.heap.push { cls:=.type "list", data:=.seq ([]:List Value).toArray }=H
 have hz:H.objs.size=s.heap.objs.size + 1:=by rw [<- hH,dI]
 have hk:∀ b x,s.heap.get? b=some x->H.get? b=some x:=λ b x e=>by rw [<- hH]; exact bO _ e
 have hN:H.get? s.heap.objs.size=some { cls:=.type "list", data:=.seq ([]:List Value).toArray }:=by rw [<- hH]; exact fK _ rfl
 have hlt:=aA ho
 unfold Builtin.List.listExtendWith
 refine af (wpAny_typeOf (T := "set") ⟨o,hk _ _ ho,hx.1⟩ ?_)
 have h1:Builtin.List.listSameRef (.ref s.heap.objs.size) (.ref a)=false:=by
  show ((s.heap.objs.size == a):Bool)=false
  exact beq_eq_false_iff_ne.mpr (fO hlt)
 have h2:(Value.type "set" == Value.type "list")=false:=by decide
 have h3:(Value.type "set" == Value.type "tuple")=false:=by decide
 simp only [h1,h2,h3,Bool.or_false,aS,if_false]
 refine af (DY (s:={ s with heap:=H }) (hk _ _ ho) hx hd T hsz λ it H2 d2 fp od St hk2 hit hfp zR W0 st=>af (wpAny_holding ?_))
 have hao:H2.get? a=some o:=hk2 _ _ (hk _ _ ho)
 dsimp only at hk2 hit hfp
 unfold Builtin.List.listLengthHint
 refine af (wpAny_specialOf (T := "set") (v:=.ref a) ⟨o,hao,hx.1⟩ Hv ?_)
 wp_delta
 refine af (wpAny_isInstance (T := "set") (v:=.ref a) (b:=true) ⟨o,hao,hx.1⟩ (by rw [isSubtype_type]; kernel_rfl) ?_)
 refine af (m:=typeOf (.ref a)) (wpAny_typeOf (T := "set") ⟨o,hao,hx.1⟩ (aE ?_))
 rw [if_pos (by decide)]
 have hnf:s.heap.objs.size ∉ fp:=λ hm=>by
  rcases hfp _ hm with e | e
  ·exact absurd e (fO hlt)
  ·rw [hz] at e; exact absurd e (Nat.not_le.mpr (kr _))
 have ZK:od.size <= sizeLine:=by
  have:=zR.length_eq
  rw [cg,cg] at this
  rw [this,sizeLine_eq]
  omega
 have g1:H2.get? s.heap.objs.size=some { cls:=.type "list", data:=.seq ([]:List Value).toArray }:=hk2 _ _ hN
 have g2:=cj (Obj.mapSeq (·.push Value.none)) g1 rfl
 have g3:=cj (Obj.mapSeq (·.pop)) g2 rfl
 have W:=(W0 A.in1 (by simp [hh])).toS
 have st':St 0 ((H2.update s.heap.objs.size (Obj.mapSeq (·.push Value.none))).update s.heap.objs.size (Obj.mapSeq (·.pop))) :=
  (W0 A.in1 (by simp [hh])).frame 0 _ _ st λ b hb o e=>by
   have hne:b ≠ s.heap.objs.size:=λ z=>hnf (by rw [<- z]; exact hb)
   rw [dH _ _ _ _ hne,dH _ _ _ _ hne]
   exact e
 refine af (m:=rule "list.extend.makes-room") (wpAny_rule (af (m:=Builtin.List.listTouch (.ref s.heap.objs.size)) ?_))
 refine af (m:=updateSeq s.heap.objs.size (·.push .none)) (wpAny_updateSeq g1 rfl (wpAny_updateSeq g2 rfl ?_))
 refine aE ⟨plainId_quiet F.plain_extend_loop _,codeAny_extend_loopS W ZK _ hnf _ _ 0 _ _ _ rfl (aO _) st' g3 (ItemsOf.nil _) λ s' acc' c' hm hS' hacc=>?_⟩
 refine af (m:=load s.heap.objs.size) (wpAny_load hS' (aE (hQ s' acc'.toList (λ b x e=>hm.heap b x (λ hb=>?_) ?_) hm.gens hm.os (aA hS') ?_)))
 ·have hl:=aA e
  rcases aG.mp hb with z | z
  ·rw [z] at hl; exact absurd hl (cY _)
  ·rw [aC.mp z] at hl
   rw [hz] at hit
   exact absurd (bz hl (Nat.le_of_succ_le hit)) (cY _)
 ·have hb:=aM (aA e)
  show ((H2.update s.heap.objs.size _).update s.heap.objs.size _).get? b=some x
  rw [dH _ _ _ _ hb,dH _ _ _ _ hb]
  exact hk2 _ _ (hk _ _ e)
 ·have e:acc'.toList=od.toList.map (·.2):=by
   refine List.ext_getElem? λ i=>?_
   rw [bh]
   simp only [dz]
   rcases bX i acc'.size with hi | hi
   ·obtain ⟨e,he,hv⟩:=hacc.2 i acc'[i] (dM hi)
    rw [dM hi,he,hv]
    rfl
   ·rw [oH hi,oH (by rw [<- hacc.1]; exact hi)]
    rfl
  rw [e]
  exact zR.map _
theorem sorted_ints(hh:A.handled=none)(S:Small (!bG w) s.heap a ns)(hns:ns.length < 64)
  (h:∀ (p:Addr) (h':Heap) (d':Drawn) (tk:Nat) (out:Array Value) (c:Nat) (ns':List Int),s.heap.objs.size <= p->(∀ b x,s.heap.get? b=some x->h'.get? b=some x)->h'.get? p=some { cls:=.type "list", data:=.seq out c } -> IntsAre out.toList ns'->(∀ n,n∈ns' ↔ n∈ns)->ns'.Pairwise (· <= ·)->ns'.length=ns.length->Q (.ref p) { s with heap:=h',drawn:=d',toks:=tk }):
  wpAny (model prog w) A (call (.builtin "sorted") [.ref a]) Q E s:=by
 obtain ⟨o,es,ep,t,ho,hx,hd,T,hI0,hz,nd,mem⟩:=S
 refine su kind_sorted plain_sorted entry_sorted (args_sorted1 _) ?_
 unfold Builtin.«sorted»
 refine af (m:=checkCount "sorted" 1 1 _) (aE (af (nq (by simp [hh]) ho hx hd T (by omega) ?_)))
 intro s1 acc k1 g1 o1 yo hp
 obtain ⟨h1,gg,dd,Q8,oo⟩:=s1
 dsimp only at k1 g1 o1 yo
 subst g1 o1
 have hal:acc.length=ns.length:=by rw [hp.length_eq,au,cg,hz]
 have shape:∀ v∈acc,∃ n k,v=Value.int n k:=λ v hv=>by
  obtain ⟨e,he,rfl⟩:=aF.mp (hp.mem_iff.mp hv)
  obtain ⟨n,k,rfl⟩:=hI0 e he
  exact ⟨n,k,rfl⟩
 obtain ⟨ms,hI⟩:=ints_of shape
 have VV:∀ n,n∈ms ↔ n∈ns:=λ n=>by
  rw [Hu hI n,mem n]
  constructor
  ·rintro ⟨k,hk⟩
   obtain ⟨e,he,ee⟩:=aF.mp (hp.mem_iff.mp hk)
   obtain ⟨n',k',rfl⟩:=hI0 e he
   cases ee
   exact ⟨_,he⟩
  ·rintro ⟨k,hk⟩
   exact ⟨k,hp.mem_iff.mpr (aF.mpr ⟨_,hk,rfl⟩)⟩
 refine af (wpAny_newList ?_ (by rw [hal,sizeLine_eq]; omega))
 have h64:acc.length < 64:=by omega
 have gN:(h1.push (seqObj "list" acc.toArray 0)).get? h1.objs.size=some (seqObj "list" acc.toArray 0):=fK _ rfl
 refine af (wpAny_holding (wpAny_call_entry slot_list_sort ⟨_,gN,rfl⟩ entry_list_sort (list_sort_tree gN hI h64 λ out ns' a1 a2 a3=>⟨_,rfl,?_⟩) (args_list_sort _)))
 obtain ⟨c,hc⟩:=sortedHeap_at (h:=h1.push (seqObj "list" acc.toArray 0)) (a:=h1.objs.size) (vs:=acc) (n:=0) (out:=out) gN
 have hle:s.heap.objs.size <= h1.objs.size:=g7 yo
 refine aE ⟨_,rfl,h h1.objs.size _ dd Q8 out c ns' hle (λ b x e=>?_) hc a1 (λ n=>(a2.mem_iff).trans (VV n)) a3 ?_⟩
 ·have hb:=aA (k1 b x e)
  rw [sortedHeap_old (aM hb) (by rw [size_push']; exact jl hb)]
  exact bO _ (k1 b x e)
 ·rw [a2.length_eq,<- hal]
  exact (IntsAre.length hI).symm
end
end SG
namespace SN
open PySem
theorem sZ:∀ {xs ys:List Int},xs.Nodup->(∀ x∈xs,x∈ys)->xs.length <= ys.length
 | [],_,_,_=>aO _
 | x :: xs,ys,h,q=>by
  rw [gf] at h
  have hx:=q x (by simp)
  have:=sZ (ys:=ys.erase x) h.2 λ y hy=>(List.mem_erase_of_ne (λ (e:y=x)=>h.1 (by rw [<- e]; exact hy))).mpr (q y (by simp [hy]))
  rw [List.length_erase_of_mem hx] at this
  have hp:=List.length_pos_of_mem hx
  rw [dZ]
  omega
theorem J9:∀ {ms ns:List Int},ns.Nodup->(∀ n∈ns,n∈ms)->ms.length <= ns.length->ms.Nodup
 | [],_,_,_,_=>iI
 | x :: ms,ns,nd,sub,hl=>by
  rw [dZ] at hl
  by_cases hx:x∈ns
  ·have ih:=J9 (ms:=ms) (ns:=ns.erase x) (nd.erase x) (λ n hn=>by
    obtain ⟨h1,h2⟩:=(List.Nodup.mem_erase_iff nd).mp hn
    rcases aG.mp (sub n h2) with e | h
    ·exact absurd e h1
    ·exact h) (by rw [List.length_erase_of_mem hx]; omega)
   refine gf.mpr ⟨λ hm=>?_,ih⟩
   have:=sZ nd (ys:=ms) λ n hn=>by
    rcases aG.mp (sub n hn) with e | h
    ·rw [e]; exact hm
    ·exact h
   omega
  ·have:=sZ nd (ys:=ms) λ n hn=>by
    rcases aG.mp (sub n hn) with e | h
    ·rw [e] at hn; exact absurd hn hx
    ·exact h
   omega
theorem lt_eq:∀ {xs ys:List Int},xs.Pairwise (· < ·)->ys.Pairwise (· < ·)->(∀ n,n∈xs ↔ n∈ys)->xs=ys
 | [],[],_,_,_=>rfl
 | [],y :: ys,_,_,h=>absurd ((h y).mpr (by simp)) (by simp)
 | x :: xs,[],_,_,h=>absurd ((h x).mp (by simp)) (by simp)
 | x :: xs,y :: ys,hx,hy,h=>by
  rw [l9] at hx hy
  have e:x=y:=by
   rcases aG.mp ((h x).mp (by simp)) with e | h1
   ·exact e
   rcases aG.mp ((h y).mpr (by simp)) with e | h2
   ·exact e.symm
   have a1:=hy.1 x h1
   have a2:=hx.1 y h2
   omega
  subst e
  congr 1
  refine lt_eq hx.2 hy.2 λ n=>⟨λ hn=>?_,λ hn=>?_⟩
  ·rcases aG.mp ((h n).mp (by simp [hn])) with e | h1
   ·have:=hx.1 n hn
    omega
   ·exact h1
  ·rcases aG.mp ((h n).mpr (by simp [hn])) with e | h1
   ·have:=hy.1 n hn
    omega
   ·exact h1
def dB(ns:List Int):List Int:=((List.range 8).filter λ k:Nat=>decide ((k:Int)∈ns)).map λ k:Nat=>(k:Int)
theorem uX(ns:List Int):(dB ns).Pairwise (· < ·):=by
 unfold dB
 rw [ko]
 refine List.Pairwise.imp (λ h=>Int.ofNat_lt.mpr h) (List.Pairwise.sublist (List.filter_sublist) (List.pairwise_lt_range))
theorem jR{ns:List Int}(h:∀ n∈ns,0 <= n /\ n < 8)(n:Int):n∈dB ns ↔ n∈ns:=by
 unfold dB
 simp only [aF,eW,fN,decide_eq_true_eq]
 constructor
 ·rintro ⟨k,⟨_,h2⟩,rfl⟩
  exact h2
 ·intro hn
  obtain ⟨h0,h8⟩:=h n hn
  refine ⟨n.toNat,⟨by omega,?_⟩,by omega⟩
  rw [Int.toNat_of_nonneg h0]
  exact hn
end SN
namespace L2
open PySem PySem.Spec PyProof.Rows
def uY(w:World)(p:Addr)(ns:List Int):Heap->Prop:=λ h=>∃ ms:List Int,SG.Small (!SG.bG w) h p ms /\ ∀ n,n∈ms ↔ n∈ns
theorem pK:∀ {l:List Value} {ns:List Int},IntsAre l ns->Vals (ns.map V.int) l
 | _,_,.nil=>.nil
 | _,_,.cons n t r=>.cons ⟨t,rfl⟩ (pK r)
theorem BT.Dr:PySem.bootBuiltins "set" = some (.type "set"):=by decide +kernel
theorem BT.pL:PySem.bootBuiltins "sorted" = some (.builtin "sorted"):=by decide +kernel
section
variable {X:Cx}{σ:St}{H:Hp}{Q:VK}
theorem Inv.Ym{pins:List (Addr × Obj)}{s:Shared}(I:Inv X pins σ H s)(d':Drawn):Inv X pins σ H { s with drawn:=d' } :=
 ⟨I.ok,I.os,I.bare,I.base,I.loc,I.cell,I.free,I.gh,I.pin,I.hok,I.len⟩
def Ka(K:az)(w:World):List V->Hp->VK->Prop:=λ xs H Q=>∃ (l:Addr) (ns:List Int),xs=[.ref l] /\ bK K H l (ns.map V.int) /\ ns.length <= 4000 /\ ∀ p H',eB H p (.ext (uY w p ns)) H'->Q (.ref p) H'
theorem Bm(hc:X.calm=true):cG X (.type "set") (Ka X.K X.w):=by
 intro pins s σ H xs us Q I r h
 obtain ⟨l,ns,rfl,hl,h4,q⟩:=h
 obtain ⟨u,rfl,ru⟩:=vals1 r
 cases ru
 obtain ⟨vs,rv,⟨ol,n0,e1,e2,e3,e4⟩,_⟩:=I.list hl
 have VW:s.heap.IsList l vs.toArray:=⟨ol,e1,e2,n0,e4⟩
 have hsz:vs.toArray.size=ns.length:=by have:=rv.length; rw [au] at this; rw [aT]; exact this.symm
 have hat:∀ (i:Nat) (n:Int),ns[i]? = some n->ns.getD i 0=n:=λ i n e=>by rw [kg,e]; rfl
 refine SG.D4 (val:=λ i=>ns.getD i 0) (I.ok.hd hc) VW (λ i v hv=>?_) (by omega) λ h' tk hS hk=>?_
 ·have hi:i < ns.length:=by have:=(gE.mp hv).1; omega
  have e5:ns[i]? = some ns[i]:=fM hi
  obtain ⟨u,hu,t,rfl⟩:=rv.get (i:=i) (x:=.int ns[i]) (by rw [bh,e5]; rfl)
  rw [ji,hu] at hv
  cases hv
  rw [hat i _ e5]
  exact ⟨t,rfl⟩
 ·refine ⟨.ref s.heap.objs.size,_,I.laid (t':=tk) (λ b o e=>hk b o (aA e) e) (ay _) (o:=.ext (uY X.w s.heap.objs.size ns)) ⟨⟨_,hS,λ n=>?_⟩,?_,λ h1 h2 hp he=>?_⟩,rfl,q _ _ ⟨I.hok.fresh (ay _),rfl⟩⟩
  ·rw [SG.uV,hsz]
   constructor
   ·rintro ⟨j,hj,rfl⟩
    have e5:ns[j]? = some ns[j]:=fM hj
    rw [hat j _ e5]
    exact gY hj
   ·intro hn
    obtain ⟨j,hj,e5⟩:=o4.mp hn
    refine ⟨j,hj,?_⟩
    rw [hat j n (by rw [fM hj,e5])]
  ·obtain ⟨o,_,_,_,ho,_⟩:=hS
   exact ⟨o,ho⟩
  ·obtain ⟨ms,hS',hm⟩:=hp
   exact ⟨ms,hS'.at' he,hm⟩
def D5(w:World):List V->Hp->VK->Prop:=λ xs H Q=>∃ (p:Addr) (ns:List Int),xs=[.ref p] /\ H p=some (.ext (uY w p ns)) /\ (∀ ms:List Int,ms.Nodup->(∀ n,n∈ms ↔ n∈ns)->ms.length < 64) /\ ∀ (l:List Int) (q:Addr) (H':Hp),l.Pairwise (· < ·)->(∀ n:Int,n∈l ↔ n∈ns)->eB H q (.lst (l.map V.int)) H'->Q (.ref q) H'
theorem yp(hc:X.calm=true):cG X (.builtin "sorted") (D5 X.w):=by
 intro pins s σ H xs us Q I r h
 obtain ⟨p,ns,rfl,hp,hb,q⟩:=h
 obtain ⟨u,rfl,ru⟩:=vals1 r
 cases ru
 obtain ⟨⟨ms,hS,hm⟩,_,_⟩:=I.hok p _ hp
 have nd:ms.Nodup:=by obtain ⟨_,_,_,_,_,_,_,_,_,_,nd,_⟩:=hS; exact nd
 have hml:=hb ms nd hm
 refine SG.sorted_ints (I.ok.hd hc) hS hml λ a h' d' tk out c ns' hle hk ho hI hmem D6 hlen=>?_
 have ZL:ns'.Nodup:=SN.J9 nd (λ n hn=>(hmem n).mpr hn) (by omega)
 have hlt:ns'.Pairwise (· < ·):=(D6.and ZL).imp λ ⟨h1,h2⟩=>by omega
 refine ⟨.ref a,_,(I.Ym d').laid (t':=tk) hk hle (o:=.lst (ns'.map V.int)) ⟨?_,out.toList,c,pK hI,?_⟩,rfl,q ns' _ _ hlt (λ n=>(hmem n).trans (hm n)) ⟨I.hok.fresh hle,rfl⟩⟩
 ·rw [au,sizeLine_eq]; omega
 ·rw [ho,Array.toArray_toList]
theorem Nb{K:az}{w:World}{l:Addr}{ns:List Int}(hl:bK K H l (ns.map V.int))(hb:∀ n∈ns,0 <= n /\ n < 8)(h4:ns.length <= 4)(h:∀ p H',eB H p (.ext (uY w p ns)) H'->Q (.ref p) H'):Ka K w [.ref l] H Q:=⟨l,ns,rfl,hl,by omega,h⟩
theorem Hw{w:World}{p:Addr}{ns:List Int}(hp:H p=some (.ext (uY w p ns)))(hb:∀ n∈ns,0 <= n /\ n < 8)(h:∀ q H',eB H q (.lst ((SN.dB ns).map V.int)) H'->Q (.ref q) H'):D5 w [.ref p] H Q:=by
 refine ⟨p,ns,rfl,hp,λ ms nd hm=>?_,λ l q H' hlt hmem n=>?_⟩
 ·have:=SN.sZ nd (ys:=[0,1,2,3,4,5,6,7]) λ x hx=>by
   obtain ⟨h0,h8⟩:=hb x ((hm x).mp hx)
   have:x=0 \/ x=1 \/ x=2 \/ x=3 \/ x=4 \/ x=5 \/ x=6 \/ x=7:=by omega
   simpa using this
  simp at this
  omega
 ·have e:l=SN.dB ns:=SN.lt_eq hlt (SN.uX ns) λ n=>(hmem n).trans (SN.jR hb n).symm
  rw [e] at n
  exact h q H' n
end
end L2
namespace SN
open PySem PySem.W PyProof.Rows
variable {n i j ep:Nat}{p:Array Nat}{d:Addr}{es:Array DictEntry}{ps:List (Int × Int)}
structure Pl (n:Nat) (p:Array Nat):Prop where
 sz:p.size=n
 pm:p.toList.Perm (List.range n)
theorem Pl.get(P:Pl n p)(hi:i < n):p.toList[i]? = some (p.getD i 0):=by
 have h:i < p.size:=by rw [P.sz]; exact hi
 rw [dz,dM h]
 simp [Array.getD,h]
theorem Pl.lt{n:Nat}{p:Array Nat}(P:Pl n p){i:Nat}(hi:i < n):p.getD i 0 < n:=fN.mp (P.pm.mem_iff.mp (fL (P.get hi)))
theorem Pl.inj(P:Pl n p)(hi:i < n)(hj:j < n)(e:p.getD i 0=p.getD j 0):i=j:=by
 have nd:p.toList.Nodup:=P.pm.nodup_iff.mpr List.nodup_range
 have h1:=P.get hi
 have h2:=P.get hj
 rw [<- e] at h2
 exact (List.getElem?_inj (eU h1).1 nd).mp (h1.trans h2.symm)
theorem Pl.of{q:Array Nat}(P:Pl n p)(h:q.Perm p):Pl n q:=⟨by rw [h.size_eq]; exact P.sz,(Array.perm_iff_toList_perm.mp h).trans P.pm⟩
theorem Pl.start(n:Nat):Pl n (List.toArray (List.range n)):=⟨by simp,kh _⟩
def kv(r:Nat->Int)(p:Array Nat)(i:Nat):Int:=r (p.getD i 0)
def Up(r:Nat->Int)(p:Array Nat)(k:Nat):Prop:=∀ i j,i < j->j < k->kv r p i < kv r p j
def Dn(r:Nat->Int)(p:Array Nat)(k:Nat):Prop:=∀ i j,i < j->j < k->kv r p j < kv r p i
theorem zS{r:Nat->Int}{q:Array Nat}(h:p[i]? = q[j]?):kv r p i=kv r q j:=by
 unfold kv
 rw [Array.getD_eq_getD_getElem?,Array.getD_eq_getD_getElem?,h]
section
variable {cmp:Nat->Nat->(Bool->Shared->Prop)->Shared->Prop}{n:Nat}{r:Nat->Int}{s:Shared}{p:Array Nat}
theorem Pl.ne(P:Pl n p)(inj:∀ i j,i < n->j < n->r i=r j->i=j)(hi:i < n)(hj:j < n)(h:i ≠ j):kv r p i ≠ kv r p j:=λ e=>h (P.inj hi hj (inj _ _ (P.lt hi) (P.lt hj) e))
theorem yq(hc:∀ i j,i < n->j < n->∀ C,C (decide (r i < r j)) s->cmp i j C s)(inj:∀ i j,i < n->j < n->r i=r j->i=j)(P:Pl n p){Q:Nat->Shared->Prop}:∀ f k,1 <= k->k + f <= n->Up r p k ->
  (∀ m,k <= m->m <= k + f->Up r p m->(m < k + f->kv r p m < kv r p (m - 1))->Q m s)->(kas_asc p f k).kasWp cmp Q s
 | 0,k,_,_,u,h=>h k (ay _) (ay _) u λ z=>absurd z (cY _)
 | f + 1,k,h1,hn,u,h=>by
  show cmp (p.getD k 0) (p.getD (k - 1) 0) _ s
  refine hc _ _ (P.lt (by omega)) (P.lt (by omega)) _ ?_
  by_cases hl:r (p.getD k 0) < r (p.getD (k - 1) 0)
  ·rw [decide_eq_true hl]
   exact h k (ay _) (by omega) u λ _=>hl
  ·rw [decide_eq_false hl]
   refine yq hc inj P f (k + 1) (by omega) (by omega) (λ i j hij hj=>?_) λ m a b c d=>h m (by omega) (by omega) c λ z=>d (by omega)
   by_cases hk:j < k
   ·exact u i j hij hk
   ·have e:j=k:=by omega
    subst e
    have ne:=P.ne inj (i:=j) (j:=j - 1) (by omega) (by omega) (by omega)
    have lt:kv r p (j - 1) < kv r p j:=by have:¬ kv r p j < kv r p (j - 1):=hl; omega
    by_cases hi:i=j - 1
    ·rw [hi]; exact lt
    ·exact Int.lt_trans (u i (j - 1) (by omega) (by omega)) lt
theorem zT(hc:∀ i j,i < n->j < n->∀ C,C (decide (r i < r j)) s->cmp i j C s)(inj:∀ i j,i < n->j < n->r i=r j->i=j)(P:Pl n p){Q:Array Nat × Nat × Nat->Shared->Prop}:∀ f k,2 <= k->k + f <= n->Dn r p k ->
  (∀ m,k <= m->m <= k + f->Dn r p m->Q (p,m,0) s)->(kas_desc f p k 0).kasWp cmp Q s
 | 0,k,_,_,u,h=>h k (ay _) (ay _) u
 | f + 1,k,h1,hn,u,h=>by
  show cmp (p.getD k 0) (p.getD (k - 1) 0) _ s
  refine hc _ _ (P.lt (by omega)) (P.lt (by omega)) _ ?_
  by_cases hl:r (p.getD k 0) < r (p.getD (k - 1) 0)
  ·rw [decide_eq_true hl]
   refine zT hc inj P f (k + 1) (by omega) (by omega) (λ i j hij hj=>?_) λ m a b c=>h m (by omega) (by omega) c
   by_cases hk:j < k
   ·exact u i j hij hk
   ·have e:j=k:=by omega
    subst e
    have lt:kv r p j < kv r p (j - 1):=hl
    by_cases hi:i=j - 1
    ·rw [hi]; exact lt
    ·exact Int.lt_trans lt (u i (j - 1) (by omega) (by omega))
  ·rw [decide_eq_false hl]
   show cmp (p.getD (k - 1) 0) (p.getD k 0) _ s
   refine hc _ _ (P.lt (by omega)) (P.lt (by omega)) _ ?_
   have ne:=P.ne inj (i:=k) (j:=k - 1) (by omega) (by omega) (by omega)
   have lt:r (p.getD (k - 1) 0) < r (p.getD k 0):=by have:¬ kv r p k < kv r p (k - 1):=hl; unfold kv at ne this; omega
   rw [decide_eq_true lt]
   exact h k (ay _) (by omega) u
theorem Nc{m:Nat}(P:Pl n p)(hm:m <= n)(d:Dn r p m):Pl n (kas_rev p 0 m) /\ Up r (kas_rev p 0 m) m:=by
 refine ⟨P.of (mirror_perm _ _ _ _),λ i j hij hj=>?_⟩
 have at_:∀ i,i < m->kv r (kas_rev p 0 m) i=kv r p (m - 1 - i):=λ i hi=>zS (by
  unfold kas_rev
  rw [getElem?_mirror_all (by rw [P.sz]; exact hm),if_pos ⟨aO _,hi⟩]
  congr 1
  omega)
 rw [at_ i (by omega),at_ j hj]
 exact d _ _ (by omega) (by omega)
theorem D7(hc:∀ i j,i < n->j < n->∀ C,C (decide (r i < r j)) s->cmp i j C s)(inj:∀ i j,i < n->j < n->r i=r j->i=j)(P:Pl n p){m:Nat}(h1:1 <= m)(hm:m <= n)(d:Dn r p m){Q:Nat × Array Nat->Shared->Prop}
  (h:∀ k q,Pl n q->1 <= k->k <= n->Up r q k->Q (k,q) s):(kas_tail3 m n p).kasWp cmp Q s:=by
 obtain ⟨P',u⟩:=Nc P hm d
 unfold kas_tail3
 rw [KasT.kasWp_bind]
 exact yq hc inj P' _ _ h1 (by omega) u λ k a b c _=>h k _ P' (by omega) (by omega) c
theorem D8(hc:∀ i j,i < n->j < n->∀ C,C (decide (r i < r j)) s->cmp i j C s)(inj:∀ i j,i < n->j < n->r i=r j->i=j)(P:Pl n p)(h2:2 <= n){Q:Nat × Array Nat->Shared->Prop}
  (h:∀ k q,Pl n q->1 <= k->k <= n->Up r q k->Q (k,q) s):(kas_count n p).kasWp cmp Q s:=by
 unfold kas_count
 rw [KasT.kasWp_bind]
 refine yq hc inj P _ _ (ay _) (by omega) (λ i j _ _=>by omega) λ m a b c d=>?_
 by_cases e:m=n
 ·rw [if_pos (by simp [e])]
  exact h m p P a (by omega) c
 rw [if_neg (by simp [e])]
 by_cases g:m > 1
 ·rw [if_pos g]
  show cmp (p.getD 0 0) (p.getD (m - 1) 0) _ s
  refine hc _ _ (P.lt (by omega)) (P.lt (by omega)) _ ?_
  rw [decide_eq_true (show r (p.getD 0 0) < r (p.getD (m - 1) 0) from c 0 (m - 1) (by omega) (by omega))]
  exact h m p P a (by omega) c
 ·rw [if_neg g]
  have e1:m=1:=by omega
  subst e1
  unfold kas_descPart
  rw [KasT.kasWp_bind]
  refine zT hc inj P _ _ (ay _) (by omega) (λ i j hij hj=>?_) λ k a' b' d'=>?_
  ·have e0:i=0:=by omega
   have e1:j=1:=by omega
   subst e0 e1
   exact d (by omega)
  ·exact D7 hc inj P (by omega) (by omega) d' h
theorem up_place(hc:∀ i j,i < n->j < n->∀ C,C (decide (r i < r j)) s->cmp i j C s)(inj:∀ i j,i < n->j < n->r i=r j->i=j)(P:Pl n p){k:Nat}(hk:k < n)(u:Up r p k){Q:Nat->Shared->Prop}:∀ f a b,b - a <= f->a <= b->b <= k->(∀ i,i < a->kv r p i < kv r p k)->(∀ i,b <= i->i < k->kv r p k < kv r p i) ->
  (∀ l,l <= k->(∀ i,i < l->kv r p i < kv r p k)->(∀ i,l <= i->i < k->kv r p k < kv r p i)->Q l s)->(kas_place p k f a b).kasWp cmp Q s
 | 0,a,b,hf,hab,hb,lo,hi,h=>by
  have e:a=b:=by omega
  subst e
  exact h a hb lo hi
 | f + 1,a,b,hf,hab,hb,lo,hi,h=>by
  unfold kas_place
  by_cases g:a >= b
  ·rw [if_pos g]
   have e:a=b:=by omega
   subst e
   exact h a hb lo hi
  ·rw [if_neg g]
   show cmp (p.getD k 0) (p.getD ((a + b) / 2) 0) _ s
   refine hc _ _ (P.lt hk) (P.lt (by omega)) _ ?_
   have ne:=P.ne inj (i:=k) (j:=(a + b) / 2) hk (by omega) (by omega)
   by_cases hl:r (p.getD k 0) < r (p.getD ((a + b) / 2) 0)
   ·rw [decide_eq_true hl]
    have hl':kv r p k < kv r p ((a + b) / 2):=hl
    refine up_place hc inj P hk u f a ((a + b) / 2) (by omega) (by omega) (by omega) lo (λ i h1 h2=>?_) h
    by_cases e:i=(a + b) / 2
    ·rw [e]; exact hl'
    ·exact Int.lt_trans hl' (u _ i (by omega) h2)
   ·rw [decide_eq_false hl]
    have hl':kv r p ((a + b) / 2) < kv r p k:=by have:¬ kv r p k < kv r p ((a + b) / 2):=hl; omega
    refine up_place hc inj P hk u f ((a + b) / 2 + 1) b (by omega) (by omega) hb (λ i h1=>?_) hi h
    by_cases e:i=(a + b) / 2
    ·rw [e]; exact hl'
    ·exact Int.lt_trans (u i _ (by omega) (by omega)) hl'
theorem D9(hc:∀ i j,i < n->j < n->∀ C,C (decide (r i < r j)) s->cmp i j C s)(inj:∀ i j,i < n->j < n->r i=r j->i=j){Q:Array Nat->Shared->Prop}(h:∀ q,Pl n q->Up r q n->Q q s):∀ f k (p:Array Nat),Pl n p->k + f=n->Up r p k->(kas_bin f p k).kasWp cmp Q s
 | 0,k,p,P,e,u=>h p P (by rw [<- e]; exact u)
 | f + 1,k,p,P,e,u=>by
  unfold kas_bin
  rw [KasT.kasWp_bind]
  refine up_place hc inj P (k:=k) (by omega) u k 0 k (by omega) (aO _) (ay _) (λ i hi=>absurd hi (Nat.not_lt_zero _)) (λ i h1 h2=>absurd h2 (by omega)) λ l hl lo hi=>?_
  refine D9 hc inj h f (k + 1) _ (P.of (bubble_perm _ _ _)) (by omega) λ i j hij hj=>?_
  have at_:∀ i,kv r (bubble p k (k - l)) i=if i=l then kv r p k else if l < i /\ i <= k then kv r p (i - 1) else kv r p i:=λ i=>by
   have g:=getElem?_bubble (xs:=p) (src:=k) (by rw [P.sz]; omega) (k - l) (by omega) i
   rw [show k - (k - l)=l by omega] at g
   split at g
   ·rw [if_pos (by assumption)]; exact zS g
   ·rw [if_neg (by assumption)]
    split at g
    ·rw [if_pos (by assumption)]; exact zS g
    ·rw [if_neg (by assumption)]; exact zS g
  rw [at_ i,at_ j]
  repeat' split
  all_goals first
   | (exfalso; omega)
   | exact lo _ (by omega)
   | exact hi _ (by omega) (by omega)
   | exact u _ _ (by omega) (by omega)
theorem zU(hc:∀ i j,i < n->j < n->∀ C,C (decide (r i < r j)) s->cmp i j C s)(inj:∀ i j,i < n->j < n->r i=r j->i=j)(h2:2 <= n){Q:Array Nat->Shared->Prop}(h:∀ q,Pl n q->Up r q n->Q q s):(kas_sort n).kasWp cmp Q s:=by
 unfold kas_sort
 rw [KasT.kasWp_bind]
 refine D8 hc inj (Pl.start n) h2 λ k q P h1 hk u=>?_
 by_cases g:k < n
 ·rw [if_pos g]
  exact D9 hc inj h _ _ q P (by omega) (by rw [Nat.max_eq_left h1]; exact u)
 ·rw [if_neg g]
  have e:k=n:=by omega
  exact h q P (by rw [<- e]; exact u)
end
open PySem.Spec
section
variable {prog:Program}{w:World}{A:Around}{E:Value->Shared->Prop}{s:Shared}
def gD(h:Heap)(d:Addr)(es:Array DictEntry)(ep:Nat):Prop:=∃ o,h.get? d=some o /\ o.ExactDict /\ o.data=.dict es ep
theorem gD.at'{h h':Heap}(x:gD h d es ep)(e:∀ o,h.get? d=some o->h'.get? d=some o):gD h' d es ep:=let ⟨o,ho,r⟩:=x; ⟨o,e _ ho,r⟩
theorem gD.ty(x:gD s.heap d es ep):s.TypeIs (.ref d) "dict" := let ⟨o,ho,hx,_⟩:=x; ⟨o,ho,hx.1⟩
theorem uZ{Q:Value->Shared->Prop}(hs:(d == sysModules)=false)(x:gD s.heap d es ep)
  (hQ:Q (.ref s.heap.objs.size) { s with heap:=s.heap.push { cls:=.type "dict_keyiterator", data:=.fields #[.ref d,.int 0 0,.int es.size 0,.int ep 0] } }):wpAny (model prog w) A (pyIter (.ref d)) Q E s:=by
 have ty:=x.ty
 obtain ⟨o,ho,_,hd⟩:=x
 refine wpAny_pyIter_slot ty F.slot_dict_iter (wpAny_call_entry F.slot_dict_iter ty F.entry_dict_iter ?_ (F.args_dict_iter_1 _))
 unfold Builtin.«dict.__iter__» Builtin.Dict.dictSlotNone
 refine af (af (wpAny_notOrdered_dict ty (show wpAny _ _ (pure (Value.ref d)) _ _ s from aE ?_)))
 show wpAny _ _ (Builtin.Dict.showsAll d >>= _) _ _ s
 unfold Builtin.Dict.showsAll
 rw [hs,if_neg j0]
 refine af (aE (af (wpAny_dictEntries ho hd (af (wpAny_dictEpoch ho hd (af (wpAny_newObj_type (aE ⟨_,rfl, "dict_keyiterator", _,⟨_,fK _ rfl,rfl⟩,F.slot_dict_keyiterator_next.lookup,?_⟩))))))))
 simpa [rawInt] using hQ
theorem u0{it:Addr}{e:DictEntry}{Q:Option Value->Shared->Prop}(hit:s.heap.IsKeyIter it d i es.size ep)(x:gD s.heap d es ep)(he:es[i]? = some e)
  (hQ:∀ h',h'.IsKeyIter it d (i + 1) es.size ep->Heap.SameBut it s.heap h'->Q (some e.key) { s with heap:=h' }):wpAny (model prog w) A (pyNext (.ref it)) Q E s:=by
 have ty:=hit.typeIs
 obtain ⟨o,ho,hc,hf⟩:=hit
 obtain ⟨od,hod,_,qB⟩:=x
 unfold pyNext
 refine af (wpAny_attempt (wpAny_callSpecial?_slot (name:=Str.ofString "__next__") ty sy (wpAny_call_entry sy ty F.entry_dict_keyiterator_next ?_ (F.args_dict_keyiterator_next_1 _))))
 refine af (aE (af (af ?_)))
 first | refine af (wpAny_typeNameOfWhole_keyiter ty (aE (af (wpAny_fieldsOf ho hf ?_)))) | refine af (wpAny_typeNameOf_keyiter ty (aE (af (wpAny_fieldsOf ho hf ?_))))
 rw [show Builtin.Dict_items.ownsTuple "dict_keyiterator" = false by decide]
 simp only [aS,if_false]
 show wpAny _ _ (if (Value.ref d == Value.none)=true then _ else _) _ _ s
 rw [if_neg (show ¬ (Value.ref d == Value.none)=true from j0)]
 refine af (aE (af (wpAny_dictEntries hod qB ?_)))
 rw [if_neg (by simp)]
 refine af (aE (af (wpAny_dictEpoch hod qB ?_)))
 rw [if_neg (by simp)]
 refine aE ?_
 simp only [show ¬ ((i:Int) < 0) by omega,if_false,gT,he]
 refine af ?_
 first | refine af (wpAny_typeNameOfWhole_keyiter ty (aE (af (wpAny_isOneOf_keyiter ty ?_)))) | refine af (wpAny_typeNameOf_keyiter ty (aE (af (wpAny_isOneOf_keyiter ty ?_))))
 show wpAny _ _ (setField (.ref it) 1 (rawInt ((i:Int) + 1)) >>= _) _ _ s
 have uM:(s.heap.update it (Obj.mapFields (·.setIfInBounds 1 (rawInt ((i:Int) + 1))))).IsKeyIter it d (i + 1) es.size ep :=
  ⟨_,cj _ ho (fk (bW hf _)),(iJ ..).trans hc,by rw [bW hf]; simp [rawInt]⟩
 refine af (wpAny_setField ho hf (by simp) (af (wpAny_holding ?_)))
 refine af (wpAny_isOneOf_keyiter (s:={ s with heap:=s.heap.update it (Obj.mapFields (·.setIfInBounds 1 (rawInt ((i:Int) + 1)))) }) uM.typeIs (show wpAny _ _ (pure e.key) _ _ _ from ?_))
 exact aE (aE ⟨_,rfl,aE (hQ _ uM (f9 ..))⟩)
theorem zV{it:Addr}{Q:Option Value->Shared->Prop}(hh:A.handled=none)(hit:s.heap.IsKeyIter it d es.size es.size ep)(x:gD s.heap d es ep)
  (hQ:∀ h',Heap.ExtBut it s.heap h'->Q none { s with heap:=h' }):wpAny (model prog w) A (pyNext (.ref it)) Q E s:=by
 have ty:=hit.typeIs
 obtain ⟨o,ho,hc,hf⟩:=hit
 obtain ⟨od,hod,_,qB⟩:=x
 unfold pyNext
 refine af (wpAny_attempt (wpAny_callSpecial?_slot (name:=Str.ofString "__next__") ty sy (wpAny_call_entry sy ty F.entry_dict_keyiterator_next ?_ (F.args_dict_keyiterator_next_1 _))))
 refine af (aE (af (af ?_)))
 first | refine af (wpAny_typeNameOfWhole_keyiter ty (aE (af (wpAny_fieldsOf ho hf ?_)))) | refine af (wpAny_typeNameOf_keyiter ty (aE (af (wpAny_fieldsOf ho hf ?_))))
 rw [show Builtin.Dict_items.ownsTuple "dict_keyiterator" = false by decide]
 simp only [aS,if_false]
 show wpAny _ _ (if (Value.ref d == Value.none)=true then _ else _) _ _ s
 rw [if_neg (show ¬ (Value.ref d == Value.none)=true from j0)]
 refine af (aE (af (wpAny_dictEntries hod qB ?_)))
 rw [if_neg (by simp)]
 refine af (aE (af (wpAny_dictEpoch hod qB ?_)))
 rw [if_neg (by simp)]
 refine aE ?_
 simp only [show ¬ ((es.size:Int) < 0) by omega,if_false,gT,oH (ay es.size)]
 refine af ?_
 first | refine af (wpAny_typeNameOfWhole_keyiter ty (aE ?_)) | refine af (wpAny_typeNameOf_keyiter ty (aE ?_))
 show wpAny _ _ (setField (.ref it) 0 .none >>= _) _ _ s
 refine af (wpAny_setField ho hf (by simp) (show wpAny _ _ (newExc (.type "StopIteration") [] >>= _) _ _ _ from af ?_))
 simp only [newExc,newTuple]
 refine af (wpAny_newObj_type ?_ (by size_fits))
 refine af (m:=firstArgMember _ _) (wpAny_of_eq (a:=Value.none) (by first | rfl | (simp only [firstArgMember]; rfl)) (wpAny_newObj_type ?_ (by size_fits)))
 simp only [raiseNew]
 refine af (wpAny_handled ?_)
 rw [show A.in1.handled=none from hh]
 refine af (aE (wpAny_throw (af ?_)))
 refine wpAny_isInstance (T := "StopIteration") (b:=true) ⟨_,fK _ rfl,rfl⟩ isSubtype_stop ?_
 exact aE (hQ _ (((f9 ..).extBut.push _).push _))
theorem Bo(hh:A.handled=none)(I d:Addr)(hne:d ≠ I)(es:Array DictEntry)(ep:Nat):Walks prog w A I [I,d] [I] es.size (λ i v=>∃ e,es[i]? = some e /\ v=e.key) (λ i h=>h.IsKeyIter I d i es.size ep /\ gD h d es ep) where
 sub:=λ b hb=>by simp at hb; simp [hb]
 frame:=λ _ _ _ st hk=>⟨st.1.at λ o e=>hk I (by simp) o e,st.2.at' λ o e=>hk d (by simp) o e⟩
 item:=λ i s Q E hi st hQ=>by
  have e1:es[i]? = some es[i]:=dM hi
  refine u0 st.1 st.2 e1 λ h' h1 h2=>hQ _ h' s.toks ⟨_,e1,rfl⟩ ⟨h1,st.2.at' λ o e=>h2.extBut d o hne e⟩ λ b o hb e=>h2.extBut b o (λ h=>hb (by simp [h])) e
 done:=λ s Q E st hQ=>zV hh st.1 st.2 λ h' h1=>hQ h' s.toks λ b o hb e=>h1 b o (λ h=>hb (by simp [h])) e
 self:=λ _ _ _ _ st hQ=>wpAny_pyIter_keyiter st.1 hQ
theorem Hx(lo:(d == sysModules)=false):KdlSrc prog w "dict" d d es.size (λ i v=>∃ e,es[i]? = some e /\ v=e.key) (λ h=>gD h d es ep) where
 type:=λ _ x=>x.ty
 there:=λ _ x=>⟨let ⟨_,ho,_⟩:=x; aA ho,let ⟨_,ho,_⟩:=x; aA ho⟩
 keep:=λ _ _ x hk=>x.at' λ o e=>hk d (.inl rfl) o e
 notList:=by decide
 notTuple:=by decide
 hint:=λ _ _ _ _ x hq=>kdl_hint_dict x.ty hq
 iter:=λ _ s hh x=>⟨_,_,(λ _ _ hq=>uZ lo x hq),Bo hh _ d (let ⟨_,ho,_⟩:=x; aM (aA ho)) es ep,⟨⟨_,fK _ rfl,rfl,rfl⟩,x.at' λ o e=>bO _ e⟩⟩
theorem Ea{ep:Nat}{R:Result->Shared->Prop}(hh:A.handled=none)(lo:(d == sysModules)=false)(x:gD s.heap d es ep)(hz:es.size <= sizeLine)
  (hR:∀ h' tk acc c,(∀ b o,s.heap.get? b=some o->h'.get? b=some o)->h'.get? s.heap.objs.size=some { cls:=.type "list", dict:=none,data:=.seq acc c,slots:=#[] } -> ItemsOf (λ i v=>∃ e,es[i]? = some e /\ v=e.key) acc es.size->R (.ok (.ret (.ref s.heap.objs.size))) { s with heap:=h',toks:=tk }):
  codeAny (model prog w) A (.builtin "proto.collect" ⟨[.ref d],[]⟩) R s:=by
 refine codeAny_builtin F.entry_proto_collect ?_
 rw [f7 F.plain_proto_collect]
 have hlt:d < s.heap.objs.size:=let ⟨_,ho,_⟩:=x; aA ho
 refine af (m:=newList []) (wpAny_newObj_type (aE ⟨plainId_quiet F.plain_list_iadd _,codeAny_builtin F.entry_list_iadd ?_⟩))
 rw [f7 F.plain_list_iadd]
 show wpAny _ A.in1 (Builtin.List.listExtendWith (.ref s.heap.objs.size) (.ref d) (.ref s.heap.objs.size)) _ _ _
 exact kdl_extend (s:={ s with heap:=s.heap.push { cls:=.type "list", data:=.seq ([]:List Value).toArray } }) (R:=R) (Hx lo) hh (x.at' λ o e=>bO _ e) s.heap.objs.size (fO hlt) (fO hlt) _ 0 (fK _ rfl) (λ h' tk acc c hk hS hacc=>hR h' tk acc c (λ b o e=>hk b o (aM (aA e)) (bO _ e)) hS hacc) hz
theorem u5{ep:Nat}{Q:List Value->Shared->Prop}(hh:A.handled=none)(lo:(d == sysModules)=false)(x:gD s.heap d es ep)(hz:es.size <= sizeLine)
  (hQ:∀ h' tk acc,(∀ b o,s.heap.get? b=some o->h'.get? b=some o)->s.heap.objs.size < h'.objs.size->ItemsOf (λ i v=>∃ e,es[i]? = some e /\ v=e.key) acc es.size->Q acc.toList { s with heap:=h',toks:=tk }):wpAny (model prog w) A (collect (.ref d)) Q E s:=by
 unfold collect
 refine af (wpAny_runValue (Ea hh lo x hz λ h' tk acc c hk hS hacc=>?_))
 refine af (m:=load s.heap.objs.size) (wpAny_load hS (aE (hQ h' tk acc hk (aA hS) hacc)))
end
abbrev gm(h:Heap):List Value->List (Int × Int)->Prop:=Paired λ v p=>∃ x o n t u,v=.ref x /\ h.get? x=some o /\ o.cls=.type "tuple" /\ o.data=.seq #[.int p.1 t,.int p.2 u] n
def rk(p:Int × Int):Int:=p.1 * 1000 + p.2
theorem Q9{a b c d:Int}(h1:0 <= b /\ b < 1000)(h2:0 <= d /\ d < 1000):decide (rk (a,b) < rk (c,d))=if a=c then decide (b < d) else decide (a < c):=by
 unfold rk
 dsimp only
 split
 ·rw [decide_eq_decide]; omega
 ·rw [decide_eq_decide]; omega
theorem Nd{p q:Int × Int}(h1:0 <= p.2 /\ p.2 < 1000)(h2:0 <= q.2 /\ q.2 < 1000)(e:rk p=rk q):p=q:=by
 obtain ⟨a,b⟩:=p
 obtain ⟨c,d⟩:=q
 unfold rk at e
 dsimp only at *
 have e1:a=c:=by omega
 have e2:b=d:=by omega
 rw [e1,e2]
section
variable {prog:Program}{w:World}{A:Around}{E:Value->Shared->Prop}{s:Shared}
theorem Hy{x y:Addr}{ox oy:Obj}{n k:Nat}{a b c d:Int}{t1 t2 t3 t4:Tok}{Q:Bool->Shared->Prop}(hx:s.heap.get? x=some ox)(dx:ox.data=.seq #[.int a t1,.int b t2] n)(hy:s.heap.get? y=some oy)(dy:oy.data=.seq #[.int c t3,.int d t4] k)
  (h:Q (if a=c then decide (b < d) else decide (a < c)) s):wpAny (model prog w) A (keyLt' (tuples' true) (.ref x) (.ref y)) Q E s:=by
 refine kat_lt hx dx hy dy (kat_cons (wpAny_eqBool_int ?_))
 by_cases e:a=c
 ·rw [if_pos e] at h
  rw [show (a == c)=true by simpa using e]
  refine kat_yes (kat_cons (wpAny_eqBool_int ?_))
  by_cases e2:b=d
  ·rw [show (b == d)=true by simpa using e2]
   rw [decide_eq_false (by omega)] at h
   exact kat_yes (kat_nil h)
  ·rw [show (b == d)=false by simpa using e2]
   exact kat_no (kat_one _ _ (PyProof.Rows.lt_int h))
 ·rw [if_neg e] at h
  rw [show (a == c)=false by simpa using e]
  exact kat_no (oneLt_int h)
theorem zW{h:Heap}:∀ {vs:List Value} {ps:List (Int × Int)},gm h vs ps->∃ fs:List Value,KatTups h vs fs /\ fs.length=ps.length /\ ∀ v∈fs,∃ i t,v=Value.int i t
 | _,_,.nil=>⟨[],.nil,rfl,λ v hv=>nomatch hv⟩
 | _,_,.cons ⟨x,o,n,t,u,e,h1,h2,h3⟩ r=>by
  obtain ⟨fs,a1,a2,a3⟩:=zW r
  subst e
  refine ⟨_ :: fs,KatTups.cons h1 h2 h3 rfl a1,by simp [a2],λ v hv=>?_⟩
  rcases aG.mp hv with e | hv
  ·exact ⟨_,_,e⟩
  ·exact a3 v hv
theorem yr{h:Heap}:∀ {vs:List Value} {ps:List (Int × Int)} (_:gm h vs ps) {i:Nat} (_:i < ps.length),∃ x o n t u,vs.getD i Value.none=.ref x /\ h.get? x=some o /\ o.data=.seq #[.int (ps.getD i (0,0)).1 t,.int (ps.getD i (0,0)).2 u] n
 | _,_,.cons ⟨x,o,n,t,u,e,h1,h2,h3⟩ r,0,_=>⟨x,o,n,t,u,e,h1,h3⟩
 | _,_,.cons _ r,i + 1,hi=>by
  obtain ⟨x,o,n,t,u,h⟩:=yr r (i:=i) (by simpa using hi)
  exact ⟨x,o,n,t,u,by simpa using h⟩
theorem gm.keep{h h':Heap}{vs:List Value}(x:gm h vs ps)(k:∀ b o,o.cls=.type "tuple" -> h.get? b=some o->h'.get? b=some o):gm h' vs ps:=L2.Paired.AO x λ v p ⟨x,o,n,t,u,e,h1,h2,h3⟩=>⟨x,o,n,t,u,e,k _ _ h2 h1,h2,h3⟩
theorem zX:∀ {vs:List Value},vs.length < 2->(vs.toArray.zip vs.toArray).map (·.2)=List.toArray ((List.toArray (List.range vs.length)).toList.map λ i=>vs.getD i Value.none)
 | [],_=>by simp
 | [v],_=>by simp [List.range_succ]
 | _ :: _ :: _,h=>by simp only [dZ] at h; omega
set_option maxHeartbeats 1000000 in
theorem u7{a:Addr}{vs:List Value}{P:PySem.Fin->Shared->Prop}(ho:s.heap.get? a=some (seqObj "list" vs.toArray n))(hP:gm s.heap vs ps)(hb:∀ p∈ps,0 <= p.2 /\ p.2 < 1000)(nd:ps.Nodup)(h64:ps.length < 64)
  (h:∀ q:Array Nat,Pl ps.length q->(∀ i j,i < j->j < ps.length->rk (ps.getD (q.getD i 0) (0,0)) < rk (ps.getD (q.getD j 0) (0,0)))->P (.done (.ret .none)) { s with heap:=sortedHeap s.heap a vs (List.toArray (q.toList.map λ i=>vs.getD i Value.none)) }):
  wpAny (model prog w) A (Builtin.«list.sort» ⟨[.ref a],[]⟩) P E s:=by
 have hlen:vs.length=ps.length:=hP.length
 have ha:a < s.heap.objs.size:=aA ho
 obtain ⟨e1,Nf⟩:∃ e1,(s.heap.update a (Obj.mapSeq λ _=>#[])).get? a=some (seqObj "list" #[] e1):=⟨_,get?_update_seq ho (λ _=>#[])⟩
 have kp:∀ b o,b ≠ a->s.heap.get? b=some o->(((s.heap.update a (Obj.mapSeq λ _=>#[])).push (seqObj "tuple" vs.toArray 0)).push (seqObj "list" #[] 0)).get? b=some o:=λ b o hba e=>bO _ (bO _ ((dH _ _ _ _ hba).trans e))
 have ho6:(((s.heap.update a (Obj.mapSeq λ _=>#[])).push (seqObj "tuple" vs.toArray 0)).push (seqObj "list" #[] 0)).get? a=some (seqObj "list" #[] e1):=bO _ (bO _ Nf)
 rw [list_sort_plain]
 refine af (listItems_at ho rfl (af (listUpdate_at ho rfl ?_ (by rw [aT,sizeLine_eq]; omega) (aO _))))
 refine af (seqEpoch_at Nf rfl (af (wpAny_newTuple ?_ (by show vs.length <= _; rw [sizeLine_eq]; omega))))
 refine af (wpAny_newList (wpAny_holding ?_) (aO _))
 show wpAny (model prog w) A _ P E { s with heap:=((s.heap.update a (Obj.mapSeq λ _=>#[])).push (seqObj "tuple" vs.toArray 0)).push (seqObj "list" #[] 0) }
 have PG:gm (((s.heap.update a (Obj.mapSeq λ _=>#[])).push (seqObj "tuple" vs.toArray 0)).push (seqObj "list" #[] 0)) vs ps:=hP.keep λ b o hc e=>kp b o (λ z=>by subst z; rw [ho] at e; cases e; exact absurd (show Value.type "list" = .type "tuple" from hc) (by decide)) e
 have uh:∀ out,((((s.heap.update a (Obj.mapSeq λ _=>#[])).push (seqObj "tuple" vs.toArray 0)).push (seqObj "list" #[] 0))).update a (Obj.mapSeq λ _=>out)=sortedHeap s.heap a vs out:=λ _=>rfl
 generalize (((s.heap.update a (Obj.mapSeq λ _=>#[])).push (seqObj "tuple" vs.toArray 0)).push (seqObj "list" #[] 0))=G at *
 dsimp only
 have fin:∀ q:Array Nat,Pl ps.length q->Up (λ i=>rk (ps.getD i (0,0))) q ps.length->P (.done (.ret .none)) { s with heap:=G.update a (Obj.mapSeq λ _=>List.toArray (q.toList.map λ i=>vs.getD i Value.none)) }:=λ q hq u=>by
  rw [uh]
  exact h q hq u
 by_cases h2:vs.toArray.size < 2
 ·rw [if_pos h2,if_pos h2]
  refine af (aE ?_)
  rw [StateT.run_pure]
  refine af (aE (af (seqEpoch_at ho6 rfl (af (listUpdate_at ho6 rfl ?_ (aO _) ?_)))))
  ·simp only [bne_self_eq_false,aS,if_false]
   have:=fin (List.toArray (List.range ps.length)) (Pl.start _) (λ i j hij hj=>by rw [aT] at h2; omega)
   have e:(arrOf (SortSt.mk' general' (vs.toArray.zip vs.toArray) #[] 7 none)).map (·.2)=List.toArray ((List.toArray (List.range ps.length)).toList.map λ i=>vs.getD i Value.none):=by
    rw [<- hlen]
    exact zX (by rw [aT] at h2; exact h2)
   rw [e]
   exact aE this
  ·show ((vs.toArray.zip vs.toArray).map _).size <= _
   rw [Array.size_map,Array.size_zip,aT,sizeLine_eq]
   omega
 ·have h2':2 <= vs.length:=by rw [aT] at h2; omega
  rw [if_neg h2,if_neg h2]
  obtain ⟨fs,k1,k2,k3⟩:=zW PG
  refine af (kat_kind (T:=.type "int") k1 (by omega) (λ v hv=>by obtain ⟨i,t,rfl⟩:=k3 v hv; exact Looks.of_pure rfl) rfl ?_)
  have kd:((Value.type "int") != (Value.type "tuple"))=true:=by decide
  rw [kd]
  refine af (wpAny_mono (kat_run (prog:=prog) (w:=w) (A:=A) (κ:=tuples' true) (vs:=vs) (ks:=vs) (Q:=λ st' s'=>s'={ s with heap:=G } /\ failedOf st'=none /\ ∃ q,Pl ps.length q /\ Up (λ i=>rk (ps.getD i (0,0))) q ps.length /\ (arrOf st').map (·.2)=List.toArray (q.toList.map λ i=>vs.getD i Value.none))
   (G:=λ q s'=>s'={ s with heap:=G } /\ Pl ps.length q /\ Up (λ i=>rk (ps.getD i (0,0))) q ps.length) rfl h2' (by omega) (λ q st' s' _ har hf hg=>⟨hg.1,hf,q,hg.2.1,hg.2.2,kat_snds rfl har⟩) ?_) ?_ λ _ _ e=>e)
  ·rw [hlen]
   refine zU (r:=λ i=>rk (ps.getD i (0,0))) (λ i j hi hj C hC=>?_) (λ i j hi hj e=>?_) (by omega) λ q hq u=>⟨rfl,hq,u⟩
   ·obtain ⟨x,ox,n1,t1,u1,ex,gx,dx⟩:=yr PG hi
    obtain ⟨y,oy,n2,t2,u2,ey,gy,dy⟩:=yr PG hj
    show wpAny (model prog w) A (keyLt' (tuples' true) (vs.getD i Value.none) (vs.getD j Value.none)) C _ _
    rw [ex,ey]
    refine Hy (s:={ s with heap:=G }) gx dx gy dy ?_
    have mi:ps.getD i (0,0)∈ps:=by rw [kg,fM hi]; exact gY hi
    have mj:ps.getD j (0,0)∈ps:=by rw [kg,fM hj]; exact gY hj
    rw [<- Q9 (hb _ mi) (hb _ mj)]
    exact hC
   ·have mi:ps.getD i (0,0)∈ps:=by rw [kg,fM hi]; exact gY hi
    have mj:ps.getD j (0,0)∈ps:=by rw [kg,fM hj]; exact gY hj
    have e2:=Nd (hb _ mi) (hb _ mj) e
    rw [kg,fM hi,kg,fM hj] at e2
    exact (oW nd).mp e2
  ·rintro ⟨⟨⟩,st'⟩ s' ⟨rfl,hf,q,hq,u,eo⟩
   dsimp only
   refine af (seqEpoch_at ho6 rfl (af (listUpdate_at ho6 rfl ?_ (aO _) ?_)))
   ·rw [hf]
    simp only [bne_self_eq_false,aS,if_false]
    rw [eo]
    exact aE (fin q hq u)
   ·rw [eo,aT,au,cg,hq.sz,sizeLine_eq]
    omega
theorem yt{ep:Nat}{Q:Value->Shared->Prop}(hh:A.handled=none)(lo:(d == sysModules)=false)(x:gD s.heap d es ep)(hP:gm s.heap (es.toList.map (·.key)) ps)(hb:∀ p∈ps,0 <= p.2 /\ p.2 < 1000)(nd:ps.Nodup)(h64:ps.length < 64)
  (h:∀ (p:Addr) (h':Heap) (tk c:Nat) (q:Array Nat),s.heap.objs.size <= p->(∀ b x,s.heap.get? b=some x->h'.get? b=some x)->h'.get? p=some { cls:=.type "list", data:=.seq (List.toArray (q.toList.map λ i=>(es.toList.map (·.key)).getD i Value.none)) c } -> Pl ps.length q->(∀ i j,i < j->j < ps.length->rk (ps.getD (q.getD i 0) (0,0)) < rk (ps.getD (q.getD j 0) (0,0)))->Q (.ref p) { s with heap:=h',toks:=tk }):
  wpAny (model prog w) A (call (.builtin "sorted") [.ref d]) Q E s:=by
 have hes:es.size=ps.length:=by have:=hP.length; rw [au,cg] at this; exact this
 refine su kind_sorted plain_sorted entry_sorted (args_sorted1 _) ?_
 unfold Builtin.«sorted»
 refine af (m:=checkCount "sorted" 1 1 _) (aE (af (u5 (by simp [hh]) lo x (by rw [hes,sizeLine_eq]; omega) ?_)))
 intro h1 Q8 acc k1 yo items
 have Ng:acc.toList=es.toList.map (·.key):=by
  apply List.ext_getElem?
  intro i
  rcases bX i es.size with hi | hi
  ·have hi':i < acc.size:=by rw [items.1]; exact hi
   obtain ⟨e,he,ee⟩:=items.2 i acc[i] (dM hi')
   rw [dz,dM hi',bh,dz,he,ee]
   rfl
  ·rw [gX (by rw [cg,items.1]; exact hi),gX (by rw [au,cg]; exact hi)]
 rw [Ng]
 have hvl:(es.toList.map (·.key)).length=ps.length:=hP.length
 have ZM:gm h1 (es.toList.map (·.key)) ps:=hP.keep λ b o _ e=>k1 b o e
 generalize es.toList.map (·.key)=vs at *
 refine af (wpAny_newList ?_ (by rw [hvl,sizeLine_eq]; omega))
 have gN:(h1.push (seqObj "list" vs.toArray 0)).get? h1.objs.size=some (seqObj "list" vs.toArray 0):=fK _ rfl
 refine af (wpAny_holding (wpAny_call_entry slot_list_sort ⟨_,gN,rfl⟩ entry_list_sort (u7 gN (ZM.keep λ b o _ e=>bO _ e) hb nd h64 λ q hq u=>⟨_,rfl,?_⟩) (args_list_sort _)))
 obtain ⟨c,hc⟩:=sortedHeap_at (h:=h1.push (seqObj "list" vs.toArray 0)) (a:=h1.objs.size) (vs:=vs) (n:=0) (out:=List.toArray (q.toList.map λ i=>vs.getD i Value.none)) gN
 refine aE ⟨_,rfl,h h1.objs.size _ Q8 c q (g7 yo) (λ b x e=>?_) hc hq u⟩
 have hb:=aA (k1 b x e)
 rw [sortedHeap_old (aM hb) (by rw [size_push']; exact jl hb)]
 exact bO _ (k1 b x e)
end
end SN
namespace L2
open PySem PySem.Spec PyProof.Rows
variable {p q:Int × Int}{a b:Addr}{ps:List (Int × Int)}
abbrev jA(H:Hp):List V->List (Int × Int)->Prop:=Paired λ v p=>∃ a,v=.ref a /\ H a=some (.tup [.int p.1,.int p.2])
theorem jB{α β:Type}{F:α->β->Prop}:∀ {l₁:List α} {l₂:List β},Paired F l₁ l₂->∀ {i:Nat} {x:α},l₁[i]? = some x->∃ y,l₂[i]? = some y /\ F x y
 | _,_,.cons (b:=b) h _,0,x,e=>⟨b,rfl,by simp only [List.getElem?_cons_zero,Option.some.injEq] at e; rw [<- e]; exact h⟩
 | _,_,.cons _ t,i + 1,x,e=>by simpa using jB t (i:=i) (x:=x) (by simpa using e)
def qC(p:Int × Int):List Key:=[.inl p.1,.inl p.2]
theorem Hz(e:qC p=qC q):p=q:=by
 obtain ⟨a,b⟩:=p
 obtain ⟨c,d⟩:=q
 unfold qC at e
 dsimp only at e
 injection e with e1 e2
 injection e1 with e1
 injection e2 with e2 _
 injection e2 with e2
 rw [e1,e2]
section
variable {X:Cx}{pins:List (Addr × Obj)}{σ:St}{H:Hp}{s:Shared}{Q:VK}
theorem Inv.pair(I:Inv X pins σ H s)(h:H a=some (.tup [.int p.1,.int p.2])):∃ o n t u,s.heap.get? a=some o /\ o.cls=.type "tuple" /\ o.data=.seq #[.int p.1 t,.int p.2 u] n:=by
 obtain ⟨_,its,r,o,h1,h2,n,h3⟩:=(show bT X.prog X.w H s.heap a (.tup [.int p.1,.int p.2]) from I.hok a _ h)
 cases r with
 | cons r1 r =>
  cases r with
  | cons r2 r =>
   cases r
   obtain ⟨t,rfl⟩:=r1
   obtain ⟨u,rfl⟩:=r2
   exact ⟨o,n,t,u,h1,h2,h3⟩
def Gj(h:Heap)(p:Int × Int):Value->Bool
 | .ref a=>match h.get? a with
  | some o=>match o.data with
   | .seq its _=>match its.toList with
    | [.int i _,.int j _]=>decide ((i,j)=p)
    | _=>false
   | _=>false
  | none=>false
 | _=>false
theorem Eb{h:Heap}{o:Obj}{n:Nat}{t u:Tok}(e:h.get? a=some o)(d:o.data=.seq #[.int p.1 t,.int p.2 u] n):Gj h q (.ref a)=decide (p=q):=by
 unfold Gj
 dsimp only
 rw [e]
 dsimp only
 rw [d]
theorem Bp{A:Around}{oa ob:Obj}{n m:Nat}{t1 t2 u1 u2:Tok}(ea:s.heap.get? a=some oa)(ca:oa.cls=.type "tuple")(da:oa.data=.seq #[.int p.1 t1,.int p.2 t2] n)(eb:s.heap.get? b=some ob)(cb:ob.cls=.type "tuple")(db:ob.data=.seq #[.int q.1 u1,.int q.2 u2] m)(hu:A.units + 1 < cLine):
  SeqAt.EqAt A s (.ref a) (.ref b) (decide (p=q)):=by
 have ra:Reads s.heap (.ref a) (.tuple [.int p.1,.int p.2]) _:=.tuple ea ca da (by simpa using ReadsAll.cons (.int p.1 t1) (.cons (.int p.2 t2) .nil))
 have rb:Reads s.heap (.ref b) (.tuple [.int q.1,.int q.2]) _:=.tuple eb cb db (by simpa using ReadsAll.cons (.int q.1 u1) (.cons (.int q.2 u2) .nil))
 have e:PyData.eqv (.tuple [.int p.1,.int p.2]) (.tuple [.int q.1,.int q.2])=decide (p=q):=by
  obtain ⟨a,b⟩:=p
  obtain ⟨c,d⟩:=q
  show ((a == c) && ((b == d) && true))=_
  by_cases h1:a=c
  ·by_cases h2:b=d
   ·subst h1 h2; simp
   ·simp [h2]
  ·simp [h1]
 rw [<- e]
 exact SeqAt.eqAt_reads _ _ A s _ _ _ _ ra rb rfl rfl hu
theorem tw(I:Inv X pins σ H s)(q:Int × Int):∀ {xs:List V} {ps:List (Int × Int)} {us:List Value},jA H xs ps->Vals xs us->us.any (Gj s.heap q)=decide (q∈ps)
 | _,_,_,.nil,.nil=>by simp
 | _,_,_,.cons (b:=p) (l₂:=ps) ⟨a,e,h⟩ r,.cons rv rs=>by
  subst e
  cases rv
  obtain ⟨o,n,t,u,h1,h2,h3⟩:=I.pair h
  rw [gU,Eb h1 h3,tw I q r rs]
  by_cases e:p=q
  ·simp [e]
  ·have e':¬ q=p:=λ z=>e z.symm
   simp [e,e']
theorem yv(I:Inv X pins σ H s){A:Around}(hu:A.units + 1 < cLine){b:Addr}{q:Int × Int}(hb:H b=some (.tup [.int q.1,.int q.2])):∀ {xs:List V} {ps:List (Int × Int)} {us:List Value},jA H xs ps->Vals xs us->∀ u∈us,SeqAt.EqAt A s u (.ref b) (Gj s.heap q u)
 | _,_,_,.nil,.nil=>λ u hu=>nomatch hu
 | _,_,_,.cons ⟨a,e,h⟩ r,.cons rv rs=>λ u hm=>by
  rcases aG.mp hm with z | z
  ·subst z e
   cases rv
   obtain ⟨o,n,t,u,h1,h2,h3⟩:=I.pair h
   obtain ⟨o',n',t',u',ZN,h2',h3'⟩:=I.pair hb
   rw [Eb h1 h3]
   exact Bp h1 h2 h3 ZN h2' h3' hu
  ·exact yv I hu hb r rs u z
def Bq(K:az)(neg:Bool):R2:=λ x y H Q=>∃ (b l:Addr) (q:Int × Int) (xs:List V) (ps:List (Int × Int)),x=.ref b /\ y=.ref l /\ H b=some (.tup [.int q.1,.int q.2]) /\ bK K H l xs /\ jA H xs ps /\ Q (.bl (if neg then !decide (q∈ps) else decide (q∈ps))) H
theorem yw(hu:X.A.units + 64 < cLine):jf X (compareOp .In) (Bq X.K false):=by
 intro pins s σ H x y v u Q I rx ry h
 obtain ⟨b,l,q,xs,ps,rfl,rfl,hb,hl,hp,k⟩:=h
 cases rx
 cases ry
 obtain ⟨its,r,pl,hz⟩:=I.list hl
 refine SeqAt.in_listAt (Gj s.heap q) pl.isList (λ w hw=>yv I (by show X.A.units + 1 + 1 < cLine; omega) hb hp r w (by simpa using hw)) ⟨.bl _,H,I,rfl,?_⟩
 rw [show its.toArray.any (Gj s.heap q)=its.any (Gj s.heap q) by simp,tw I q hp r]
 exact k
theorem Br(hu:X.A.units + 64 < cLine):jf X (compareOp .NotIn) (Bq X.K true):=by
 intro pins s σ H x y v u Q I rx ry h
 obtain ⟨b,l,q,xs,ps,rfl,rfl,hb,hl,hp,k⟩:=h
 cases rx
 cases ry
 obtain ⟨its,r,pl,hz⟩:=I.list hl
 refine SeqAt.notIn_listAt (Gj s.heap q) pl.isList (λ w hw=>yv I (by show X.A.units + 1 + 1 < cLine; omega) hb hp r w (by simpa using hw)) ⟨.bl _,H,I,rfl,?_⟩
 rw [show its.toArray.any (Gj s.heap q)=its.any (Gj s.heap q) by simp,tw I q hp r]
 exact k
theorem zY{K:az}(e:X.K=K)(hu:X.A.units + 64 < cLine):jf X (compareOp .In) (Bq K false):=e ▸ yw hu
theorem yx{K:az}(e:X.K=K)(hu:X.A.units + 64 < cLine):jf X (compareOp .NotIn) (Bq K true):=e ▸ Br hu
def Ec:List V->Hp->VK->Prop:=λ xs H Q=>∃ (d:Addr) (ps:List (Int × Int)) (f:Int × Int->V),xs=[.ref d] /\ H d=some (.dT (ps.map λ p=>(qC p,f p))) /\ (∀ p∈ps,0 <= p.2 /\ p.2 < 1000) /\ ps.length < 64 /\
 ∀ l us qs H',eB H l (.lst us) H'->jA H us qs->qs.Perm ps->qs.Pairwise (λ p q=>SN.rk p < SN.rk q)->Q (.ref l) H'
theorem range_getD{α:Type}(d:α):∀ xs:List α,(List.range xs.length).map (λ i=>xs.getD i d)=xs:=λ xs=>by
 apply List.ext_getElem?
 intro i
 rw [bh]
 rcases bX i xs.length with h | h
 ·rw [List.getElem?_range h]; simp [h]
 ·rw [gX (by simpa using h),gX h]; rfl
theorem yy(hc:X.calm=true):cG X (.builtin "sorted") Ec:=by
 intro pins s σ H xs us Q I r h
 obtain ⟨d,ps,f,rfl,hd,hb,h64,k⟩:=h
 obtain ⟨u,rfl,ru⟩:=vals1 r
 cases ru
 obtain ⟨z,lo,ys,rel,o,es,ep,h1,h2,h3,h4,h5⟩:=(show bT X.prog X.w H s.heap d (.dT (ps.map λ p=>(qC p,f p))) from I.hok d _ hd)
 have hkeys:es.toList.map (·.key)=(ys.map (·.2.1)).map Value.ref:=by
  rw [h4,eV,eV]
  rfl
 have hat:∀ {ps:List (Int × Int)} {ys:List (List Key × Addr × Value)},Paired (λ (p:List Key × V) (q:List Key × Addr × Value)=>p.1=q.1 /\ H q.2.1=some (.tup (p.1.map kV)) /\ RelV p.2 q.2.2) (ps.map λ p=>(qC p,f p)) ys->Paired (λ (a:Addr) (p:Int × Int)=>H a=some (.tup [.int p.1,.int p.2])) (ys.map (·.2.1)) ps /\ ys.map (·.1)=ps.map qC:=by
  intro ps
  induction ps with
  | nil=>intro ys r; cases r; exact ⟨.nil,rfl⟩
  | cons p ps ih =>
   intro ys r
   cases r with
   | cons hq t =>
    obtain ⟨a1,a2⟩:=ih t
    exact ⟨.cons hq.2.1 a1,by rw [bR,bR,a2,<- hq.1]⟩
 obtain ⟨Nh,VX⟩:=hat rel
 have nd:ps.Nodup:=by
  rw [VX] at h5
  exact (ko.mp h5).imp λ h e=>h (by rw [e])
 have hP:SN.gm s.heap (es.toList.map (·.key)) ps:=by
  rw [hkeys]
  have go:∀ {as:List Addr} {ps:List (Int × Int)},Paired (λ (a:Addr) (p:Int × Int)=>H a=some (.tup [.int p.1,.int p.2])) as ps->SN.gm s.heap (as.map Value.ref) ps:=by
   intro as ps r
   induction r with
   | nil=>exact .nil
   | cons h _ ih =>
    obtain ⟨o,n,t,u,a1,a2,a3⟩:=I.pair h
    exact .cons ⟨_,o,n,t,u,rfl,a1,a2,a3⟩ ih
  exact go Nh
 have u9:=Nh.length
 refine SN.yt (I.ok.hd hc) lo ⟨o,h1,h2,h3⟩ hP hb nd h64 λ p h' tk c q hle hk ho hq hup=>?_
 rw [hkeys] at ho
 generalize hA:ys.map (·.2.1)=as at *
 have hget:∀ i,i < ps.length->(as.map Value.ref).getD i Value.none=Value.ref (as.getD i 0) /\ H (as.getD i 0)=some (.tup [.int (ps.getD i (0,0)).1,.int (ps.getD i (0,0)).2]):=λ i hi=>by
  have hi':i < as.length:=by omega
  obtain ⟨b,hb1,hb2⟩:=jB Nh (i:=i) (x:=as[i]) (fM hi')
  simp only [kg,bh,fM hi',hb1,Option.map_some,Option.getD_some]
  exact ⟨trivial,hb2⟩
 have hmem:∀ i∈q.toList,i < ps.length:=λ i hi=>fN.mp (hq.pm.mem_iff.mp hi)
 have Ra:∀ {l:List Nat},(∀ i∈l,i < ps.length)->Vals (l.map λ i=>V.ref (as.getD i 0)) (l.map λ i=>(as.map Value.ref).getD i Value.none) /\ jA H (l.map λ i=>V.ref (as.getD i 0)) (l.map λ i=>ps.getD i (0,0)):=by
  intro l
  induction l with
  | nil=>intro _; exact ⟨.nil,.nil⟩
  | cons i l ih =>
   intro hl
   obtain ⟨a1,a2⟩:=ih λ j hj=>hl j (cX _ hj)
   obtain ⟨b1,b2⟩:=hget i (hl i (by simp))
   rw [bR,bR,bR]
   refine ⟨.cons ?_ a1,.cons ⟨_,rfl,b2⟩ a2⟩
   rw [b1]
   rfl
 obtain ⟨v1,v2⟩:=Ra hmem
 refine ⟨.ref p,_,I.laid (t':=tk) hk hle (o:=.lst (q.toList.map λ i=>V.ref (as.getD i 0))) ⟨?_,_,c,v1,ho⟩,rfl,k p _ (q.toList.map λ i=>ps.getD i (0,0)) _ ⟨I.hok.fresh hle,rfl⟩ v2 ?_ ?_⟩
 ·rw [au,cg,hq.sz,sizeLine_eq]; omega
 ·have:=hq.pm.map λ i=>ps.getD i (0,0)
  rw [range_getD] at this
  exact this
 ·rw [ko,jj]
  intro i j hi hj hij
  have ZQ:q.toList.length=ps.length:=by rw [cg,hq.sz]
  have g1:=hq.get (i:=i) (by omega)
  have g2:=hq.get (i:=j) (by omega)
  rw [fM hi] at g1
  rw [fM hj] at g2
  rw [Option.some.inj g1,Option.some.inj g2]
  exact hup i j hij (by omega)
end
section
variable {K:az}{nx bk ct:St->Hp->Prop}{rt:VK}{σ:St}{H:Hp}{Q:VK}
theorem zZ{l:Addr}{xs:List V}(hb:H b=some (.tup [.int q.1,.int q.2]))(hl:bK K H l xs)(hp:jA H xs ps)(h:Q (.bl (decide (q∈ps))) H):Bq K false (.ref b) (.ref l) H Q:=⟨b,l,q,xs,ps,rfl,rfl,hb,hl,hp,h⟩
theorem Ed{l:Addr}{xs:List V}(hb:H b=some (.tup [.int q.1,.int q.2]))(hl:bK K H l xs)(hp:jA H xs ps)(h:Q (.bl (!decide (q∈ps))) H):Bq K true (.ref b) (.ref l) H Q:=⟨b,l,q,xs,ps,rfl,rfl,hb,hl,hp,h⟩
theorem HA{d:Addr}{f:Int × Int->V}(hd:H d=some (.dT (ps.map λ p=>(qC p,f p))))(hb:∀ p∈ps,0 <= p.2 /\ p.2 < 1000)(h64:ps.length < 64)
  (h:∀ l us qs H',eB H l (.lst us) H'->jA H us qs->qs.Perm ps->qs.Pairwise (λ p q=>SN.rk p < SN.rk q)->Q (.ref l) H'):Ec [.ref d] H Q:=⟨d,ps,f,rfl,hd,hb,h64,h⟩
theorem HB(h:∀ p H',eB H p (.dT []) H'->Q (.ref p) H'):Di σ H Q:=λ p hp=>h p _ ⟨hp,rfl⟩
theorem Rb{kvs:List (List Key × V)}{k:List Key}{v:V}{R:Hp->Prop}(hd:H a=some (.dT kvs))(hb:H b=some (.tup (k.map kV)))(hz:kvs.length <= 1000000)(h:∀ H',lX H a (.dT (putK kvs k v)) H'->R H'):VR v (.ref a) (.ref b) H R :=
 ⟨a,_,rfl,uA.t hd hb (by rw [sizeLine_eq]; omega),h _ rfl⟩
theorem Ni{kvs:List (Key × V)}{i:Int}(hd:H a=some (.dK kvs))(h:Q (.bl (!(iw kvs (.inl i)).isSome)) H):QY (.int i) (.ref a) H Q:=⟨a,_,rfl,.inl ⟨kvs,.inl i,.inl hd,rfl,rfl⟩,h⟩
end
section
variable {X:Cx}{K:az}{w:World}
end
section
variable {prog:Program}{w:World}{A:Around}{E:Value->Shared->Prop}{s:Shared}
end
section
variable {X:Cx}{tg:Expr}
end
section
variable {K:az}{nx bk ct:St->Hp->Prop}{rt:VK}{σ:St}{H:Hp}{Q:VK}{te:TE}
end
end L2
namespace HM
open PySem PySem.Spec PyProof.Rows
variable {h h':Heap}{k y:bf}{v:Value}{a x d:Addr}{Q:Bool->Shared->Prop}{n:Nat}{t:SetTable}{led:Bool}
abbrev dD:=Option (Int × Int)
abbrev bf:=Int × Option (Int × Int)
def d9(h:Heap):dD->Value->Prop
 | none,v=>∃ t,v=.str "mark" t
 | some p,v=>∃ a o n t u,v=.ref a /\ h.get? a=some o /\ o.cls=.type "tuple" /\ o.data=.seq #[.int p.1 t,.int p.2 u] n
def bB(h:Heap)(k:bf)(a:Addr):Prop:=∃ o n t v,h.get? a=some o /\ o.cls=.type "tuple" /\ o.data=.seq #[.int k.1 t,v] n /\ d9 h k.2 v
def jd:dD->PyData
 | none=>.str "mark"
 | some p=>.tuple [.int p.1,.int p.2]
def qN(k:bf):PyData:=.tuple [.int k.1,jd k.2]
theorem HC:PyData.strOk "mark" = true:=by decide +kernel
theorem nX(k:dD):(jd k).canLay0=true:=by cases k <;> simp [jd,PyData.canLay0,PyData.canLayAll0,HC]
theorem z6(k:bf):(qN k).canLay0=true:=by simp [qN,PyData.canLay0,PyData.canLayAll0,nX]
theorem mL(k:dD):(jd k).depth <= 1:=by cases k <;> simp [jd,PyData.depth,PyData.depthAll]
theorem Bs(k:bf):(qN k).depth <= 2:=by
 have:=mL k.2
 simp only [qN,PyData.depth,PyData.depthAll]
 omega
theorem Ef(p q:Int × Int):PyData.eqv (.tuple [.int p.1,.int p.2]) (.tuple [.int q.1,.int q.2])=decide (p=q):=by
 obtain ⟨a,b⟩:=p
 obtain ⟨c,d⟩:=q
 show ((a == c) && ((b == d) && true))=_
 by_cases h1:a=c
 ·by_cases h2:b=d
  ·subst h1 h2; simp
  ·simp [h2]
 ·simp [h1]
theorem tD(x y:dD):PyData.eqv (jd x) (jd y)=decide (x=y):=by
 cases x with
 | none =>
  cases y with
  | none=>show (("mark" : Str) == "mark")=_; simp
  | some q=>simp [jd,PyData.eqv]
 | some p =>
  cases y with
  | none=>simp [jd,PyData.eqv]
  | some q =>
   show PyData.eqv (.tuple [.int p.1,.int p.2]) (.tuple [.int q.1,.int q.2])=_
   rw [Ef]
   by_cases e:p=q
   ·simp [e]
   ·simp [e]
theorem HD(x y:bf):PyData.eqv (qN x) (qN y)=decide (x=y):=by
 obtain ⟨p,a⟩:=x
 obtain ⟨q,b⟩:=y
 show ((p == q) && (PyData.eqv (jd a) (jd b) && true))=_
 rw [tD]
 by_cases h1:p=q
 ·by_cases h2:a=b
  ·subst h1 h2; simp
  ·simp [h2]
 ·simp [h1]
theorem d9.reads{k:dD}(x:d9 h k v):Reads h v (jd k) []:=by
 cases k with
 | none=>obtain ⟨t,rfl⟩:=x; exact .str _ _
 | some p =>
  obtain ⟨a,o,n,t,u,rfl,h1,h2,h3⟩:=x
  exact .tuple h1 h2 h3 (by simpa using ReadsAll.cons (.int p.1 t) (.cons (.int p.2 u) .nil))
theorem bB.reads(x:bB h k a):Reads h (.ref a) (qN k) []:=by
 obtain ⟨o,n,t,v,h1,h2,h3,h4⟩:=x
 exact .tuple h1 h2 h3 (by simpa using ReadsAll.cons (.int k.1 t) (.cons h4.reads .nil))
theorem d9.stay{k:dD}(x:d9 h k v)(e:∀ b o vs n,o.cls=.type "tuple" -> o.data=.seq vs n->h.get? b=some o->h'.get? b=some o):d9 h' k v:=by
 cases k with
 | none=>exact x
 | some p =>
  obtain ⟨a,o,n,t,u,e1,h1,h2,h3⟩:=x
  exact ⟨a,o,n,t,u,e1,e _ _ _ _ h2 h3 h1,h2,h3⟩
theorem bB.stay(x:bB h k a)(e:∀ b o vs n,o.cls=.type "tuple" -> o.data=.seq vs n->h.get? b=some o->h'.get? b=some o):bB h' k a:=by
 obtain ⟨o,n,t,v,h1,h2,h3,h4⟩:=x
 exact ⟨o,n,t,v,e _ _ _ _ h2 h3 h1,h2,h3,h4.stay e⟩
theorem d9.inj{x y:dD}(a:d9 h x v)(b:d9 h y v):x=y:=by
 cases x with
 | none =>
  obtain ⟨t,rfl⟩:=a
  cases y with
  | none=>rfl
  | some q=>obtain ⟨_,_,_,_,_,e,_⟩:=b; cases e
 | some p =>
  obtain ⟨a1,o,n,t,u,rfl,h1,h2,h3⟩:=a
  cases y with
  | none=>obtain ⟨_,e⟩:=b; cases e
  | some q =>
   obtain ⟨a2,o2,n2,t2,u2,e,g1,g2,g3⟩:=b
   cases e
   rw [h1] at g1
   cases g1
   rw [h3] at g3
   have e1:=congrArg Array.toList (Data.seq.inj g3).1
   simp only [List.cons.injEq,Value.int.injEq] at e1
   obtain ⟨⟨e1,_⟩,⟨e2,_⟩,_⟩:=e1
   exact congrArg some (Prod.ext e1 e2)
theorem bB.inj{x:bf}(hx:bB h x a)(hy:bB h y a):x=y:=by
 obtain ⟨o,n,t,v,h1,h2,h3,h4⟩:=hx
 obtain ⟨o2,n2,t2,v2,g1,g2,g3,g4⟩:=hy
 rw [h1] at g1
 cases g1
 rw [h3] at g3
 have e:=Data.seq.inj g3
 have e1:=congrArg Array.toList e.1
 simp only [List.cons.injEq,Value.int.injEq] at e1
 obtain ⟨⟨e1,_⟩,e2,_⟩:=e1
 subst e2
 have:=h4.inj g4
 obtain ⟨p,a⟩:=x
 obtain ⟨q,b⟩:=y
 exact Prod.ext e1 this
section
variable {prog:Program}{w:World}{A:Around}{E:Value->Shared->Prop}{s:Shared}
theorem Nj{x y:dD}{u:Value}(hu:A.units + 1 < cLine)(hx:d9 s.heap x u)(hy:d9 s.heap y v)(h:Q (decide (x=y)) s):wpAny (model prog w) A (eqBool u v) Q E s:=by
 refine SeqAt.eqBoolOverData prog w A E s u v (jd x) (jd y) [] [] Q hx.reads hy.reads (nX x) (nX y) ?_ (by rw [tD]; exact h)
 have:=mL x
 omega
theorem yz{x:bf}{b:Addr}(hu:A.units + 2 < cLine)(hx:bB s.heap x a)(hy:bB s.heap y b)(h:Q (decide (x=y)) s):wpAny (model prog w) A (eqBool (.ref a) (.ref b)) Q E s:=by
 refine SeqAt.eqBoolOverData prog w A E s _ _ (qN x) (qN y) [] [] Q hx.reads hy.reads (z6 x) (z6 y) ?_ (by rw [HD]; exact h)
 have:=Bs x
 omega
def k6(prog:Program)(w:World):dD->Int
 | none=>(strKind prog w).hash "mark"
 | some p=>tupleKeyHash (intKind prog w) [p.1,p.2]
def k7:dD->Nat
 | none=>1
 | some _=>3
def aL(prog:Program)(w:World)(k:bf):Int:=reduceHash (Builtin.Tuple.tupleHashOf [(intKind prog w).hash k.1,k6 prog w k.2])
theorem Eg{o:Obj}{p:Int × Int}{t u:Tok}(h1:h.get? a=some o)(h2:o.cls=.type "tuple")(h3:o.data=.seq #[.int p.1 t,.int p.2 u] n):IsTupleKey (intKind prog w) h [p.1,p.2] a :=
 ⟨o,_,n,h1,h2,h3,.cons (intKind_is _ _ _ _) (.cons (intKind_is _ _ _ _) .nil)⟩
theorem Eh{k:dD}{Q:Int->Shared->Prop}(hu:A.units < cLine)(hk:d9 s.heap k v)(h:Q (k6 prog w k) { s with toks:=s.toks + k7 k }):wpAny (model prog w) A (pyHash v) Q E s:=by
 cases k with
 | none =>
  obtain ⟨t,rfl⟩:=hk
  exact (strKind prog w).pyHash (k := "mark") (strKind_is _ _ _ _) h
 | some p =>
  obtain ⟨a,o,n,t,u,rfl,h1,h2,h3⟩:=hk
  exact wpAny_pyHash_tuple hu (Eg h1 h2 h3) h
theorem vc{Q:Int->Shared->Prop}(hu:A.units + 1 < cLine)(hk:bB s.heap k a)(h:Q (aL prog w k) { s with toks:=s.toks + (1 + k7 k.2 + 1) }):wpAny (model prog w) A (pyHash (.ref a)) Q E s:=by
 obtain ⟨o,n,t,v,ho,hc,hd,hv⟩:=hk
 have hT:s.TypeIs (.ref a) "tuple" := ⟨o,ho,hc⟩
 unfold pyHash
 first | unfold pyHashByItsType | skip
 first | refine af (wpAny_cRoomFor_or (.inr (by omega)) ?_) | skip
 refine af (wpAny_specialOf hT F.slot_tuple_hash.lookup ?_)
 show wpAny _ _ (if (some (Value.builtin "tuple.__hash__") == some Value.none)=true then _ else _) Q E s
 rw [if_neg (by rw [beq_builtin_none]; exact j0)]
 refine af (wpAny_specialOf hT F.slot_tuple_hash.lookup ?_)
 show wpAny _ _ (callSpecialIfBoundUnlessNone? (.ref a) "__hash__" _ >>= _) Q E s
 refine af (wpAny_callSpecialIfBoundUnlessNone?_slot hT F.slot_tuple_hash (wpAny_call_entry F.slot_tuple_hash hT F.entry_tuple_hash ?_ (F.args_tuple_hash_1 _)))
 show wpAny _ _ (Builtin.Tuple.tupleItemsOf (.ref a) >>= _) _ _ s
 refine af (wpAny_tupleItemsOf ho hd ?_)
 refine af ?_
 rw [<- jg]
 show wpAny _ _ (forIn [Value.int k.1 t,v] _ _) _ _ _
 rw [gW]
 refine af (af ((intKind prog w).pyHash (k:=k.1) (intKind_is _ _ _ _) ?_))
 refine af (aE (aE ?_))
 dsimp only
 rw [gW]
 refine af (af (Eh (k:=k.2) (by simp only [Around.in1]; omega) hv ?_))
 refine af (aE (aE ?_))
 dsimp only
 rw [jh]
 refine aE ?_
 show wpAny _ _ (retInt (Builtin.Tuple.tupleHashOf [(intKind prog w).hash k.1,k6 prog w k.2])) _ _ _
 refine wpAny_ret_mkInt ?_
 show wpAny _ _ (if (decide (-(2:Int) ^ 63 <= Builtin.Tuple.tupleHashOf [(intKind prog w).hash k.1,k6 prog w k.2]) && decide (Builtin.Tuple.tupleHashOf [(intKind prog w).hash k.1,k6 prog w k.2] < 2 ^ 63))=true then _ else _) Q E _
 unfold aL reduceHash at h
 split
 ·rename_i hr
  rw [if_pos hr] at h
  exact aE (by simpa [Nat.add_assoc] using h)
 ·rename_i hr
  rw [if_neg hr] at h
  exact af (wpAny_rule (aE (by simpa [Nat.add_assoc] using h)))
theorem Bt{k:dD}(hk:d9 s.heap k v)(h:Q true s):wpAny (model prog w) A (eqIsQuiet (n + 1) v) Q E s:=by
 cases k with
 | none =>
  obtain ⟨t,rfl⟩:=hk
  rw [eqIsQuiet_byValue _ rfl]
  exact aE h
 | some p =>
  obtain ⟨a,o,m,t,u,rfl,h1,h2,h3⟩:=hk
  have hT:s.TypeIs (.ref a) "tuple" := ⟨o,h1,h2⟩
  unfold eqIsQuiet
  refine af (wpAny_specialOf hT F.slot_tuple_eq.lookup ?_)
  show wpAny _ _ (isInstance (.ref a) (.type "tuple") >>= _) _ _ s
  refine af (wpAny_isInstance hT isSubtype_tuple_tuple ?_)
  simp only [dG,aS,if_false]
  refine af (wpAny_seqItems h1 h3 ?_)
  refine af ?_
  show wpAny _ _ (forIn #[Value.int p.1 t,Value.int p.2 u] _ _) _ _ s
  rw [<- jg]
  refine wpAny_forIn_list _ (λ rest r s'=>r.1=none /\ s'=s /\ ∀ v∈rest,carriedByValue v=true) _ ?_ ?_ _ _ ⟨rfl,rfl,λ v hv=>by simp at hv; rcases hv with e | e <;> rw [e] <;> rfl⟩
  ·rintro v rest r s' ⟨hr,rfl,hall⟩
   rw [eqIsQuiet_byValue _ (hall v gc)]
   refine af (aE ?_)
   simp only [dG,aS,if_false]
   exact aE ⟨rfl,rfl,λ u z7=>hall u (cX _ z7)⟩
  ·rintro ⟨r1,r2⟩ s' ⟨hr,rfl,_⟩
   simp only at hr
   subst hr
   exact aE h
theorem mO(hk:bB s.heap k a)(h:Q true s):wpAny (model prog w) A (eqIsQuiet 8 (.ref a)) Q E s:=by
 obtain ⟨o,n,t,v,ho,hc,hd,hv⟩:=hk
 have hT:s.TypeIs (.ref a) "tuple" := ⟨o,ho,hc⟩
 unfold eqIsQuiet
 refine af (wpAny_specialOf hT F.slot_tuple_eq.lookup ?_)
 show wpAny _ _ (isInstance (.ref a) (.type "tuple") >>= _) _ _ s
 refine af (wpAny_isInstance hT isSubtype_tuple_tuple ?_)
 simp only [dG,aS,if_false]
 refine af (wpAny_seqItems ho hd ?_)
 refine af ?_
 show wpAny _ _ (forIn #[Value.int k.1 t,v] _ _) _ _ s
 rw [<- jg]
 refine wpAny_forIn_list _ (λ rest r s'=>r.1=none /\ s'=s /\ ∀ u∈rest,(∃ i t,u=Value.int i t) \/ d9 s.heap k.2 u) _ ?_ ?_ _ _ ⟨rfl,rfl,λ u hu=>by simp at hu; rcases hu with e | e; exact .inl ⟨_,_,e⟩; exact .inr (e ▸ hv)⟩
 ·rintro u rest r s' ⟨hr,rfl,hall⟩
  refine af ?_
  have go:wpAny (model prog w) A (eqIsQuiet 7 u) (λ b s2=>b=true /\ s2=s') E s':=by
   rcases hall u gc with ⟨i,t,rfl⟩ | hu
   ·rw [eqIsQuiet_byValue _ rfl]
    exact aE ⟨rfl,rfl⟩
   ·exact Bt (n:=6) hu ⟨rfl,rfl⟩
  refine wpAny_mono go (λ b s2=>?_) λ _ _ x=>x
  rintro ⟨rfl,rfl⟩
  simp only [dG,aS,if_false]
  exact aE ⟨rfl,rfl,λ u z7=>hall u (cX _ z7)⟩
 ·rintro ⟨r1,r2⟩ s' ⟨hr,rfl,_⟩
  simp only at hr
  subst hr
  exact aE h
end
def cT(prog:Program)(w:World):HeapKind prog w bf where
 is:=bB
 hash:=aL prog w
 draws:=λ k=>1 + k7 k.2 + 1
 room:=λ A=>A.units + 2 < cLine
 inj:=λ hx hy=>hx.inj hy
 keeps:=λ x ho hd hs=>x.stay λ b u vs n hc hs2 e=>by
  rw [hs.2 b (λ z=>by subst z; rw [ho] at e; cases e; rw [hd] at hs2; cases hs2)]
  exact e
 pyHash:=λ hu hk h=>vc (by omega) hk h
 eqBool:=λ hu hx hy h=>yz hu hx hy h
 quiet:=λ hk h=>mO hk h
def sq(x:Int):Nat->Nat × Nat
 | 0=>(SetTable.bits x % 8,SetTable.bits x)
 | n + 1=>(((sq x n).1 * 5 + 1 + (sq x n).2 / 32) % 8,(sq x n).2 / 32)
theorem Kc(x:Int):∀ n,(sq x n).1 < 8
 | 0=>Nat.mod_lt _ (by decide)
 | n + 1=>Nat.mod_lt _ (by decide)
theorem vd(x:Int):∀ n,(sq x n).2 * 32 ^ n < 2 ^ 64
 | 0=>by
  show SetTable.bits x * 1 < _
  unfold SetTable.bits
  omega
 | n + 1=>by
  have ih:=vd x n
  show (sq x n).2 / 32 * 32 ^ (n + 1) < _
  have h:(sq x n).2 / 32 * 32 <= (sq x n).2:=Nat.div_mul_le_self _ _
  have h2:(sq x n).2 / 32 * 32 ^ (n + 1)=((sq x n).2 / 32 * 32) * 32 ^ n:=by rw [Nat.pow_succ,Nat.mul_assoc,Nat.mul_comm (32 ^ n) 32]
  rw [h2]
  exact Nat.lt_of_le_of_lt (Nat.mul_le_mul_right _ h) ih
theorem HE(x:Int)(n:Nat)(h:13 <= n):(sq x n).2=0:=by
 have h1:=vd x n
 rcases Nat.eq_zero_or_pos (sq x n).2 with e | hp
 ·exact e
 ·have h2:32 ^ 13 <= 32 ^ n:=Nat.pow_le_pow_right (by decide) h
  have h3:1 * 32 ^ n <= (sq x n).2 * 32 ^ n:=Nat.mul_le_mul_right _ hp
  have h4:(32:Nat) ^ 13=2 ^ 65:=by decide
  omega
theorem iP(x:Int)(n:Nat)(h:13 <= n):(sq x (n + 1)).1=((sq x n).1 * 5 + 1) % 8:=by
 show ((sq x n).1 * 5 + 1 + (sq x n).2 / 32) % 8=_
 rw [HE x n h]
theorem Nk(x:Int)(j:Nat)(hj:j < 8):∃ n,n <= 20 /\ (sq x n).1=j:=by
 have h0:=Kc x 13
 have e1:=iP x 13 (by decide)
 have e2:=iP x 14 (by decide)
 have e3:=iP x 15 (by decide)
 have e4:=iP x 16 (by decide)
 have e5:=iP x 17 (by decide)
 have e6:=iP x 18 (by decide)
 have e7:=iP x 19 (by decide)
 have ZR:∀ (a j:Fin 8),j.val=a.val \/ j.val=(a.val * 5 + 1) % 8 \/ j.val=((a.val * 5 + 1) % 8 * 5 + 1) % 8 \/ j.val=(((a.val * 5 + 1) % 8 * 5 + 1) % 8 * 5 + 1) % 8 \/ j.val=((((a.val * 5 + 1) % 8 * 5 + 1) % 8 * 5 + 1) % 8 * 5 + 1) % 8 \/
   j.val=(((((a.val * 5 + 1) % 8 * 5 + 1) % 8 * 5 + 1) % 8 * 5 + 1) % 8 * 5 + 1) % 8 \/ j.val=((((((a.val * 5 + 1) % 8 * 5 + 1) % 8 * 5 + 1) % 8 * 5 + 1) % 8 * 5 + 1) % 8 * 5 + 1) % 8 \/ j.val=(((((((a.val * 5 + 1) % 8 * 5 + 1) % 8 * 5 + 1) % 8 * 5 + 1) % 8 * 5 + 1) % 8 * 5 + 1) % 8 * 5 + 1) % 8:=by decide
 have:=ZR ⟨(sq x 13).1,h0⟩ ⟨j,hj⟩
 dsimp only at this
 rw [<- e1,<- e2,<- e3,<- e4,<- e5,<- e6,<- e7] at this
 rcases this with e | e | e | e | e | e | e | e
 ·exact ⟨13,by decide,e.symm⟩
 ·exact ⟨14,by decide,e.symm⟩
 ·exact ⟨15,by decide,e.symm⟩
 ·exact ⟨16,by decide,e.symm⟩
 ·exact ⟨17,by decide,e.symm⟩
 ·exact ⟨18,by decide,e.symm⟩
 ·exact ⟨19,by decide,e.symm⟩
 ·exact ⟨20,by decide,e.symm⟩
def Bu(x:Int)(n:Nat):SetTable.Probe:={ j:=(sq x n).1,more:=0,i:=(sq x n).1,perturb:=(sq x n).2,dummy:=none }
theorem Bv(h:t.mask=7)(x:Int):t.probeStart x=Bu x 0:=by
 unfold SetTable.probeStart Bu sq
 rw [h]
 have hl:SetTable.bits x % 8 < 8:=Nat.mod_lt _ (by decide)
 have e:SetTable.runEnd 7 (SetTable.bits x % 8) - SetTable.bits x % 8=0:=by
  unfold SetTable.runEnd
  rw [if_neg (by omega)]
  omega
 show SetTable.Probe.mk _ _ _ _ _=_
 rw [show (7:Nat) + 1=8 from rfl,e]
theorem ve(h:t.mask=7)(x:Int)(n:Nat):t.advance (Bu x n)=Bu x (n + 1):=by
 unfold SetTable.advance
 rw [if_neg (by show ¬ 0 > 0; omega)]
 unfold SetTable.leap
 rw [h]
 dsimp only
 have hl:=Kc x (n + 1)
 have e1:((Bu x n).i * 5 + 1 + (Bu x n).perturb / 32) % (7 + 1)=(sq x (n + 1)).1:=rfl
 have e2:(Bu x n).perturb / 32=(sq x (n + 1)).2:=rfl
 rw [e1,e2]
 have e:SetTable.runEnd 7 (sq x (n + 1)).1 - (sq x (n + 1)).1=0:=by
  unfold SetTable.runEnd
  rw [if_neg (by omega)]
  omega
 rw [e]
 rfl
theorem k9(hs:t.place.toList.Pairwise (· < ·))(hd:t.dummies=#[])(j:Nat):(t.slot j=.empty /\ ∀ i:Nat,t.place[i]? ≠ some j) \/ ∃ i,t.slot j=.live i /\ t.place[i]? = some j:=by
 cases e:t.slot j with
 | empty=>exact .inl ⟨rfl,λ i hi=>SG.kE hs e i j hi rfl⟩
 | dummy =>
  exfalso
  unfold SetTable.slot at e
  dsimp only at e
  rw [SG.kX hd] at e
  split at e <;> cases e
 | live i =>
  refine .inr ⟨i,rfl,?_⟩
  unfold SetTable.slot at e
  dsimp only at e
  split at e
  ·rename_i h
   cases e
   simpa using h
  ·split at e <;> cases e
theorem rC(hs:t.place.toList.Pairwise (· < ·))(hd:t.dummies=#[]){i j:Nat}(h:t.place[i]? = some j):t.slot j=.live i:=by
 rcases k9 hs hd j with ⟨_,e⟩ | ⟨k,e1,e2⟩
 ·exact absurd h (e i)
 ·have:k=i:=by
   rw [<- dz] at h e2
   obtain ⟨a1,b1⟩:=eU h
   obtain ⟨a2,b2⟩:=eU e2
   rcases Nat.lt_trichotomy k i with hl | he | hg
   ·have:=jj.mp hs k i a2 a1 hl
    omega
   ·exact he
   ·have:=jj.mp hs i k a1 a2 hg
    omega
  rw [e1,this]
theorem Ei(hm:t.mask=7)(hd:t.dummies=#[])(hs:t.place.toList.Pairwise (· < ·))(f:Nat->Int)(x:Int):∀ (fuel n m:Nat),n <= m->m < n + fuel->t.slot (sq x m).1=.empty->(∀ k,n <= k->k < m->t.slot (sq x k).1 ≠ .empty) ->
  (∃ k i,n <= k /\ k < m /\ t.slot (sq x k).1=.live i /\ f i=x /\ (∀ k' i',n <= k'->k' < k->t.slot (sq x k').1=.live i'->f i' ≠ x) /\ SetTable.probe.go t f x fuel (Bu x n)=some (.candidate (sq x k).1 i (Bu x (k + 1)))) \/
  ((∀ k i,n <= k->k < m->t.slot (sq x k).1=.live i->f i ≠ x) /\ SetTable.probe.go t f x fuel (Bu x n)=some (.empty (sq x m).1 none)):=by
 intro fuel
 induction fuel with
 | zero=>intro n m h1 h2; omega
 | succ fuel ih =>
  intro n m h1 h2 he hne
  unfold SetTable.probe.go
  rcases k9 hs hd (sq x n).1 with ⟨e,_⟩ | ⟨i,e,_⟩
  ·have:n=m:=by
    rcases bX n m with hl | hg
    ·exact absurd e (hne n (ay _) hl)
    ·omega
   subst this
   rw [show t.slot (Bu x n).j=.empty from e]
   exact .inr ⟨λ k i a b=>by omega,rfl⟩
  ·have hnm:n < m:=by
    rcases bX n m with hl | hg
    ·exact hl
    ·have:n=m:=by omega
     subst this
     rw [e] at he
     cases he
   rw [show t.slot (Bu x n).j=.live i from e]
   dsimp only
   by_cases hx:f i=x
   ·rw [if_pos (by simpa using hx),ve hm]
    exact .inl ⟨n,i,ay _,hnm,e,hx,(λ k' i' a b=>by omega),rfl⟩
   ·rw [if_neg (by simpa using hx),ve hm]
    rcases ih (n + 1) m (by omega) (by omega) he (λ k a b=>hne k (by omega) b) with ⟨k,i',a,b,c,d,d2,g⟩ | ⟨a,g⟩
    ·refine .inl ⟨k,i',by omega,b,c,d,λ k' i2 h3 h4 h5=>?_,g⟩
     rcases Nat.eq_or_lt_of_le h3 with e2 | h3
     ·subst e2
      rw [e] at h5
      cases h5
      exact hx
     ·exact d2 k' i2 h3 h4 h5
    ·refine .inr ⟨λ k i' h3 h4 h5=>?_,g⟩
     rcases Nat.eq_or_lt_of_le h3 with e2 | h3
     ·subst e2
      rw [e] at h5
      cases h5
      exact hx
     ·exact a k i' h3 h4 h5
theorem vf(hd:t.dummies=#[])(hs:t.place.toList.Pairwise (· < ·))(hf:t.place.size < 8)(x:Int):∃ m,m <= 20 /\ t.slot (sq x m).1=.empty /\ ∀ k,k < m->t.slot (sq x k).1 ≠ .empty:=by
 have hex:∃ m,m <= 20 /\ t.slot (sq x m).1=.empty:=by
  obtain ⟨j,hj,hfree⟩:∃ j,j < 8 /\ ∀ i:Nat,t.place[i]? ≠ some j:=by
   by_cases h:∃ j,j < 8 /\ j ∉ t.place.toList
   ·obtain ⟨j,hj,hn⟩:=h
    exact ⟨j,hj,λ i hi=>hn (by rw [<- dz] at hi; exact fL hi)⟩
   ·exfalso
    have sub:∀ j∈List.range 8,j∈t.place.toList:=λ j hj=>oM λ hn=>h ⟨j,fN.mp hj,hn⟩
    have:=List.Nodup.length_le_of_subset List.nodup_range sub
    rw [oZ,cg] at this
    omega
  obtain ⟨n,hn,e⟩:=Nk x j hj
  refine ⟨n,hn,?_⟩
  rcases k9 hs hd (sq x n).1 with ⟨h,_⟩ | ⟨i,_,h⟩
  ·exact h
  ·rw [e] at h
   exact absurd h (hfree i)
 obtain ⟨m,hm⟩:=hex
 have:∀ n,n <= 20->t.slot (sq x n).1=.empty->∃ m,m <= 20 /\ t.slot (sq x m).1=.empty /\ ∀ k,k < m->t.slot (sq x k).1 ≠ .empty:=by
  intro n
  induction n using Nat.strongRecOn with
  | ind n ih =>
   intro h1 h2
   by_cases h:∃ k,k < n /\ t.slot (sq x k).1=.empty
   ·obtain ⟨k,hk,e⟩:=h
    exact ih k hk (by omega) e
   ·exact ⟨n,h1,h2,λ k hk e=>h ⟨k,hk,e⟩⟩
 exact this m hm.1 hm.2
section
variable {prog:Program}{w:World}{A:Around}{E:Value->Shared->Prop}{s:Shared}
theorem yC{k:dD}(hk:d9 s.heap k v)(h:Q false s):wpAny (model prog w) A (ofAClassStatement (n + 1) v) Q E s:=by
 cases k with
 | none =>
  obtain ⟨t,rfl⟩:=hk
  exact wpAny_of_eq (a:=false) rfl h
 | some p =>
  obtain ⟨a,o,m,t,u,rfl,h1,h2,h3⟩:=hk
  have hT:s.TypeIs (.ref a) "tuple" := ⟨o,h1,h2⟩
  unfold ofAClassStatement
  refine af (wpAny_typeOf hT ?_)
  dsimp only
  refine af (wpAny_of_eq (a:=true) rfl ?_)
  simp only [dG,aS,if_false]
  refine af (wpAny_seqItems h1 h3 ?_)
  dsimp only
  refine af ?_
  rw [<- jg]
  refine wpAny_forIn_list _ (λ rest r s'=>r.1=none /\ s'=s /\ ∀ v∈rest,∃ i t,v=Value.int i t) _ ?_ ?_ _ _ ⟨rfl,rfl,λ v hv=>by simp at hv; rcases hv with e | e <;> exact ⟨_,_,e⟩⟩
  ·rintro v rest r s' ⟨hr,rfl,hall⟩
   obtain ⟨i,t,rfl⟩:=hall v gc
   refine af (wpAny_of_eq (a:=false) (by first | rfl | (unfold ofAClassStatement; rfl)) ?_)
   simp only [aS,if_false]
   exact aE ⟨rfl,rfl,λ u z7=>hall u (cX _ z7)⟩
  ·rintro ⟨r1,r2⟩ s' ⟨hr,rfl,_⟩
   simp only at hr
   subst hr
   exact aE h
theorem pM(hk:bB s.heap k a)(h:Q false s):wpAny (model prog w) A (ofAClassStatement 8 (.ref a)) Q E s:=by
 obtain ⟨o,n,t,v,ho,hc,hd,hv⟩:=hk
 have hT:s.TypeIs (.ref a) "tuple" := ⟨o,ho,hc⟩
 unfold ofAClassStatement
 refine af (wpAny_typeOf hT ?_)
 dsimp only
 refine af (wpAny_of_eq (a:=true) rfl ?_)
 simp only [dG,aS,if_false]
 refine af (wpAny_seqItems ho hd ?_)
 dsimp only
 refine af ?_
 rw [<- jg]
 refine wpAny_forIn_list _ (λ rest r s'=>r.1=none /\ s'=s /\ ∀ u∈rest,(∃ i t,u=Value.int i t) \/ d9 s.heap k.2 u) _ ?_ ?_ _ _ ⟨rfl,rfl,λ u hu=>by simp at hu; rcases hu with e | e; exact .inl ⟨_,_,e⟩; exact .inr (e ▸ hv)⟩
 ·rintro u rest r s' ⟨hr,rfl,hall⟩
  refine af ?_
  have go:wpAny (model prog w) A (ofAClassStatement 7 u) (λ b s2=>b=false /\ s2=s') E s':=by
   rcases hall u gc with ⟨i,t,rfl⟩ | hu
   ·exact wpAny_of_eq (a:=false) (by first | rfl | (unfold ofAClassStatement; rfl)) ⟨rfl,rfl⟩
   ·exact yC (n:=6) hu ⟨rfl,rfl⟩
  refine wpAny_mono go (λ b s2=>?_) λ _ _ x=>x
  rintro ⟨rfl,rfl⟩
  simp only [aS,if_false]
  exact aE ⟨rfl,rfl,λ u z7=>hall u (cX _ z7)⟩
 ·rintro ⟨r1,r2⟩ s' ⟨hr,rfl,_⟩
  simp only at hr
  subst hr
  exact aE h
theorem Nl{ys:List Value}(hk:bB s.heap k x)(hy:∀ y∈ys,∃ k' a,y=.ref a /\ bB s.heap k' a)(h:Q false s):wpAny (model prog w) A (searchCouldBeSeen (.ref x) ys) Q E s:=by
 unfold searchCouldBeSeen
 refine af ?_
 refine wpAny_forIn_list _ (λ rest r s'=>r.1=none /\ s'=s /\ ∀ y∈rest,∃ k' a,y=Value.ref a /\ bB s.heap k' a) _ ?_ ?_ _ _ ⟨rfl,rfl,hy⟩
 ·rintro y rest r s' ⟨hr,rfl,hall⟩
  obtain ⟨k',a,rfl,ha⟩:=hall y gc
  have rest':∀ y∈rest,∃ k' a,y=Value.ref a /\ bB s'.heap k' a:=λ u z7=>hall u (cX _ z7)
  dsimp only
  split
  ·exact aE ⟨rfl,rfl,rest'⟩
  ·refine af (mO hk ?_)
   simp only [dG,aS,if_false]
   refine af (mO ha ?_)
   simp only [dG,aS,if_false]
   refine af (pM hk ?_)
   simp only [aS,if_false]
   refine af (pM ha ?_)
   simp only [aS,if_false]
   exact aE ⟨rfl,rfl,rest'⟩
 ·rintro ⟨r1,r2⟩ s' ⟨hr,rfl,_⟩
  simp only at hr
  subst hr
  exact aE h
def Nm(prog:Program)(w:World)(h:Heap)(es:Array (Int × Value)):Prop:=∀ (i:Nat) e,es[i]? = some e->∃ k a,e=(aL prog w k,.ref a) /\ bB h k a
theorem mP{es:Array (Int × Value)}(hE:Nm prog w s.heap es){i a:Nat}{z:Int}(h:es[i]? = some (z,.ref a))(hk:bB s.heap k a):(es[i]?.map (·.1)).getD 0=aL prog w k:=by
 obtain ⟨k2,a2,e2,h2⟩:=hE i _ h
 have e3:z=aL prog w k2:=congrArg Prod.fst e2
 have e4:a=a2:=Value.ref.inj (congrArg Prod.snd e2)
 subst e4
 have e5:k2=k:=h2.inj hk
 rw [h,<- e5,<- e3]
 rfl
theorem search{o:Obj}{es:Array (Int × Value)}{ep:Nat}{m:Nat}(hu:A.units + 2 < cLine)(ho:s.heap.get? d=some o)(hd:o.data=.set es ep t)(T:SG.Tab led es t)(hm:t.mask=7)(hE:Nm prog w s.heap es)(hk:bB s.heap k x)
  (Yn:m <= 20)(he:t.slot (sq (aL prog w k) m).1=.empty)(hne:∀ j,j < m->t.slot (sq (aL prog w k) j).1 ≠ .empty):∀ (fuel n:Nat) (z8:Option SetTable.Probe) (Q:SetFound->Shared->Prop),n <= m->m < n + fuel->z8.getD (t.probeStart (aL prog w k))=Bu (aL prog w k) n ->
  (∀ (j i a:Nat) (z:Int),n <= j->j < m->t.slot (sq (aL prog w k) j).1=.live i->es[i]? = some (z,.ref a)->bB s.heap k a->Q (.there none) s) ->
  ((∀ (j i a:Nat) (z:Int),n <= j->j < m->t.slot (sq (aL prog w k) j).1=.live i->es[i]? = some (z,.ref a)->¬ bB s.heap k a)->Q (.free (sq (aL prog w k) m).1 false) s) ->
  wpAny (model prog w) A (setSearchFrom d (.ref x) (aL prog w k) true fuel z8) Q E s:=by
 intro fuel
 induction fuel with
 | zero=>intro n z8 Q h1 h2; omega
 | succ fuel ih =>
  intro n z8 Q h1 h2 hst hit free
  unfold setSearchFrom
  refine af (wpAny_setState_of ho hd T.fits ?_)
  dsimp only
  have ZS:t.gaveWay=false:=by unfold SetTable.gaveWay; rw [hm]; rfl
  rw [ZS,hst]
  simp only [aS,if_false]
  have VY:10 * SetTable.turns t.mask=220:=by rw [hm]; rfl
  unfold SetTable.probe
  rw [VY]
  rcases Ei hm T.Bf T.up _ (aL prog w k) 220 n m h1 (by omega) he (λ j _ hj=>hne j hj) with ⟨j,i,a1,a2,a3,a4,Yo,a5⟩ | ⟨a1,a5⟩
  ·rw [a5]
   dsimp only
   have hi:∃ e,es[i]? = some e:=by
    rcases k9 T.up T.Bf (sq (aL prog w k) j).1 with ⟨e,_⟩ | ⟨i',e,hp⟩
    ·rw [a3] at e; cases e
    ·rw [a3] at e
     cases e
     have:=(gE.mp hp).1
     rw [T.sz] at this
     exact ⟨_,dM this⟩
   obtain ⟨e,hei⟩:=hi
   obtain ⟨k',a',rfl,ha'⟩:=hE i e hei
   have ZT:∀ y∈(es.filter (·.1 == aL prog w k)).toList.map (·.2),∃ k' a,y=Value.ref a /\ bB s.heap k' a:=λ y hy=>by
    obtain ⟨e,he',rfl⟩:=aF.mp hy
    rw [Array.mem_toList_iff,Array.mem_filter] at he'
    obtain ⟨i2,hi2⟩:=Array.mem_iff_getElem?.mp he'.1
    obtain ⟨k2,a2,rfl,h2⟩:=hE i2 e hi2
    exact ⟨k2,a2,rfl,h2⟩
   cases hl:t.led
   ·simp only [Bool.not_false,if_true]
    refine af (Nl hk ZT ?_)
    simp only [aS,if_false]
    rw [hei]
    dsimp only
    refine af (wpAny_holding (yz hu ha' hk ?_))
    refine af (wpAny_setState_of ho hd T.fits ?_)
    dsimp only
    by_cases e:k'=k
    ·subst e
     rw [decide_eq_true rfl]
     simp only [Bool.and_true,if_true]
     exact aE (hit j i a' _ a1 a2 a3 hei ha')
    ·rw [decide_eq_false e]
     simp only [oJ,aS,if_false]
     have hsm:t.sameMemory t.moves t.mask=some true:=by unfold SetTable.sameMemory; rw [if_pos (by simp)]
     rw [hsm]
     dsimp only
     simp only [if_true]
     rw [a3]
     dsimp only
     rw [hei]
     dsimp only
     refine af (wpAny_isSame_ref_self (af (aE ?_)))
     simp only [if_true]
     refine ih (j + 1) _ Q (by omega) (by omega) rfl (λ j' i' a z h3 h4=>hit j' i' a z (by omega) h4) λ hn=>free λ j' i' a z h3 h4 h5 h6 h7=>?_
     by_cases hj:j'=j
     ·subst hj
      rw [a3] at h5
      cases h5
      rw [hei] at h6
      cases h6
      exact e (ha'.inj h7)
     ·rcases bX j' j with hl | hg
      ·refine Yo j' i' (by omega) hl h5 ?_
       exact mP hE h6 h7
      ·exact hn j' i' a z (by omega) h4 h5 h6 h7
   ·simp only [dG,aS,if_false]
    rw [hei]
    dsimp only
    refine af (wpAny_holding (yz hu ha' hk ?_))
    refine af (wpAny_setState_of ho hd T.fits ?_)
    dsimp only
    by_cases e:k'=k
    ·subst e
     rw [decide_eq_true rfl]
     simp only [Bool.and_true,if_true]
     exact aE (hit j i a' _ a1 a2 a3 hei ha')
    ·rw [decide_eq_false e]
     simp only [oJ,aS,if_false]
     have hsm:t.sameMemory t.moves t.mask=some true:=by unfold SetTable.sameMemory; rw [if_pos (by simp)]
     rw [hsm]
     dsimp only
     simp only [if_true]
     rw [a3]
     dsimp only
     rw [hei]
     dsimp only
     refine af (wpAny_isSame_ref_self (af (aE ?_)))
     simp only [if_true]
     refine ih (j + 1) _ Q (by omega) (by omega) rfl (λ j' i' a z h3 h4=>hit j' i' a z (by omega) h4) λ hn=>free λ j' i' a z h3 h4 h5 h6 h7=>?_
     by_cases hj:j'=j
     ·subst hj
      rw [a3] at h5
      cases h5
      rw [hei] at h6
      cases h6
      exact e (ha'.inj h7)
     ·rcases bX j' j with hl | hg
      ·refine Yo j' i' (by omega) hl h5 ?_
       exact mP hE h6 h7
      ·exact hn j' i' a z (by omega) h4 h5 h6 h7
  ·rw [a5]
   dsimp only
   refine aE (free λ j i a z h3 h4 h5 h6 h7=>a1 j i h3 h4 h5 ?_)
   exact mP hE h6 h7
end
def Reach(pl:List Nat)(x:Int)(j:Nat):Prop:=∃ m,(sq x m).1=j /\ ∀ m',m' < m->(sq x m').1∈pl
def tE(prog:Program)(w:World)(led:Bool)(h:Heap)(d:Addr)(ks:List (bf × Addr)):Prop :=
 ∃ o es ep t,h.get? d=some o /\ o.ExactSet /\ o.data=.set es ep t /\ SG.Tab led es t /\ t.mask=7 /\ es.toList.Perm (ks.map λ z=>(aL prog w z.1,Value.ref z.2)) /\ (ks.map (·.1)).Nodup /\ ks.length <= 4 /\
  ∀ z∈es.toList.zip t.place.toList,Reach t.place.toList z.1.1 z.2
section
variable {prog:Program}{w:World}{A:Around}{E:Value->Shared->Prop}{s:Shared}
theorem tE.at'{ks:List (bf × Addr)}(S:tE prog w led h d ks)(e:∀ o,h.get? d=some o->h'.get? d=some o):tE prog w led h' d ks:=by
 obtain ⟨o,es,ep,t,ho,r⟩:=S
 exact ⟨o,es,ep,t,e o ho,r⟩
theorem Bw{k:dD}(hk:d9 s.heap k v)(h:∀ b,Q b s):wpAny (model prog w) A (hashByValue (n + 1) v) Q E s:=by
 cases k with
 | none =>
  obtain ⟨t,rfl⟩:=hk
  exact wpAny_of_eq (a:=false) (by first | rfl | (unfold hashByValue; rfl)) (h false)
 | some p =>
  obtain ⟨a,o,m,t,u,rfl,h1,h2,h3⟩:=hk
  have hT:s.TypeIs (.ref a) "tuple" := ⟨o,h1,h2⟩
  unfold hashByValue
  refine af (wpAny_specialOf hT F.slot_tuple_hash.lookup ?_)
  dsimp only
  refine af (wpAny_seqItems h1 h3 ?_)
  refine af ?_
  show wpAny _ _ (forIn #[Value.int p.1 t,Value.int p.2 u] _ _) _ _ s
  rw [<- jg]
  refine wpAny_forIn_list _ (λ rest r s'=>r.1=none /\ s'=s /\ ∀ v∈rest,∃ i t,v=Value.int i t) _ ?_ ?_ _ _ ⟨rfl,rfl,λ v hv=>by simp at hv; rcases hv with e | e <;> exact ⟨_,_,e⟩⟩
  ·rintro v rest r s' ⟨hr,rfl,hall⟩
   obtain ⟨i,t,rfl⟩:=hall v gc
   refine af (wpAny_of_eq (a:=true) (by first | rfl | (unfold hashByValue; rfl)) ?_)
   simp only [dG,aS,if_false]
   exact aE ⟨rfl,rfl,λ u z7=>hall u (cX _ z7)⟩
  ·rintro ⟨r1,r2⟩ s' ⟨hr,rfl,_⟩
   simp only at hr
   subst hr
   exact aE (h true)
theorem Bx(hk:bB s.heap k a)(h:∀ b,Q b s):wpAny (model prog w) A (hashByValue 8 (.ref a)) Q E s:=by
 obtain ⟨o,n,t,v,ho,hc,hd,hv⟩:=hk
 have hT:s.TypeIs (.ref a) "tuple" := ⟨o,ho,hc⟩
 unfold hashByValue
 refine af (wpAny_specialOf hT F.slot_tuple_hash.lookup ?_)
 dsimp only
 refine af (wpAny_seqItems ho hd ?_)
 refine af ?_
 show wpAny _ _ (forIn #[Value.int k.1 t,v] _ _) _ _ s
 rw [<- jg]
 refine wpAny_forIn_list _ (λ rest r s'=>s'=s /\ r.1=none /\ ∀ u∈rest,(∃ i t,u=Value.int i t) \/ d9 s.heap k.2 u) _ ?_ ?_ _ _ ⟨rfl,rfl,λ u hu=>by simp at hu; rcases hu with e | e; exact .inl ⟨_,_,e⟩; exact .inr (e ▸ hv)⟩
 ·rintro u rest r s' ⟨rfl,hr,hall⟩
  refine af ?_
  have rest':∀ y∈rest,(∃ i t,y=Value.int i t) \/ d9 s'.heap k.2 y:=λ u z7=>hall u (cX _ z7)
  have go:wpAny (model prog w) A (hashByValue 7 u) (λ _ s2=>s2=s') E s':=by
   rcases hall u gc with ⟨i,t,rfl⟩ | hu
   ·exact wpAny_of_eq (a:=true) (by first | rfl | (unfold hashByValue; rfl)) rfl
   ·exact Bw (n:=6) hu λ _=>rfl
  refine wpAny_mono go (λ b s2=>?_) λ _ _ x=>x
  rintro rfl
  cases b
  ·simp only [Bool.not_false,if_true]
   exact aE (aE (h false))
  ·simp only [dG,aS,if_false]
   exact aE ⟨rfl,rfl,rest'⟩
 ·rintro ⟨r1,r2⟩ s' ⟨rfl,hr,_⟩
  simp only at hr
  subst hr
  exact aE (h true)
theorem yD{α β:Type}(xs:Array α)(ys:Array β)(hl:xs.size=ys.size)(p:Nat)(x:α)(y:β):(SetTable.insertAt xs p x).toList.zip (SetTable.insertAt ys p y).toList=(xs.toList.take p).zip (ys.toList.take p)++(x,y) :: (xs.toList.drop p).zip (ys.toList.drop p):=by
 rw [SetTable.toList_insertAt,SetTable.toList_insertAt,List.zip_append (by rw [bQ,bQ,cg,cg,hl])]
 rfl
theorem yE{pl Yp:List Nat}(h:∀ j∈pl,j∈Yp){x:Int}{j:Nat}(r:Reach pl x j):Reach Yp x j:=let ⟨m,e,q⟩:=r; ⟨m,e,λ m' hm=>h _ (q m' hm)⟩
theorem HF{ks:List (bf × Addr)}(hu:A.units + 2 < cLine)(S:tE prog w led s.heap d ks)(hks:∀ z∈ks,bB s.heap z.1 z.2)(hk:bB s.heap k x)(hl:ks.length <= 3)
  (h:∀ b h' tk,s.toks <= tk->Heap.SameBut d s.heap h'->tE prog w led h' d (if k∈ks.map (·.1) then ks else ks++[(k,x)])->Q b { s with heap:=h',toks:=tk }):wpAny (model prog w) A (setAdd d (.ref x)) Q E s:=by
 obtain ⟨o,es,ep,t,ho,hx,hd,T,hm,perm,nd,h4,hch⟩:=S
 have hsz:es.size=ks.length:=by rw [<- cg,perm.length_eq,au]
 have hE:Nm prog w s.heap es:=λ i e he=>by
  have me:e∈es.toList:=by rw [<- dz] at he; exact fL he
  obtain ⟨z,hz,rfl⟩:=aF.mp (perm.mem_iff.mp me)
  exact ⟨z.1,z.2,rfl,hks z hz⟩
 unfold setAdd
 refine wpAny_holding (af (vc (by omega) hk ?_))
 generalize hs1:({ s with toks:=s.toks + (1 + k7 k.2 + 1) }:Shared)=s1
 have eh:s1.heap=s.heap:=by rw [<- hs1]
 have et:s.toks <= s1.toks:=by rw [<- hs1]; exact kq _ _
 have es1:∀ h' , ({ s1 with heap:=h' }:Shared)={ s with heap:=h',toks:=s1.toks }:=λ h'=>by rw [<- hs1]
 rw [<- eh] at ho hE hk
 unfold setAddHashed setAddHashedIn
 refine wpAny_holding (af (wpAny_setState_of ho hd T.fits ?_))
 dsimp only
 have hns:byScan (.ref x) es=false:=rfl
 rw [hns]
 simp only [aS,if_false]
 unfold setSearch
 obtain ⟨m,Yn,he,hne⟩:=vf T.Bf T.up (by rw [T.sz]; omega) (aL prog w k)
 have ZU:∀ j,t.slot j ≠ .empty->j∈t.place.toList:=λ j hj=>by
  rcases k9 T.up T.Bf j with ⟨e,_⟩ | ⟨i,_,e⟩
  ·exact absurd e hj
  ·rw [<- dz] at e
   exact fL e
 refine af (search hu ho hd T hm hE hk Yn he hne 100000 0 none _ (aO _) (by omega) (Bv hm _) (λ j i a z _ hj hsl hei ha=>?_) (λ hn=>?_))
 ·dsimp only
  have hin:k∈ks.map (·.1):=by
   obtain ⟨k2,a2,e2,h2⟩:=hE i _ hei
   have e4:a=a2:=Value.ref.inj (congrArg Prod.snd e2)
   have me:((z,.ref a):Int × Value)∈es.toList:=by rw [<- dz] at hei; exact fL hei
   obtain ⟨y,hy,ey⟩:=aF.mp (perm.mem_iff.mp me)
   have e5:y.2=a:=Value.ref.inj (congrArg Prod.snd ey)
   have Yq:=hks y hy
   rw [e5,<- eh] at Yq
   rw [<- Yq.inj ha]
   exact aF.mpr ⟨y,hy,rfl⟩
  refine aE ?_
  have:=h false s.heap s1.toks et (oN d s.heap) (by rw [if_pos hin]; exact ⟨o,es,ep,t,by rw [<- eh]; exact ho,hx,hd,T,hm,perm,nd,h4,hch⟩)
  rw [<- es1,<- eh] at this
  exact this
 ·dsimp only
  have DZ:k ∉ ks.map (·.1):=λ hin=>by
   obtain ⟨y,hy,rfl⟩:=aF.mp hin
   have me:((aL prog w y.1,.ref y.2):Int × Value)∈es.toList:=perm.mem_iff.mpr (aF.mpr ⟨y,hy,rfl⟩)
   obtain ⟨i,hi⟩:=eX.mp me
   have hil:i < t.place.size:=by rw [T.sz,<- cg]; exact (eU hi).1
   have hp:t.place.toList[i]? = some t.place[i]:=by rw [dz]; exact dM hil
   have hz:(((aL prog w y.1,.ref y.2):Int × Value),t.place[i])∈es.toList.zip t.place.toList:=by
    refine eX.mpr ⟨i,?_⟩
    rw [l0]
    exact ⟨hi,hp⟩
   obtain ⟨m',e1,e2⟩:=hch _ hz
   dsimp only at e1 e2
   have CF:t.slot t.place[i]=.live i:=rC T.up T.Bf (by rw [dM hil])
   have VV:m' < m:=by
    rcases bX m' m with hl | hg
    ·exact hl
    ·exfalso
     rcases Nat.eq_or_lt_of_le hg with e | hlt
     ·rw [e,e1,CF] at he
      cases he
     ·have:=e2 m hlt
      obtain ⟨i2,hi2⟩:=eX.mp this
      rw [dz] at hi2
      rw [rC T.up T.Bf hi2] at he
      cases he
   rw [dz] at hi
   exact hn m' i y.2 _ (aO _) VV (by rw [e1]; exact CF) hi (by rw [eh]; exact hks y hy)
  refine af (wpAny_setState_of ho hd T.fits ?_)
  dsimp only
  have M6:t.put (sq (aL prog w k) m).1=({ t with place:=SetTable.insertAt t.place (SetTable.below t.place (sq (aL prog w k) m).1) (sq (aL prog w k) m).1 },SetTable.below t.place (sq (aL prog w k) m).1):=by
   unfold SetTable.put
   rw [SG.kX T.Bf]
   rfl
  rw [M6]
  dsimp only
  have Kd:=SN.j7 T.up (SG.kE T.up he)
  have Ej:(SetTable.insertAt es (SetTable.below t.place (sq (aL prog w k) m).1) (aL prog w k,.ref x)).toList.Perm (es.toList++[(aL prog w k,.ref x)]):=by
   have:=SetTable.insertAt_perm es (SetTable.below t.place (sq (aL prog w k) m).1) (aL prog w k,Value.ref x)
   rwa [Array.toList_push] at this
  have yF:(SetTable.insertAt t.place (SetTable.below t.place (sq (aL prog w k) m).1) (sq (aL prog w k) m).1).toList.Perm (t.place.toList++[(sq (aL prog w k) m).1]):=by
   have:=SetTable.insertAt_perm t.place (SetTable.below t.place (sq (aL prog w k) m).1) (sq (aL prog w k) m).1
   rwa [Array.toList_push] at this
  have hz:=yD es t.place T.sz.symm (SetTable.below t.place (sq (aL prog w k) m).1) (aL prog w k,Value.ref x) (sq (aL prog w k) m).1
  generalize SetTable.insertAt es (SetTable.below t.place (sq (aL prog w k) m).1) (aL prog w k,Value.ref x)=kZ at Ej hz ⊢
  generalize SetTable.insertAt t.place (SetTable.below t.place (sq (aL prog w k) m).1) (sq (aL prog w k) m).1=Ek at yF hz Kd ⊢
  have hsz2:kZ.size=es.size + 1:=by rw [<- cg,Ej.length_eq,aX,cg]; rfl
  have Rc:Ek.size=es.size + 1:=by rw [<- cg,yF.length_eq,aX,cg,T.sz]; rfl
  have T2:∀ b:Bool,SG.Tab led kZ { t with place:=Ek,plain:=b }:=λ b=>by
   refine ⟨T.led,T.Bf,Kd,?_⟩
   unfold SetTable.fits SetTable.fill
   rw [Rc,hsz2,T.Bf,hm]
   simp
   omega
  have fin:∀ b:Bool,wpAny (model prog w) A (do storeSet d kZ { t with place:=Ek,plain:=b }; if (!false && ({ t with place:=Ek,plain:=b }:SetTable).tooFull)=true then do setRelay d (SetTable.grown (es.size + 1)); pure true else pure true) Q E s1:=λ b=>by
   refine af (wpAny_storeSet_of ho hd ?_ (by rw [hsz2,sizeLine_eq]; omega))
   have Na:=cj (Obj.putSet kZ { t with place:=Ek,plain:=b }) ho (by rw [putSet_of kZ _ hd]; rfl)
   rw [putSet_of kZ _ hd] at Na
   have OV:=f9 s1.heap d (Obj.putSet kZ { t with place:=Ek,plain:=b })
   have full:({ t with place:=Ek,plain:=b }:SetTable).tooFull=false:=by
    unfold SetTable.tooFull SetTable.fill
    dsimp only
    rw [T.Bf,hm,Rc]
    simp
    omega
   rw [full]
   simp only [oJ,aS,if_false]
   refine aE ?_
   rw [es1]
   refine h true _ s1.toks et (by rw [<- eh]; exact OV) ?_
   rw [if_neg DZ]
   refine ⟨_,kZ,_,_,Na,hx,rfl,T2 b,hm,?_,?_,by rw [aX]; simp; omega,?_⟩
   ·rw [bD]
    exact Ej.trans (perm.append_right _)
   ·rw [bD,d7]
    refine ⟨nd,by simp,λ a ha c hc e=>DZ ?_⟩
    have hc':c=k:=by simpa using hc
    rw [<- hc',<- e]
    exact ha
   ·intro y hy
    show Reach Ek.toList y.1.1 y.2
    have up:∀ j∈t.place.toList,j∈Ek.toList:=λ j hj=>yF.mem_iff.mpr (ki _ hj)
    replace hy:y∈kZ.toList.zip Ek.toList:=hy
    rw [hz] at hy
    have old:∀ y,y∈es.toList.zip t.place.toList->Reach Ek.toList y.1.1 y.2:=λ y hy=>yE up (hch y hy)
    rcases aK.mp hy with hy | hy
    ·refine old y ?_
     obtain ⟨i,hi⟩:=eX.mp hy
     rw [l0,List.getElem?_take,List.getElem?_take] at hi
     refine eX.mpr ⟨i,l0.mpr ?_⟩
     split at hi
     ·exact hi
     ·exact nomatch hi.1
    ·rcases aG.mp hy with rfl | hy
     ·exact ⟨m,rfl,λ m' hm'=>up _ (ZU _ (hne m' hm'))⟩
     ·refine old y ?_
      obtain ⟨i,hi⟩:=eX.mp hy
      rw [l0,List.getElem?_drop,List.getElem?_drop] at hi
      exact eX.mpr ⟨_,l0.mpr hi⟩
  split
  ·refine af (Bx hk λ b=>?_)
   cases b
   ·exact fin false
   ·exact fin t.plain
  ·refine af (aE ?_)
   exact fin t.plain
def mQ(val:Nat->bf × Addr):Nat->List (bf × Addr)
 | 0=>[]
 | i + 1=>if (val i).1∈(mQ val i).map (·.1) then mQ val i else mQ val i++[val i]
theorem vg(val:Nat->bf × Addr):∀ i,(mQ val i).length <= i
 | 0=>ay _
 | i + 1=>by
  have:=vg val i
  unfold mQ
  split
  ·omega
  ·rw [aX,g6]; omega
theorem lg(val:Nat->bf × Addr):∀ (i:Nat) (z:bf × Addr),z∈mQ val i->∃ j,j < i /\ z=val j
 | 0,z,h=>by simp [mQ] at h
 | i + 1,z,h=>by
  unfold mQ at h
  split at h
  ·obtain ⟨j,hj,e⟩:=lg val i z h
   exact ⟨j,by omega,e⟩
  ·rcases aK.mp h with h | h
   ·obtain ⟨j,hj,e⟩:=lg val i z h
    exact ⟨j,by omega,e⟩
   ·exact ⟨i,by omega,aC.mp h⟩
theorem vh(val:Nat->bf × Addr):∀ (i:Nat) (k:bf),k∈(mQ val i).map (·.1) ↔ ∃ j,j < i /\ k=(val j).1
 | 0,k=>by simp [mQ]
 | i + 1,k=>by
  have ih:=vh val i
  unfold mQ
  split
  ·rename_i hin
   rw [ih k]
   constructor
   ·rintro ⟨j,hj,e⟩; exact ⟨j,by omega,e⟩
   ·rintro ⟨j,hj,e⟩
    rcases bX j i with hlt | hge
    ·exact ⟨j,hlt,e⟩
    ·have:j=i:=by omega
     subst this
     rw [e]
     exact (ih _).mp hin
  ·rw [bD,aK,ih k]
   constructor
   ·rintro (⟨j,hj,e⟩ | e)
    ·exact ⟨j,by omega,e⟩
    ·exact ⟨i,by omega,by simpa using e⟩
   ·rintro ⟨j,hj,e⟩
    rcases bX j i with hlt | hge
    ·exact .inl ⟨j,hlt,e⟩
    ·have:j=i:=by omega
     subst this
     exact .inr (by simp [e])
theorem El{l:Addr}{items:Array Value}{val:Nat->bf × Addr}{Q:Value->Shared->Prop}(hu:A.units + 10 < cLine)(hh:A.handled=none)(hl:s.heap.IsList l items)(hv:∀ (i:Nat) (v:Value),items[i]? = some v->v=.ref (val i).2 /\ bB s.heap (val i).1 (val i).2)(hn:items.size <= 4)
  (h:∀ (h':Heap) (tk:Nat),tE prog w (!SG.bG w) h' s.heap.objs.size (mQ val items.size)->(∀ b o,b < s.heap.objs.size->s.heap.get? b=some o->h'.get? b=some o)->Q (.ref s.heap.objs.size) { s with heap:=h',toks:=tk }):
  wpAny (model prog w) A (call (.type "set") [.ref l]) Q E s:=by
 refine SG.set_list hh hl (λ i h=>tE prog w (!SG.bG w) h s.heap.objs.size (mQ val i) /\ ∀ b o,b < s.heap.objs.size->s.heap.get? b=some o->h.get? b=some o) (λ h' k e=>⟨⟨_,#[],0,_,e,⟨rfl,rfl,rfl⟩,rfl,SG.rB,rfl,kh _,iI,aO _,λ z hz=>nomatch hz⟩,λ b o _ e=>k b o e⟩)
  (λ i h h' ⟨q,k⟩ hk=>⟨q.at' λ o e=>hk _ o (ay _) e,λ b o hb e=>hk b o (g7 hb) (k b o hb e)⟩) (λ A' E' i v s' Q ZJ z7 hi ⟨hS,hkp⟩ hQ=>?_) λ h' tk ⟨q,k⟩ kk=>h h' tk q kk
 obtain ⟨rfl,hhi⟩:=hv i v hi
 have hlt:=(gE.mp hi).1
 have stay:∀ j v,items[j]? = some v->bB s'.heap (val j).1 (val j).2:=λ j v hj=>(hv j v hj).2.stay λ b o _ _ _ _ e=>hkp b o (aA e) e
 have hle:=vg val i
 refine HF (by omega) hS (λ z hz=>?_) (stay i _ hi) (by omega) λ b h' tk htk sb Q7=>hQ b h' tk htk sb ⟨Q7,λ b' o hb e=>?_⟩
 ·obtain ⟨j,hj,rfl⟩:=lg val i z hz
  exact stay j _ (dM (by omega))
 ·rw [sb.2 b' (aM hb)]
  exact hkp b' o hb e
end
open PySem.W
section
variable {prog:Program}{w:World}{A:Around}{E:Value->Shared->Prop}{s:Shared}
set_option maxHeartbeats 1000000 in
theorem Em{vs:List Value}{r:Nat->Int}{P:PySem.Fin->Shared->Prop}(ho:s.heap.get? a=some (seqObj "list" vs.toArray n))(h64:vs.length < 64)
  (hT:∀ G:Heap,(∀ b o vs' n',o.cls=.type "tuple" -> o.data=.seq vs' n'->s.heap.get? b=some o->G.get? b=some o)->∃ fs:List Value,KatTups G vs fs /\ fs.length=vs.length /\ ∀ v∈fs,∃ i t,v=Value.int i t)
  (hc:∀ G:Heap,(∀ b o vs' n',o.cls=.type "tuple" -> o.data=.seq vs' n'->s.heap.get? b=some o->G.get? b=some o)->∀ i j,i < vs.length->j < vs.length->∀ (E':Value->Shared->Prop) (C:Bool->Shared->Prop),C (decide (r i < r j)) { s with heap:=G } -> wpAny (model prog w) A (keyLt' (tuples' true) (vs.getD i Value.none) (vs.getD j Value.none)) C E' { s with heap:=G })
  (inj:∀ i j,i < vs.length->j < vs.length->r i=r j->i=j)
  (h:∀ q:Array Nat,SN.Pl vs.length q->SN.Up r q vs.length->P (.done (.ret .none)) { s with heap:=sortedHeap s.heap a vs (List.toArray (q.toList.map λ i=>vs.getD i Value.none)) }):
  wpAny (model prog w) A (Builtin.«list.sort» ⟨[.ref a],[]⟩) P E s:=by
 have ha:a < s.heap.objs.size:=aA ho
 obtain ⟨e1,Nf⟩:∃ e1,(s.heap.update a (Obj.mapSeq λ _=>#[])).get? a=some (seqObj "list" #[] e1):=⟨_,get?_update_seq ho (λ _=>#[])⟩
 have kp:∀ b o,b ≠ a->s.heap.get? b=some o->(((s.heap.update a (Obj.mapSeq λ _=>#[])).push (seqObj "tuple" vs.toArray 0)).push (seqObj "list" #[] 0)).get? b=some o:=λ b o hba e=>bO _ (bO _ ((dH _ _ _ _ hba).trans e))
 have ho6:(((s.heap.update a (Obj.mapSeq λ _=>#[])).push (seqObj "tuple" vs.toArray 0)).push (seqObj "list" #[] 0)).get? a=some (seqObj "list" #[] e1):=bO _ (bO _ Nf)
 rw [list_sort_plain]
 refine af (listItems_at ho rfl (af (listUpdate_at ho rfl ?_ (by rw [aT,sizeLine_eq]; omega) (aO _))))
 refine af (seqEpoch_at Nf rfl (af (wpAny_newTuple ?_ (by show vs.length <= _; rw [sizeLine_eq]; omega))))
 refine af (wpAny_newList (wpAny_holding ?_) (aO _))
 show wpAny (model prog w) A _ P E { s with heap:=((s.heap.update a (Obj.mapSeq λ _=>#[])).push (seqObj "tuple" vs.toArray 0)).push (seqObj "list" #[] 0) }
 have KG:∀ b o vs' n',o.cls=.type "tuple" -> o.data=.seq vs' n'->s.heap.get? b=some o->(((s.heap.update a (Obj.mapSeq λ _=>#[])).push (seqObj "tuple" vs.toArray 0)).push (seqObj "list" #[] 0)).get? b=some o:=λ b o _ _ hc _ e=>kp b o (λ z=>by subst z; rw [ho] at e; cases e; exact absurd (show Value.type "list" = .type "tuple" from hc) (by decide)) e
 have uh:∀ out,((((s.heap.update a (Obj.mapSeq λ _=>#[])).push (seqObj "tuple" vs.toArray 0)).push (seqObj "list" #[] 0))).update a (Obj.mapSeq λ _=>out)=sortedHeap s.heap a vs out:=λ _=>rfl
 generalize (((s.heap.update a (Obj.mapSeq λ _=>#[])).push (seqObj "tuple" vs.toArray 0)).push (seqObj "list" #[] 0))=G at *
 dsimp only
 have fin:∀ q:Array Nat,SN.Pl vs.length q->SN.Up r q vs.length->P (.done (.ret .none)) { s with heap:=G.update a (Obj.mapSeq λ _=>List.toArray (q.toList.map λ i=>vs.getD i Value.none)) }:=λ q hq u=>by
  rw [uh]
  exact h q hq u
 by_cases h2:vs.toArray.size < 2
 ·rw [if_pos h2,if_pos h2]
  refine af (aE ?_)
  rw [StateT.run_pure]
  refine af (aE (af (seqEpoch_at ho6 rfl (af (listUpdate_at ho6 rfl ?_ (aO _) ?_)))))
  ·simp only [bne_self_eq_false,aS,if_false]
   have:=fin (List.toArray (List.range vs.length)) (SN.Pl.start _) (λ i j hij hj=>by rw [aT] at h2; omega)
   have e:(arrOf (SortSt.mk' general' (vs.toArray.zip vs.toArray) #[] 7 none)).map (·.2)=List.toArray ((List.toArray (List.range vs.length)).toList.map λ i=>vs.getD i Value.none):=by
    exact SN.zX (by rw [aT] at h2; exact h2)
   rw [e]
   exact aE this
  ·show ((vs.toArray.zip vs.toArray).map _).size <= _
   rw [Array.size_map,Array.size_zip,aT,sizeLine_eq]
   omega
 ·have h2':2 <= vs.length:=by rw [aT] at h2; omega
  rw [if_neg h2,if_neg h2]
  obtain ⟨fs,k1,k2,k3⟩:=hT G KG
  refine af (kat_kind (T:=.type "int") k1 (by omega) (λ v hv=>by obtain ⟨i,t,rfl⟩:=k3 v hv; exact Looks.of_pure rfl) rfl ?_)
  have kd:((Value.type "int") != (Value.type "tuple"))=true:=by decide
  rw [kd]
  refine af (wpAny_mono (kat_run (prog:=prog) (w:=w) (A:=A) (κ:=tuples' true) (vs:=vs) (ks:=vs) (Q:=λ st' s'=>s'={ s with heap:=G } /\ failedOf st'=none /\ ∃ q,SN.Pl vs.length q /\ SN.Up r q vs.length /\ (arrOf st').map (·.2)=List.toArray (q.toList.map λ i=>vs.getD i Value.none))
   (G:=λ q s'=>s'={ s with heap:=G } /\ SN.Pl vs.length q /\ SN.Up r q vs.length) rfl h2' (by omega) (λ q st' s' _ har hf hg=>⟨hg.1,hf,q,hg.2.1,hg.2.2,kat_snds rfl har⟩) ?_) ?_ λ _ _ e=>e)
  ·refine SN.zU (r:=r) (λ i j hi hj C hC=>?_) inj (by omega) λ q hq u=>⟨rfl,hq,u⟩
   exact hc G KG i j hi hj _ C hC
  ·rintro ⟨⟨⟩,st'⟩ s' ⟨rfl,hf,q,hq,u,eo⟩
   dsimp only
   refine af (seqEpoch_at ho6 rfl (af (listUpdate_at ho6 rfl ?_ (aO _) ?_)))
   ·rw [hf]
    simp only [bne_self_eq_false,aS,if_false]
    rw [eo]
    exact aE (fin q hq u)
   ·rw [eo,aT,au,cg,hq.sz,sizeLine_eq]
    omega
end
def mR(k:bf):Int:=k.1 * 10000 + match k.2 with | none=>0 | some p=>SN.rk p
def Nn(k:bf):Prop:=∀ p,k.2=some p->0 <= p.1 /\ p.1 < 2 /\ 0 <= p.2 /\ p.2 < 1000
def Alike(x y:bf):Prop:=x.2.isSome=y.2.isSome
theorem HG{x:bf}(hx:Nn x)(hy:Nn y)(ha:Alike x y)(e:mR x=mR y):x=y:=by
 obtain ⟨p,a⟩:=x
 obtain ⟨q,b⟩:=y
 unfold mR at e
 cases a with
 | none =>
  cases b with
  | none =>
   dsimp only at e
   have:p=q:=by omega
   rw [this]
  | some y=>cases ha
 | some x =>
  cases b with
  | none=>cases ha
  | some y =>
   have h1:=hx x rfl
   have h2:=hy y rfl
   obtain ⟨x1,x2⟩:=x
   obtain ⟨y1,y2⟩:=y
   change p * 10000 + (x1 * 1000 + x2)=q * 10000 + (y1 * 1000 + y2) at e
   dsimp only at h1 h2
   have e1:p=q:=by omega
   have e2:x1=y1:=by omega
   have e3:x2=y2:=by omega
   rw [e1,e2,e3]
theorem En{α β:Type}{f:α->β}{l m:List β}(h:l.Perm m):∀ {zs:List α},m=zs.map f->∃ ys:List α,ys.Perm zs /\ l=ys.map f:=by
 induction h with
 | nil=>intro zs e; exact ⟨[],by rw [List.map_eq_nil_iff.mp e.symm],rfl⟩
 | cons x h ih =>
  intro zs e
  cases zs with
  | nil=>cases e
  | cons z zs =>
   have e1:=List.cons.inj e
   obtain ⟨ys,h1,h2⟩:=ih e1.2
   exact ⟨z :: ys,h1.cons z,by rw [bR,<- h2,<- e1.1]⟩
 | swap x y l =>
  intro zs e
  cases zs with
  | nil=>cases e
  | cons z zs =>
   cases zs with
   | nil=>cases (List.cons.inj e).2
   | cons z2 zs =>
    have e1:=List.cons.inj e
    have e2:=List.cons.inj e1.2
    exact ⟨z2 :: z :: zs,.swap _ _ _,by rw [bR,bR,<- e1.1,<- e2.1,<- e2.2]⟩
 | trans _ _ i1 i2 =>
  intro zs e
  obtain ⟨ys,h1,h2⟩:=i2 e
  obtain ⟨xs,h3,h4⟩:=i1 h2
  exact ⟨xs,h3.trans h1,h4⟩
theorem range_getD{α:Type}(l:List α)(d:α):(List.range l.length).map (λ i=>l.getD i d)=l:=by
 apply List.ext_getElem?
 intro i
 rw [bh]
 rcases bX i l.length with h | h
 ·rw [List.getElem?_range h,fM h]
  show some (l.getD i d)=_
  rw [kg,fM h]
  rfl
 ·rw [gX (by rw [oZ]; exact h),gX h]
  rfl
section
variable {prog:Program}{w:World}{A:Around}{E:Value->Shared->Prop}{s:Shared}
theorem Eo{y:Addr}{ox oy:Obj}{n k:Nat}{a b c d:Int}{t1 t2 t3 t4:Tok}{Q:Value->Shared->Prop}(hu:A.units < cLine)(hx:s.heap.get? x=some ox)(cx:ox.cls=.type "tuple")(dx:ox.data=.seq #[.int a t1,.int b t2] n)(hy:s.heap.get? y=some oy)(cy:oy.cls=.type "tuple")(dy:oy.data=.seq #[.int c t3,.int d t4] k)
  (h:Q (.bool (if a=c then decide (b < d) else decide (a < c))) s):wpAny (model prog w) A (compareOp .Lt (.ref x) (.ref y)) Q E s:=by
 have tx:s.TypeIs (.ref x) "tuple" := ⟨ox,hx,cx⟩
 have ty:s.TypeIs (.ref y) "tuple" := ⟨oy,hy,cy⟩
 refine (show wpAny _ _ (richCompare .Lt (.ref x) (.ref y)) _ _ _ from wpAny_richCompare_same_room tx ty F.slot_tuple_lt (wpAny_call_entry F.slot_tuple_lt tx F.entry_tuple_lt ?_ (F.args_tuple_lt_2 _ _)) hu)
 show wpAny _ _ (isInstance (.ref y) (.type "tuple") >>= _) _ _ s
 refine af (wpAny_isInstance ty isSubtype_tuple_tuple ?_)
 simp only [dG,aS,if_false]
 refine af (wpAny_tupleItemsOf hx dx ?_)
 refine af (wpAny_tupleItemsOf hy dy ?_)
 refine af ?_
 show wpAny _ _ (forIn [(Value.int a t1,Value.int c t3),(Value.int b t2,Value.int d t4)] _ _) _ _ s
 rw [gW]
 refine af (af (wpAny_eqBool_int ?_))
 by_cases e:a=c
 ·rw [show (a == c)=true by simpa using e]
  simp only [dG,aS,if_false]
  rw [if_pos e] at h
  refine aE ?_
  dsimp only
  rw [gW]
  refine af (af (wpAny_eqBool_int ?_))
  by_cases e2:b=d
  ·rw [show (b == d)=true by simpa using e2]
   simp only [dG,aS,if_false]
   refine aE ?_
   dsimp only
   rw [jh]
   refine aE ?_
   rw [decide_eq_false (by omega)] at h
   exact aE ⟨_,rfl,(λ e=>nomatch e),h⟩
  ·rw [show (b == d)=false by simpa using e2]
   simp only [Bool.not_false,if_true]
   refine af (wpAny_rule ?_)
   refine af (show wpAny _ _ (compareOp .Lt (.int b t2) (.int d t4)) _ _ _ from PyProof.Rows.lt_int ?_)
   exact af (aE (aE (aE (aE ⟨_,rfl,(λ e=>nomatch e),h⟩))))
 ·rw [show (a == c)=false by simpa using e]
  simp only [Bool.not_false,if_true]
  rw [if_neg e] at h
  refine af (wpAny_rule ?_)
  refine af (show wpAny _ _ (compareOp .Lt (.int a t1) (.int c t3)) _ _ _ from PyProof.Rows.lt_int ?_)
  exact af (aE (aE (aE (aE ⟨_,rfl,(λ e=>nomatch e),h⟩))))
theorem Np{y:Addr}{k1 k2:bf}(hu:A.units + 1 < cLine)(hx:bB s.heap k1 x)(hy:bB s.heap k2 y)(o1:Nn k1)(o2:Nn k2)(al:Alike k1 k2)(h:Q (decide (mR k1 < mR k2)) s):wpAny (model prog w) A (keyLt' (tuples' true) (.ref x) (.ref y)) Q E s:=by
 obtain ⟨ox,n,t,u,h1,c1,d1,VZ⟩:=hx
 obtain ⟨oy,m,t',u',h2,c2,d2,Rf⟩:=hy
 obtain ⟨p,a⟩:=k1
 obtain ⟨q,b⟩:=k2
 dsimp only at d1 d2 VZ Rf
 refine kat_lt h1 d1 h2 d2 (kat_cons (wpAny_eqBool_int ?_))
 by_cases e:p=q
 ·subst e
  rw [show (p == p)=true by simp]
  refine kat_yes (kat_cons (Nj hu VZ Rf ?_))
  by_cases e2:a=b
  ·subst e2
   rw [decide_eq_true rfl]
   rw [decide_eq_false (by omega)] at h
   exact kat_yes (kat_nil h)
  ·rw [decide_eq_false e2]
   cases a with
   | none =>
    cases b with
    | none=>exact absurd rfl e2
    | some y=>cases al
   | some x1 =>
    cases b with
    | none=>cases al
    | some y1 =>
     obtain ⟨a1,oa,na,ta,ua,rfl,ga,ca,da⟩:=VZ
     obtain ⟨b1,ob,nb,tb,ub,rfl,gb,cb,db⟩:=Rf
     refine kat_no (kat_one _ _ (Eo (by omega) ga ca da gb cb db ?_))
     have b1:=o1 x1 rfl
     have b2:=o2 y1 rfl
     have er:decide (mR (p,some x1) < mR (p,some y1))=if x1.1=y1.1 then decide (x1.2 < y1.2) else decide (x1.1 < y1.1):=by
      obtain ⟨x1,x2⟩:=x1
      obtain ⟨y1,y2⟩:=y1
      dsimp only at b1 b2
      change decide (p * 10000 + (x1 * 1000 + x2) < p * 10000 + (y1 * 1000 + y2))=if x1=y1 then decide (x2 < y2) else decide (x1 < y1)
      split <;> simp only [decide_eq_decide] <;> omega
     rw [er] at h
     exact h
 ·rw [show (p == q)=false by simpa using e]
  refine kat_no (oneLt_int ?_)
  have er:decide (mR (p,a) < mR (q,b))=decide (p < q):=by
   have ba:0 <= mR (p,a) - p * 10000 /\ mR (p,a) - p * 10000 < 10000:=by
    cases a with
    | none=>change 0 <= p * 10000 + 0 - p * 10000 /\ p * 10000 + 0 - p * 10000 < 10000; omega
    | some x=>have:=o1 x rfl; change 0 <= p * 10000 + (x.1 * 1000 + x.2) - p * 10000 /\ p * 10000 + (x.1 * 1000 + x.2) - p * 10000 < 10000; omega
   have bb:0 <= mR (q,b) - q * 10000 /\ mR (q,b) - q * 10000 < 10000:=by
    cases b with
    | none=>change 0 <= q * 10000 + 0 - q * 10000 /\ q * 10000 + 0 - q * 10000 < 10000; omega
    | some x=>have:=o2 x rfl; change 0 <= q * 10000 + (x.1 * 1000 + x.2) - q * 10000 /\ q * 10000 + (x.1 * 1000 + x.2) - q * 10000 < 10000; omega
   simp only [decide_eq_decide]
   omega
  rw [<- er]
  exact h
abbrev j8(h:Heap):List Value->List bf->Prop:=Paired λ v k=>∃ a,v=.ref a /\ bB h k a
theorem j8.stay{vs:List Value}{ks:List bf}(x:j8 h vs ks)(e:∀ b o vs n,o.cls=.type "tuple" -> o.data=.seq vs n->h.get? b=some o->h'.get? b=some o):j8 h' vs ks:=L2.Paired.AO x λ v k ⟨a,e1,e2⟩=>⟨a,e1,e2.stay e⟩
theorem j8.tups:∀ {vs:List Value} {ks:List bf},j8 h vs ks->∃ fs:List Value,KatTups h vs fs /\ fs.length=vs.length /\ ∀ v∈fs,∃ i t,v=Value.int i t
 | _,_,.nil=>⟨[],.nil,rfl,λ v hv=>nomatch hv⟩
 | _,_,.cons ⟨a,e,o,n,t,v,h1,h2,h3,_⟩ r=>by
  obtain ⟨fs,a1,a2,a3⟩:=j8.tups r
  subst e
  refine ⟨_ :: fs,KatTups.cons h1 h2 h3 rfl a1,by simp [a2],λ v hv=>?_⟩
  rcases aG.mp hv with e | hv
  ·exact ⟨_,_,e⟩
  ·exact a3 v hv
theorem j8.get:∀ {vs:List Value} {ks:List bf} (_:j8 h vs ks) {i:Nat} (_:i < vs.length),∃ a,vs.getD i Value.none=.ref a /\ bB h (ks.getD i (0,none)) a
 | _,_,.cons ⟨a,e,q⟩ r,0,_=>⟨a,e,q⟩
 | _,_,.cons _ r,i + 1,hi=>by
  obtain ⟨a,h1,h2⟩:=j8.get r (i:=i) (by simpa using hi)
  exact ⟨a,by simpa using h1,by simpa using h2⟩
theorem vm{zs:List (bf × Addr)}{Q:Value->Shared->Prop}(hu:A.units + 8 < cLine)(hh:A.handled=none)(S:tE prog w (!SG.bG w) s.heap d zs)(hzs:∀ z∈zs,bB s.heap z.1 z.2)(hok:∀ z∈zs,Nn z.1)(hal:∀ z∈zs,∀ y∈zs,Alike z.1 y.1)
  (h:∀ (p:Addr) (h':Heap) (d':Drawn) (tk c:Nat) (vs:List Value) (ks:List bf),s.heap.objs.size <= p->(∀ b x,s.heap.get? b=some x->h'.get? b=some x)->h'.get? p=some { cls:=.type "list", data:=.seq vs.toArray c } -> Paired (λ v k=>∃ a,v=Value.ref a /\ (k,a)∈zs) vs ks->(∀ k,k∈ks ↔ k∈zs.map (·.1))->ks.Pairwise (λ x y=>mR x < mR y)->vs.length=zs.length->Q (.ref p) { s with heap:=h',drawn:=d',toks:=tk }):
  wpAny (model prog w) A (call (.builtin "sorted") [.ref d]) Q E s:=by
 obtain ⟨o,es,ep,t,ho,hx,hd,T,hm,perm,nd,h4,hch⟩:=S
 have hsz:es.size=zs.length:=by rw [<- cg,perm.length_eq,au]
 refine su kind_sorted plain_sorted entry_sorted (args_sorted1 _) ?_
 unfold Builtin.«sorted»
 refine af (m:=checkCount "sorted" 1 1 _) (aE (af (SG.nq (by simp [hh]) ho hx hd T (by omega) ?_)))
 intro s1 acc k1 g1 o1 yo hp
 obtain ⟨h1,gg,dd,Q8,oo⟩:=s1
 dsimp only at k1 g1 o1 yo
 subst g1 o1
 have pv:acc.Perm (zs.map λ z=>Value.ref z.2):=by
  have:=hp.trans (perm.map (·.2))
  rw [eV] at this
  exact this
 obtain ⟨ys,hys,Ng⟩:∃ ys:List (bf × Addr),ys.Perm zs /\ acc=ys.map λ z=>Value.ref z.2:=by
  exact En pv rfl
 subst Ng
 have hyl:ys.length=zs.length:=hys.length_eq
 have hV:j8 h1 (ys.map λ z=>Value.ref z.2) (ys.map (·.1)):=by
  have all:∀ z∈ys,bB h1 z.1 z.2:=λ z hz=>(hzs z (hys.mem_iff.mp hz)).stay λ b o _ _ _ _ e=>k1 b o e
  clear hys hyl pv hp
  induction ys with
  | nil=>exact .nil
  | cons z ys ih=>exact .cons ⟨z.2,rfl,all z (by simp)⟩ (ih λ y hy=>all y (by simp [hy]))
 refine af (wpAny_newList ?_ (by rw [au,hyl,sizeLine_eq]; omega))
 have gN:(h1.push (seqObj "list" (ys.map λ z=>Value.ref z.2).toArray 0)).get? h1.objs.size=some (seqObj "list" (ys.map λ z=>Value.ref z.2).toArray 0):=fK _ rfl
 have V0:=hV.stay (h':=h1.push (seqObj "list" (ys.map λ z=>Value.ref z.2).toArray 0)) λ b o _ _ _ _ e=>bO _ e
 have Rg:∀ i,i < ys.length->(ys.map (·.1)).getD i (0,none)=((ys.getD i ((0,none),0)).1:bf) /\ ys.getD i ((0,none),0)∈ys:=λ i hi=>by
  rw [kg,kg,bh,fM hi]
  exact ⟨rfl,gY hi⟩
 have lm:(ys.map λ z=>Value.ref z.2).length=ys.length:=au _
 refine af (wpAny_holding (wpAny_call_entry slot_list_sort ⟨_,gN,rfl⟩ entry_list_sort (Em (r:=λ i=>mR ((ys.map (·.1)).getD i (0,none))) gN (by rw [lm,hyl]; omega) (λ G k=>(V0.stay k).tups) (λ G k i j hi hj E' C hC=>?_) (λ i j hi hj e=>?_) λ q hq u=>⟨_,rfl,?_⟩) (args_list_sort _)))
 ·obtain ⟨x,ex,gx⟩:=(V0.stay k).get hi
  obtain ⟨y,ey,gy⟩:=(V0.stay k).get hj
  rw [lm] at hi hj
  obtain ⟨e1,m1⟩:=Rg i hi
  obtain ⟨e2,m2⟩:=Rg j hj
  rw [ex,ey]
  refine Np (by simp only [Around.in1]; omega) gx gy ?_ ?_ ?_ hC
  ·rw [e1]; exact hok _ (hys.mem_iff.mp m1)
  ·rw [e2]; exact hok _ (hys.mem_iff.mp m2)
  ·rw [e1,e2]; exact hal _ (hys.mem_iff.mp m1) _ (hys.mem_iff.mp m2)
 ·rw [lm] at hi hj
  obtain ⟨e1,m1⟩:=Rg i hi
  obtain ⟨e2,m2⟩:=Rg j hj
  change mR ((ys.map (·.1)).getD i (0,none))=mR ((ys.map (·.1)).getD j (0,none)) at e
  rw [e1,e2] at e
  have e3:=HG (hok _ (hys.mem_iff.mp m1)) (hok _ (hys.mem_iff.mp m2)) (hal _ (hys.mem_iff.mp m1) _ (hys.mem_iff.mp m2)) e
  have TQ:(ys.map (·.1)).Nodup:=(hys.map (·.1)).nodup_iff.mpr nd
  rw [<- e1,<- e2,kg,fM (by simpa using hi),kg,fM (by simpa using hj)] at e3
  exact (oW TQ).mp e3
 ·rw [lm] at hq u
  obtain ⟨c,hc⟩:=sortedHeap_at (h:=h1.push (seqObj "list" (ys.map λ z=>Value.ref z.2).toArray 0)) (a:=h1.objs.size) (vs:=ys.map λ z=>Value.ref z.2) (n:=0) (out:=List.toArray (q.toList.map λ i=>(ys.map λ z=>Value.ref z.2).getD i Value.none)) gN
  refine aE ⟨_,rfl,h h1.objs.size _ dd Q8 c _ (q.toList.map λ i=>(ys.map (·.1)).getD i (0,none)) (g7 yo) (λ b x e=>?_) hc ?_ (λ k=>?_) ?_ (by rw [au,cg,hq.sz,hyl])⟩
  ·have hb:=aA (k1 b x e)
   rw [sortedHeap_old (aM hb) (by rw [size_push']; exact jl hb)]
   exact bO _ (k1 b x e)
  ·have all:∀ i∈q.toList,i < ys.length:=λ i hi=>fN.mp (hq.pm.mem_iff.mp hi)
   clear u hc hq
   generalize q.toList=l at all
   induction l with
   | nil=>exact .nil
   | cons i l ih =>
    have hi:=all i (by simp)
    refine .cons ?_ (ih λ j hj=>all j (by simp [hj]))
    obtain ⟨e1,m1⟩:=Rg i hi
    refine ⟨(ys.getD i ((0,none),0)).2,?_,?_⟩
    ·show (List.map (λ z=>Value.ref z.snd) ys).getD i Value.none=_
     rw [kg,bh,kg,fM hi]
     rfl
    ·show ((ys.map (·.1)).getD i (0,none),_)∈zs
     rw [e1]
     exact hys.mem_iff.mp m1
  ·have:=(hq.pm.map λ i=>(ys.map (·.1)).getD i (0,none)).mem_iff (a:=k)
   rw [this]
   have e:=range_getD (ys.map (·.1)) ((0,none):bf)
   rw [au] at e
   rw [e]
   exact (hys.map (·.1)).mem_iff
  ·rw [jj]
   intro i j hi hj hij
   rw [au,cg,hq.sz] at hi hj
   have:=u i j hij hj
   unfold SN.kv at this
   rw [oX,oX]
   have g:∀ i (hi:i < q.toList.length),q.toList[i]=q.getD i 0:=λ i hi=>by
    rw [Array.getD_eq_getD_getElem?,<- dz,fM hi]
    rfl
   rw [g,g]
   exact this
end
end HM
namespace SN
open PySem PySem.W PySem.Spec PyProof.Rows
section
variable {prog:Program}{w:World}{A:Around}{E:Value->Shared->Prop}{s:Shared}
end
end SN
namespace L2
open PySem PySem.Spec PyProof.Rows
variable {H H':Hp}{k:HM.bf}{v x:V}{P:Program}{w:World}{l d:Addr}{kvs:dJ}{xs:List (HM.bf × Addr × Value)}{s:Shared}{ep:Nat}
def cU(H:Hp):HM.dD->V->Prop
 | none,v=>v=.str "mark"
 | some p,v=>∃ a,v=.ref a /\ H a=some (.tup [.int p.1,.int p.2])
def aQ(H:Hp)(v:V)(k:HM.bf):Prop:=∃ a u,v=.ref a /\ H a=some (.tup [.int k.1,u]) /\ cU H k.2 u
abbrev bx(H:Hp):List V->List HM.bf->Prop:=Paired (aQ H)
theorem cU.same{k:HM.dD}(h:cU H k v)(s:aD H H'):cU H' k v:=by
 cases k with
 | none=>exact h
 | some p=>obtain ⟨a,e,q⟩:=h; exact ⟨a,e,s _ _ q⟩
theorem aQ.same(h:aQ H v k)(s:aD H H'):aQ H' v k:=let ⟨a,u,e,q,t⟩:=h; ⟨a,u,e,s _ _ q,t.same s⟩
theorem bx.same{vs:List V}{ks:List HM.bf}(h:bx H vs ks)(s:aD H H'):bx H' vs ks:=Paired.AO h λ _ _ x=>x.same s
def adr:V->Addr
 | .ref a=>a
 | _=>0
theorem aQ.adr(h:aQ H v k):v=.ref (L2.adr v):=by obtain ⟨a,u,rfl,_⟩:=h; rfl
section
variable {X:Cx}{pins:List (Addr × Obj)}{σ:St}{H:Hp}{s:Shared}{Q:VK}
theorem Inv.ZV(I:Inv X pins σ H s){k:HM.dD}{u:Value}(h:cU H k v)(r:RelV v u):HM.d9 s.heap k u:=by
 cases k with
 | none =>
  have h:v=.str "mark" := h
  subst h
  exact r
 | some p =>
  obtain ⟨a,rfl,q⟩:=h
  cases r
  obtain ⟨o,n,t,u,h1,h2,h3⟩:=I.pair q
  exact ⟨a,o,n,t,u,rfl,h1,h2,h3⟩
theorem Inv.hrm(I:Inv X pins σ H s){a:Addr}(h:aQ H (.ref a) k):HM.bB s.heap k a:=by
 obtain ⟨a',u,e,q,t⟩:=h
 cases e
 obtain ⟨_,its,r,o,h1,h2,n,h3⟩:=(show bT X.prog X.w H s.heap a (.tup [.int k.1,u]) from I.hok a _ q)
 cases r with
 | cons r1 r =>
  cases r with
  | cons r2 r =>
   cases r
   obtain ⟨t1,rfl⟩:=r1
   exact ⟨o,n,t1,_,h1,h2,h3,I.ZV t r2⟩
def pN(P:Program)(w:World)(p:Addr)(zs:List (HM.bf × Addr)):Heap->Prop:=λ h=>HM.tE P w (!SG.bG w) h p zs
def Ke(K:az)(P:Program)(w:World):List V->Hp->VK->Prop:=λ xs H Q=>∃ (l:Addr) (vs:List V) (ks:List HM.bf),xs=[.ref l] /\ bK K H l vs /\ bx H vs ks /\ ks.length <= 4 /\
 ∀ p H' zs,eB H p (.ext (pN P w p zs)) H'->(∀ z∈zs,aQ H (.ref z.2) z.1)->(∀ k,k∈zs.map (·.1) ↔ k∈ks)->Q (.ref p) H'
theorem By(hu:X.A.units + 64 < cLine)(hc:X.calm=true):cG X (.type "set") (Ke X.K X.prog X.w):=by
 intro pins s σ H xs us Q I r h
 obtain ⟨l,vs,ks,rfl,hl,hk,h4,q⟩:=h
 obtain ⟨u,rfl,ru⟩:=vals1 r
 cases ru
 obtain ⟨its,rv,⟨ol,n0,e1,e2,e3,e4⟩,_⟩:=I.list hl
 have VW:s.heap.IsList l its.toArray:=⟨ol,e1,e2,n0,e4⟩
 have CF:vs.length=ks.length:=hk.length
 have hsz:its.toArray.size=ks.length:=by have:=rv.length; rw [aT]; omega
 have hat:∀ i,i < ks.length->aQ H (.ref (adr (vs.getD i (.int 0)))) (ks.getD i (0,none)) /\ vs[i]? = some (.ref (adr (vs.getD i (.int 0)))):=λ i hi=>by
  have hi':i < vs.length:=by omega
  obtain ⟨k,hk1,hk2⟩:=jB hk (i:=i) (x:=vs[i]) (fM hi')
  have e1:vs.getD i (.int 0)=vs[i]:=by rw [kg,fM hi']; rfl
  have e2:ks.getD i (0,none)=k:=by rw [kg,hk1]; rfl
  rw [e1,e2,<- hk2.adr]
  exact ⟨hk2,fM hi'⟩
 refine HM.El (val:=λ i=>(ks.getD i (0,none),adr (vs.getD i (.int 0)))) (by omega) (I.ok.hd hc) VW (λ i v hv=>?_) (by omega) λ h' tk hS hkp=>?_
 ·have hi:i < ks.length:=by have:=(gE.mp hv).1; omega
  obtain ⟨a1,a2⟩:=hat i hi
  obtain ⟨u,hu,ru⟩:=rv.get a2
  rw [ji,hu] at hv
  cases hv
  cases ru
  exact ⟨rfl,I.hrm a1⟩
 ·rw [hsz] at hS
  refine ⟨.ref s.heap.objs.size,_,I.laid (t':=tk) (λ b o e=>hkp b o (aA e) e) (ay _) (o:=.ext (pN X.prog X.w s.heap.objs.size _)) ⟨hS,?_,λ h1 h2 hp he=>hp.at' he⟩,rfl,q _ _ _ ⟨I.hok.fresh (ay _),rfl⟩ (λ z hz=>?_) λ k=>?_⟩
  ·obtain ⟨o,_,_,_,ho,_⟩:=hS
   exact ⟨o,ho⟩
  ·obtain ⟨j,hj,rfl⟩:=HM.lg _ _ _ hz
   exact (hat j hj).1
  ·rw [HM.vh]
   constructor
   ·rintro ⟨j,hj,rfl⟩
    show ks.getD j (0,none)∈ks
    rw [kg,fM hj]
    exact gY hj
   ·intro hn
    obtain ⟨j,hj,e5⟩:=o4.mp hn
    refine ⟨j,hj,?_⟩
    show k=ks.getD j (0,none)
    rw [kg,fM hj,<- e5]
    rfl
def Ep(P:Program)(w:World):List V->Hp->VK->Prop:=λ xs H Q=>∃ (p:Addr) (zs:List (HM.bf × Addr)),xs=[.ref p] /\ H p=some (.ext (pN P w p zs)) /\ (∀ z∈zs,aQ H (.ref z.2) z.1) /\ (∀ z∈zs,HM.Nn z.1) /\ (∀ z∈zs,∀ y∈zs,HM.Alike z.1 y.1) /\
 ∀ q H' vs ks,eB H q (.lst vs) H'->bx H vs ks->(∀ k,k∈ks ↔ k∈zs.map (·.1))->ks.Pairwise (λ x y=>HM.mR x < HM.mR y)->Q (.ref q) H'
theorem yG(hu:X.A.units + 64 < cLine)(hc:X.calm=true):cG X (.builtin "sorted") (Ep X.prog X.w):=by
 intro pins s σ H xs us Q I r h
 obtain ⟨p,zs,rfl,hp,hz,hok,hal,q⟩:=h
 obtain ⟨u,rfl,ru⟩:=vals1 r
 cases ru
 obtain ⟨hS,_,_⟩:=I.hok p _ hp
 have h4:zs.length <= 4:=by obtain ⟨_,_,_,_,_,_,_,_,_,_,_,h4,_⟩:=hS; exact h4
 refine HM.vm (by omega) (I.ok.hd hc) hS (λ z hz'=>I.hrm (hz z hz')) hok hal λ a h' d' tk c vs ks hle hk ho hP hmem D6 hvl=>?_
 have hV:∀ {vs:List Value} {ks:List HM.bf},Paired (λ v k=>∃ a,v=Value.ref a /\ (k,a)∈zs) vs ks->∃ us:List V,Vals us vs /\ bx H us ks:=by
  intro vs ks r
  induction r with
  | nil=>exact ⟨[],.nil,.nil⟩
  | cons h _ ih =>
   obtain ⟨a,rfl,hm⟩:=h
   obtain ⟨us,u1,u2⟩:=ih
   exact ⟨.ref a :: us,.cons rfl u1,.cons (hz _ hm) u2⟩
 obtain ⟨us,u1,u2⟩:=hV hP
 have hl:us.length <= sizeLine:=by
  have e1:=u1.length
  rw [sizeLine_eq]
  omega
 exact ⟨.ref a,_,(I.Ym d').laid (t':=tk) hk hle (o:=.lst us) ⟨hl,vs,c,u1,ho⟩,rfl,q _ _ us ks ⟨I.hok.fresh hle,rfl⟩ u2 hmem D6⟩
theorem Nq{K:az}{vs:List V}{ks:List HM.bf}(hl:bK K H l vs)(hk:bx H vs ks)(h4:ks.length <= 4)(h:∀ p H' zs,eB H p (.ext (pN P w p zs)) H'->(∀ z∈zs,aQ H (.ref z.2) z.1)->(∀ k,k∈zs.map (·.1) ↔ k∈ks)->Q (.ref p) H'):Ke K P w [.ref l] H Q:=⟨l,vs,ks,rfl,hl,hk,h4,h⟩
theorem HH{p:Addr}{zs:List (HM.bf × Addr)}(hp:H p=some (.ext (pN P w p zs)))(hz:∀ z∈zs,aQ H (.ref z.2) z.1)(hok:∀ z∈zs,HM.Nn z.1)(hal:∀ z∈zs,∀ y∈zs,HM.Alike z.1 y.1)(h:∀ q H' vs ks,eB H q (.lst vs) H'->bx H vs ks->(∀ k,k∈ks ↔ k∈zs.map (·.1))->ks.Pairwise (λ x y=>HM.mR x < HM.mR y)->Q (.ref q) H'):Ep P w [.ref p] H Q:=⟨p,zs,rfl,hp,hz,hok,hal,h⟩
end
section
variable {K:az}{H:Hp}{Q:VK}
theorem cU.rd{k:HM.dD}(h:cU H k x):RD K H x (HM.jd k):=by
 cases k with
 | none=>have h:x=.str "mark" := h; subst h; exact .str _
 | some p=>obtain ⟨a,rfl,q⟩:=h; exact .tup (fF.of q) (.cons (.int _) (.cons (.int _) .nil))
theorem aQ.rd(h:aQ H x k):RD K H x (HM.qN k):=by
 obtain ⟨a,u,rfl,q,t⟩:=h
 exact .tup (fF.of q) (.cons (.int _) (.cons t.rd .nil))
theorem Er(k:HM.dD):Sh 1 (HM.jd k):=⟨HM.nX k,HM.mL k⟩
theorem Kf{k:HM.dD}(h:cU H k x)(q:Q (.bl k.isNone) H):Hf K x (.str "mark") H Q:=by
 refine M1 (HM.jd k) (.str "mark") 1 (by decide) h.rd (.str _) (Er k) (Er none) ?_
 have:=HM.tD k none
 rw [show PyData.str "mark" = HM.jd none from rfl,this]
 cases k <;> exact q
end
abbrev dJ:=List (HM.bf × Addr × V)
def je:dJ->List (HM.bf × Addr × Value)->Prop:=Paired λ (p:HM.bf × Addr × V) (q:HM.bf × Addr × Value)=>p.1=q.1 /\ p.2.1=q.2.1 /\ RelV p.2.2 q.2.2
def cA(P:Program)(w:World)(d:Addr)(ep:Nat)(kvs:dJ):Heap->Prop:=λ h=>kvs.length <= sizeLine /\ (d == sysModules)=false /\ ∃ xs,je kvs xs /\ ∃ o es,h.get? d=some o /\ o.ExactDict /\ o.data=.dict es ep /\ es.toList=xs.map (entryOfKey (HM.cT P w)) /\ (xs.map (·.1)).Nodup
def bJ(H:Hp)(kvs:dJ):Prop:=∀ x∈kvs,aQ H (.ref x.2.1) x.1
theorem bJ.same(h:bJ H kvs)(s:aD H H'):bJ H' kvs:=λ x hx=>(h x hx).same s
def iQ(kvs:dJ)(k:HM.bf):Option V:=(kvs.find? λ x=>decide (x.1=k)).map (·.2.2)
def iz(kvs:dJ)(k:HM.bf)(a:Addr)(v:V):dJ:=if (iQ kvs k).isSome then kvs.map (λ x=>if x.1=k then (x.1,x.2.1,v) else x) else kvs++[(k,a,v)]
theorem je.val(r:je kvs xs)(k:HM.bf):iK (iQ kvs k) ((atKey xs k).map (·.2)):=by
 unfold je at r
 induction r with
 | nil=>exact dO
 | @cons p q ps qs h t ih =>
  unfold iQ atKey at ih ⊢
  rw [eE,eE,<- h.1]
  by_cases e:p.1=k
  ·rw [decide_eq_true e]
   exact h.2.2
  ·rw [decide_eq_false e]
   exact ih
theorem je.put(r:je kvs xs)(k:HM.bf){b:Addr}{y:V}{u:Value}(ry:RelV y u):je (iz kvs k b y) (storedH xs k b u):=by
 have e:(iQ kvs k).isSome=(atKey xs k).isSome:=by rw [(r.val k).jP,Option.isSome_map]
 unfold iz storedH
 rw [e]
 by_cases q:(atKey xs k).isSome=true
 ·rw [if_pos q,if_pos q]
  clear e q
  unfold je at r ⊢
  induction r with
  | nil=>exact .nil
  | @cons p q ps qs h t ih =>
   rw [bR,bR]
   refine .cons ?_ ih
   obtain ⟨h1,h2,h3⟩:=h
   unfold putAt
   by_cases e:p.1=k
   ·rw [if_pos e,if_pos (h1.symm.trans e)]; exact ⟨h1,h2,ry⟩
   ·rw [if_neg e,if_neg (λ z=>e (h1.trans z))]; exact ⟨h1,h2,h3⟩
 ·rw [if_neg q,if_neg q]
  exact cC r ⟨rfl,rfl,ry⟩
theorem vn(kvs:dJ)(k:HM.bf)(a:Addr)(v:V):(iz kvs k a v).length <= kvs.length + 1:=by
 unfold iz
 split <;> simp
section
variable {X:Cx}{pins:List (Addr × Obj)}{σ:St}{H:Hp}{s:Shared}{d b:Addr}{ep:Nat}{kvs:dJ}{k:HM.bf}{A:Around}{E:Value->Shared->Prop}
def DH(P:Program)(w:World)(H:Hp)(d:Addr)(ep:Nat)(kvs:dJ):Prop:=H d=some (.ext (cA P w d ep kvs)) /\ bJ H kvs
theorem Inv.dh(I:Inv X pins σ H s)(h:DH X.prog X.w H d ep kvs):kvs.length <= sizeLine /\ (d == sysModules)=false /\ ∃ xs,je kvs xs /\ s.heap.DictOfH (HM.cT X.prog X.w) d xs:=by
 obtain ⟨⟨z,hd,xs,rel,o,es,h1,h2,h3,h4,h5⟩,_,_⟩:=I.hok d _ h.1
 refine ⟨z,hd,xs,rel,o,es,ep,h1,h2,h3,h4,λ x hx=>?_,h5⟩
 have all:∀ {kvs:dJ} {xs:List (HM.bf × Addr × Value)},je kvs xs->bJ H kvs->∀ x∈xs,HM.bB s.heap x.1 x.2.1:=by
  intro kvs xs r
  unfold je at r
  induction r with
  | nil=>intro _ x hx; exact nomatch hx
  | @cons p q ps qs hq t ih =>
   intro hk x hx
   rcases aG.mp hx with e | hx
   ·subst e
    have:=I.hrm (hk p (by simp))
    rw [hq.1,hq.2.1] at this
    exact this
   ·exact ih (λ y hy=>hk y (by simp [hy])) x hx
 exact all rel h.2 x hx
theorem z9(hu:A.units + 64 < cLine):(HM.cT X.prog X.w).room A.in1:=by
 show A.in1.units + 2 < cLine
 simp only [Around.in1]
 omega
theorem pO{Q:Value->Shared->Prop}(hu:A.units + 64 < cLine)(I:Inv X pins σ H s)(h:DH X.prog X.w H d ep kvs)(hb:aQ H (.ref b) k)(hv:iQ kvs k=some v)(q:∀ w' s',Inv X pins σ H s'->RelV v w'->Q w' s'):
  wpAny (model X.prog X.w) A (getItem (.ref d) (.ref b)) Q E s:=by
 obtain ⟨z,hd,xs,rel,dd⟩:=I.dh h
 obtain ⟨w',hw,rw'⟩:=iK.some_of (v:=v) (o:=(atKey xs k).map (·.2)) (by rw [<- hv]; exact rel.val k)
 obtain ⟨p,hp,hp2⟩:=cO.mp hw
 refine wpAny_getItem_heap (z9 hu) (I.hrm hb) dd hp ?_
 rw [hp2]
 exact q w' _ (I.tok _) rw'
theorem yH{h':Heap}{kvs:dJ}(z:kvs.length <= sizeLine)(hd:(d == sysModules)=false)(rel:je kvs xs)(dd:h'.DictOfH (HM.cT X.prog X.w) d xs):∃ ep,∀ {H':Hp},bT X.prog X.w H' h' d (.ext (cA X.prog X.w d ep kvs)):=by
 obtain ⟨o,es,ep,h1,h2,h3,h4,_,h5⟩:=dd
 refine ⟨ep,λ {H'}=>⟨⟨z,hd,xs,rel,o,es,h1,h2,h3,h4,h5⟩,⟨o,h1⟩,λ g1 g2 hp he=>?_⟩⟩
 obtain ⟨z,hd,xs,rel,o,es,h1,h2⟩:=hp
 exact ⟨z,hd,xs,rel,o,es,he _ h1,h2⟩
theorem pP{r:Value}{Q:Unit->Shared->Prop}(hu:A.units + 64 < cLine)(I:Inv X pins σ H s)(h:DH X.prog X.w H d ep kvs)(hb:aQ H (.ref b) k)(hl:kvs.length < sizeLine)(rv:RelV v r)
  (q:∀ m9 s',Inv X pins σ (upd H d (.ext (cA X.prog X.w d m9 (iz kvs k b v)))) s'->Q () s'):wpAny (model X.prog X.w) A (setItem (.ref d) (.ref b) r) Q E s:=by
 obtain ⟨z,hd,xs,rel,dd⟩:=I.dh h
 have hz:xs.length <= sizeLine:=by rw [<- fR rel]; exact z
 have hl2:(iz kvs k b v).length <= sizeLine:=by have:=vn kvs k b v; omega
 refine wpAny_setItem_heap (hsz:=hz) (z9 hu) (I.hrm hb) dd λ h' LP hs=>?_
 obtain ⟨m9,ho'⟩:=yH (X:=X) hl2 hd (rel.put k rv) LP
 refine q m9 _ ?_
 have ho:=ho' (H':=upd H d (.ext (cA X.prog X.w d m9 (iz kvs k b v))))
 exact sR I (by rw [h.1]; exact dO) hs ho.2.1 ho
end
def Es(P:Program)(w:World):R2:=λ x y H Q=>∃ d b ep kvs k v,x=.ref d /\ y=.ref b /\ DH P w H d ep kvs /\ aQ H (.ref b) k /\ iQ kvs k=some v /\ Q v H
def Et(P:Program)(w:World)(v x y:V)(H:Hp)(R:Hp->Prop):Prop:=∃ d b ep kvs k,x=.ref d /\ y=.ref b /\ DH P w H d ep kvs /\ aQ H (.ref b) k /\ kvs.length <= 1000000 /\ ∀ m9 H',lX H d (.ext (cA P w d m9 (iz kvs k b v))) H'->R H'
def Eu(P:Program)(w:World)(td ty tv:TE):TS:=λ D σ H=>tv σ H λ v H1=>td σ H1 λ x H2=>ty σ H2 λ y H3=>Et P w v x y H3 λ H4=>D.nx σ H4
def Ew(P:Program)(w:World)(td ty tv:TE)(rd:V->V->Hp->VK->Prop):TS:=λ D σ H=>td σ H λ x H1=>ty σ H1 λ y H2=>Es P w x y H2 λ v H3=>tv σ H3 λ y2 H4=>rd v y2 H4 λ z H5=>Et P w z x y H5 λ H6=>D.nx σ H6
def Ex(P:Program)(w:World):TE:=λ _ H Q=>∀ p ep H',eB H p (.ext (cA P w p ep [])) H'->Q (.ref p) H'
section
variable {X:Cx}{o i e value:Expr}{pos pos' tpos:Pos}{td ty tv:TE}
theorem vo:PE X (.Dict [] [] pos) (Ex X.prog X.w):=λ pins s σ H Q I h =>
 let ⟨ep,ho⟩:=yH (X:=X) (kvs:=[]) (aO _) (beq_eq_false_iff_ne.mpr (aV (aM I.big))) .nil (Heap.DictOfH.new s.heap)
 wpAny_Dict_empty ⟨.ref s.heap.objs.size,_,I.laid (a:=s.heap.objs.size) (o:=.ext (cA X.prog X.w s.heap.objs.size ep [])) (t':=s.toks) (λ _ _ q=>bO _ q) (ay _) ho,rfl,h _ ep _ ⟨I.hok.fresh (ay _),rfl⟩⟩
theorem Inv.ZW{pins:List (Addr × Obj)}{σ:St}(I:Inv X pins σ H s)(h:DH X.prog X.w H d ep kvs):s.TypeIs (.ref d) "dict" := by
 obtain ⟨_,_,_,_,dd⟩:=I.dh h
 exact dd.typeIs
theorem iA(hu:X.A.units + 64 < cLine)(ho:PE X o td)(hi:PE X i ty)(hs:GL i):PE X (.Subscript o i pos) (Lq (Es X.prog X.w) td ty):=by
 intro pins s σ H Q I h
 refine zD PySem.F.slot_dict_getitem.lookup hs (bV (ho pins s σ H _ I h) λ u s1 ⟨x,H1,I1,rx,q1⟩=>bV (hi pins s1 σ H1 _ I1 q1) λ iv s2 ⟨y,H2,I2,ry,d,b,ep,kvs,k,v,ex,ey,hd,hb,hv,q2⟩=>?_)
 subst ex ey
 obtain rfl:u=Value.ref d:=rx
 obtain rfl:iv=Value.ref b:=ry
 exact ⟨I2.ZW hd,pO hu I2 hd hb hv λ w' s3 I3 rw'=>⟨v,H2,I3,rw',q2⟩⟩
theorem vp(hu:X.A.units + 64 < cLine)(ho:PE X o td)(hi:PE X i ty)(hv:PE X value tv)(hs:swapsWith value (some (.Subscript o i pos')) pos.line X.env=pure false):
  PS X (.Assign [.Subscript o i pos'] value pos) (Eu X.prog X.w td ty tv):=by
 intro pins s σ H D I h
 refine wpAny_Assign_Subscript (bV (hv pins s σ H _ I h) λ r s1 ⟨v,H1,I1,rv,q1⟩=>bV (ho pins s1 σ H1 _ I1 q1) λ u s2 ⟨x,H2,I2,rx,q2⟩=>bV (hi pins s2 σ H2 _ I2 q2) λ iv s3 ⟨y,H3,I3,ry,d,b,ep,kvs,k,ex,ey,hd,hb,hl,q3⟩=>?_) hs
 subst ex ey
 obtain rfl:u=Value.ref d:=rx
 obtain rfl:iv=Value.ref b:=ry
 exact pP hu I3 hd hb (by rw [sizeLine_eq]; omega) rv λ m9 s4 I4=>⟨σ,_,I4,q3 m9 _ rfl⟩
theorem Ey{op:Operator}{rd:V->V->Hp->VK->Prop}(hu:X.A.units + 64 < cLine)(ho:PE X o td)(hi:PE X i ty)(hv:PE X value tv)(hop:Pz X op rd)
  (ha:∀ ov iv new,augStore i ov iv new=(do holding [new,ov,iv] (setItem ov iv new); release [new,ov,iv] []; pure .next)):PS X (.AugAssign (.Subscript o i tpos) op value pos) (Ew X.prog X.w td ty tv rd):=by
 intro pins s σ H D I h
 refine wpAny_AugAssign_SubscriptAny (bV (ho pins s σ H _ I h) λ u s1 ⟨x,H1,I1,rx,q1⟩=>bV (hi pins s1 σ H1 _ I1 q1) λ iv s2 ⟨y,H2,I2,ry,d,b,ep,kvs,k,v,ex,ey,hd,hb,hvl,q2⟩=>?_) ha
 subst ex ey
 obtain rfl:u=Value.ref d:=rx
 obtain rfl:iv=Value.ref b:=ry
 refine pO hu I2 hd hb hvl λ w' s3 I3 rw'=>bV (hv pins s3 σ H2 _ I3 q2) λ w2 s4 ⟨y2,H3,I4,ZX,q3⟩=>bV (hop pins s4 σ H3 v y2 w' w2 _ I4 rw' ZX q3) λ w3 s5 ⟨z,H4,I5,rz,d5,b5,ep5,ZY,k5,ZZ,Z0,Z1,Z2,hl5,q4⟩=>?_
 cases ZZ
 cases Z0
 exact pP hu I5 Z1 Z2 (by rw [sizeLine_eq]; omega) rz λ m9 s6 I6=>⟨σ,_,I6,q4 m9 _ rfl⟩
end
def Ez(P:Program)(w:World)(d:Addr)(ep:Nat)(kvs:dJ):It :=
 ⟨λ i H=>H d=some (.ext (cA P w d ep kvs)) /\ i < kvs.length,λ i H x H'=>H'=H /\ ∃ e,kvs[i]? = some e /\ x=.ref e.2.1,λ i H=>H d=some (.ext (cA P w d ep kvs)) /\ i=kvs.length⟩
theorem Inv.raw{X:Cx}{pins:List (Addr × Obj)}{σ:St}(I:Inv X pins σ H s)(h:H d=some (.ext (cA X.prog X.w d ep kvs))):
  (d == sysModules)=false /\ kvs.length <= sizeLine /\ ∃ es:Array DictEntry,SN.gD s.heap d es ep /\ es.size=kvs.length /\ ∀ (i:Nat) e,kvs[i]? = some e->∃ u,es[i]? = some u /\ u.key=.ref e.2.1 /\ RelV e.2.2 u.val:=by
 obtain ⟨⟨z,hd,xs,rel,o,es,h1,h2,h3,h4,h5⟩,_,_⟩:=I.hok d _ h
 have hl:xs.length=kvs.length:=(fR rel).symm
 have hs:es.size=xs.length:=by rw [<- cg,h4,au]
 refine ⟨hd,z,es,⟨o,h1,h2,h3⟩,by omega,λ i e he=>?_⟩
 obtain ⟨x,hx,r1,r2,r3⟩:=jB rel he
 refine ⟨entryOfKey (HM.cT X.prog X.w) x,?_,?_,?_⟩
 ·rw [<- dz,h4,bh,hx]
  rfl
 ·show Value.ref x.2.1=_
  rw [r2]
 ·exact r3
theorem yI{K:az}{tg:Expr}(d it:Addr)(ep:Nat)(kvs:dJ):Turn P w K tg (Ez P w d ep kvs) [it] it (λ i h=>h.IsKeyIter it d i kvs.length ep) where
 mem:=by simp
 obj:=λ i h st b hb=>by
  have e:b=it:=by simpa using hb
  subst e
  obtain ⟨o,e,c,dd⟩:=st
  exact ⟨o,e,λ v z=>by rw [dd] at z; cases z⟩
 keep:=λ i h h' st k=>st.at λ o e=>k it (by simp) o e
 item:=by
  intro X hP hw hK hc i pins s σ H E I hf st hg
  subst hP hw hK
  obtain ⟨hd,hi⟩:=hg
  obtain ⟨_,_,es,rd,hs,hat⟩:=I.raw hd
  obtain ⟨f0,f1,f2,f3,f4,f5⟩:=hf it (by simp)
  have he:kvs[i]? = some kvs[i]:=fM hi
  obtain ⟨u,hu,hk,_⟩:=hat i _ he
  rw [<- hs] at st
  refine SN.u0 st rd hu λ h' st' sb=>?_
  have I1:Inv X pins σ H { s with heap:=h' }:=I.turned (t':=s.toks) (λ b o hb e=>(sb.2 b hb).trans e) f0 f1 f3 f4 f5
  rw [hs] at st'
  obtain ⟨o,e,c,dd⟩:=id st'
  exact ⟨u.key,rfl,zq (s:={ s with heap:=h' }) e c dd (by decide) ⟨.ref kvs[i].2.1,H,I1,hk,⟨rfl,_,he,rfl⟩,st',λ b hb=>(hf b hb).1⟩⟩
 done:=by
  intro X hP hw hK hc i pins s σ H E I hf st hg
  subst hP hw hK
  obtain ⟨hd,hi⟩:=hg
  obtain ⟨_,_,es,rd,hs,hat⟩:=I.raw hd
  obtain ⟨f0,f1,f2,f3,f4,f5⟩:=hf it (by simp)
  subst hi
  rw [<- hs] at st
  exact SN.zV (I.ok.hd hc) st rd λ h' eb=>⟨rfl,I.turned (t':=s.toks) (λ b o hb e=>eb b o hb e) f0 f1 f3 f4 f5⟩
 self:=λ _ _ _ _ _ st h=>wpAny_pyIter_keyiter st h
def Nr(P:Program)(w:World)(R:It->Hp->Prop):V->Hp->Prop:=λ x H=>∃ d ep kvs,x=.ref d /\ H d=some (.ext (cA P w d ep kvs)) /\ R (Ez P w d ep kvs) H
def EA(P:Program)(w:World)(tl:TE):TI:=λ σ H R=>tl σ H (Nr P w R)
section
variable {X:Cx}{tg:Expr}
theorem lq{l:Expr}{tl:TE}(hl:PE X l tl):PI X tg l (EA X.prog X.w tl):=by
 intro pins s σ H R I h
 refine bV (hl pins s σ H _ I h) λ v s1 ⟨x,H1,I1,r1,q1⟩=>?_
 obtain ⟨d,ep,kvs,e,hd,q⟩:=q1
 subst e
 cases r1
 obtain ⟨lo,_,es,rd,hs,hat⟩:=I1.raw hd
 refine SN.uZ lo rd ?_
 refine ⟨s1.heap.objs.size,[s1.heap.objs.size],_,_,H1,rfl,I1.kept (t':=s1.toks) λ b o e=>bO _ e,yI d _ ep kvs,⟨_,fK _ rfl,rfl,by rw [<- hs]; rfl⟩,λ b hb=>?_,q⟩
 have e:b=s1.heap.objs.size:=by simpa using hb
 subst e
 exact I1.mz (ay _) (I1.hok.fresh (ay _))
end
section
variable {K:az}{nx bk ct:St->Hp->Prop}{rt:VK}{σ:St}{H:Hp}{Q:VK}{te:TE}{P:Program}{w:World}
theorem EB{tl:TE}{R:It->Hp->Prop}(h:tl σ H (Nr P w R)):EA P w tl σ H R:=h
theorem Rh{R:It->Hp->Prop}(hd:H d=some (.ext (cA P w d ep kvs)))(h:R (Ez P w d ep kvs) H):Nr P w R (.ref d) H:=⟨d,ep,kvs,rfl,hd,h⟩
theorem HJ{g:TG}{tb:TS}(Pv:Nat->St->Hp->Prop)(h0:Pv 0 σ H)(hl:∀ i σ H,i <= kvs.length->Pv i σ H->H d=some (.ext (cA P w d ep kvs)))
  (hs:∀ i e σ H,kvs[i]? = some e->Pv i σ H->g (.ref e.2.1) σ H λ σ2 H2=>tb ⟨Pv (i + 1),rt,nx,Pv (i + 1)⟩ σ2 H2)(hd:∀ σ H,Pv kvs.length σ H->nx σ H):Mh (Ez P w d ep kvs) g tb nx rt σ H :=
 ⟨λ i m σ H=>m=kvs.length - i /\ i <= kvs.length /\ Pv i σ H,⟨kvs.length,by omega,by omega,h0⟩,λ i m σ' H' ⟨e,hi,p⟩=>by
  rcases bX i kvs.length with hlt | hge
  ·refine .inr ⟨⟨hl i _ _ hi p,hlt⟩,Pv (i + 1),λ σ2 H2 q=>⟨kvs.length - (i + 1),by omega,rfl,hlt,q⟩,?_⟩
   rintro x H2 ⟨rfl,e,he,rfl⟩
   exact hs i e σ' _ he p
  ·have e:i=kvs.length:=by omega
   subst e
   exact .inl ⟨⟨hl _ _ _ hi p,rfl⟩,hd _ _ p⟩⟩
theorem tF{tt:TT}{τ:St}(Pv:Nat->List V->Hp->Prop)(h0:Pv 0 [] H)(hl:∀ i ys H,i <= kvs.length->Pv i ys H->H d=some (.ext (cA P w d ep kvs)))
  (hs:∀ i e ys H,kvs[i]? = some e->Pv i ys H->ys.length < sizeLine /\ tt (some (.ref e.2.1) :: τ) H λ b H3=>if b=true then te (some (.ref e.2.1) :: τ) H3 λ y H4=>Pv (i + 1) (ys++[y]) H4 else Pv (i + 1) ys H3)
  (hd:∀ ys H,Pv kvs.length ys H->∀ p H',eB H p (.lst ys) H'->Q (.ref p) H'):DN (Ez P w d ep kvs) tt te τ Q H:=by
 refine ⟨λ i m ys H=>m=kvs.length - i /\ i <= kvs.length /\ Pv i ys H,⟨kvs.length,by simp,aO _,h0⟩,?_⟩
 rintro i m ys H ⟨rfl,hi,p⟩
 have q:=hl i ys H hi p
 by_cases hlt:i < kvs.length
 ·have hx:kvs[i]? = some kvs[i]:=by simp [hlt]
  obtain ⟨hz,q'⟩:=hs i _ ys H hx p
  refine .inr ⟨⟨q,hlt⟩,hz,Pv (i + 1),λ σ' H' p'=>⟨kvs.length - (i + 1),by omega,rfl,hlt,p'⟩,λ x H' y=>?_⟩
  obtain ⟨e,e2,he,y⟩:=y
  subst e y
  rw [hx] at he
  cases he
  exact q'
 ·have e:i=kvs.length:=by omega
  subst e
  exact .inl ⟨⟨q,rfl⟩,λ r hr=>hd ys H p r _ ⟨hr,rfl⟩⟩
end
def g9(ks:Nat->HM.bf × Addr)(vs:Nat->V):Nat->dJ
 | 0=>[]
 | n + 1=>iz (g9 ks vs n) (ks n).1 (ks n).2 (vs n)
theorem pQ(ks:Nat->HM.bf × Addr)(vs:Nat->V):∀ n,(g9 ks vs n).length <= n
 | 0=>ay _
 | n + 1=>by
  have h1:=pQ ks vs n
  have h2:=vn (g9 ks vs n) (ks n).1 (ks n).2 (vs n)
  show (iz (g9 ks vs n) (ks n).1 (ks n).2 (vs n)).length <= n + 1
  omega
theorem BA(h:k ∉ kvs.map (·.1)):iQ kvs k=none:=by
 unfold iQ
 rw [List.find?_eq_none.mpr λ x hx e=>h (aF.mpr ⟨x,hx,by simpa using e⟩)]
 rfl
theorem pR{a:Addr}(h:k ∉ kvs.map (·.1)):iz kvs k a v=kvs++[(k,a,v)]:=by
 unfold iz
 rw [BA h]
 rfl
theorem rD{ks:Nat->HM.bf × Addr}{vs:Nat->V}:∀ {n:Nat},(∀ i j,i < j->j < n->(ks i).1 ≠ (ks j).1)->g9 ks vs n=(List.range n).map λ i=>((ks i).1,(ks i).2,vs i)
 | 0,_=>rfl
 | n + 1,h=>by
  have ih:=rD (ks:=ks) (vs:=vs) (n:=n) λ i j hi hj=>h i j hi (by omega)
  show iz (g9 ks vs n) (ks n).1 (ks n).2 (vs n)=_
  rw [ih,pR,List.range_succ,bD]
  ·rfl
  ·intro hm
   obtain ⟨x,hx,e⟩:=aF.mp hm
   obtain ⟨i,hi,rfl⟩:=aF.mp hx
   exact h i n (fN.mp hi) (by omega) e
section
variable {prog:Program}{w:World}{A:Around}
theorem Aa{h h':Heap}{it:Addr}(dd:h.DictOfH (HM.cT prog w) d xs)(hd:d ≠ it)(hi:∀ o vs n,h.get? it=some o->o.data ≠ .seq vs n)(k:∀ b o,b ≠ it->h.get? b=some o->h'.get? b=some o):h'.DictOfH (HM.cT prog w) d xs:=by
 obtain ⟨o,es,ep,h1,h2,h3,h4,h5,h6⟩:=dd
 refine ⟨o,es,ep,k d o hd h1,h2,h3,h4,λ x hx=>?_,h6⟩
 exact HM.bB.stay (h5 x hx) λ b o vs n _ ds e=>k b o (λ z=>by subst z; exact hi o vs n e ds) e
theorem vq{R:Result->Shared->Prop}{s0:Shared}{it:Addr}{its:Array Value}{n:Nat}{ks:Nat->HM.bf × Addr}{vs:Nat->V}(hu:A.units + 10 < cLine)(hd:d ≠ it)(hdl:d ≠ l)(hli:l ≠ it)(hh:A.in1.handled=none)(hn:n <= sizeLine)(hsz:its.size=n)
  (hni:∀ o vs n,s0.heap.get? it=some o->o.data ≠ .seq vs n)(hnd:∀ o vs n,s0.heap.get? d=some o->o.data ≠ .seq vs n)
  (hp:∀ i,i < n->∃ (T:Addr) (v:Value) (o:Obj) (c:Nat),its[i]? = some (.ref T) /\ s0.heap.get? T=some o /\ o.cls=.type "tuple" /\ o.data=.seq #[.ref (ks i).2,v] c /\ T ≠ it /\ T ≠ d /\ HM.bB s0.heap (ks i).1 (ks i).2 /\ RelV (vs i) v)
  (hl:s0.heap.IsList l its)
  (hR:∀ h' tk rs,(∀ b o,b ≠ it->b ≠ d->s0.heap.get? b=some o->h'.get? b=some o)->h'.DictOfH (HM.cT prog w) d rs->je (g9 ks vs n) rs->R (.ok (.ret .none)) { s0 with heap:=h',toks:=tk }):
  ∀ (k i:Nat) (h:Heap) (t:Nat) (rs:List (HM.bf × Addr × Value)) (c:Tok),n - i=k->i <= n->(∀ b o,b ≠ it->b ≠ d->s0.heap.get? b=some o->h.get? b=some o)->h.IsListIter it l i->h.DictOfH (HM.cT prog w) d rs->je (g9 ks vs i) rs ->
   codeAny (model prog w) A (.builtin "dict.update.loop" ⟨[.ref d,.ref it,.int i c,.none],[]⟩) R { s0 with heap:=h,toks:=t }:=by
 have lst:∀ h:Heap,(∀ b o,b ≠ it->b ≠ d->s0.heap.get? b=some o->h.get? b=some o)->h.IsList l its:=λ h kp=>let ⟨o,q,r⟩:=hl; ⟨o,kp l o hli (aV hdl) q,r⟩
 have Yr:∀ {h:Heap} {i:Nat},h.IsListIter it l i->∀ o vs n,h.get? it=some o->o.data ≠ .seq vs n:=λ hit o vs n e z=>by
  obtain ⟨o',e',_,d'⟩:=hit
  rw [e] at e'
  cases e'
  rw [d'] at z
  cases z
 intro k
 induction k with
 | zero =>
  intro i h t rs c hk hi kp hit dd rel
  have e:i=n:=by omega
  subst e
  refine codeAny_builtin F.dR ?_
  rw [f7 F.bL _]
  show wpAny _ A.in1 (pyNext (.ref it) >>= _) _ _ _
  refine af (wpAny_pyNext_list_end (s:={ s0 with heap:=h,toks:=t }) hh hit (lst h kp) (oH (by omega)) λ h' k'=>?_)
  show wpAny _ A.in1 (Builtin.Dict.addKeywords d [] >>= _) _ _ _
  refine af (aE (aE ?_))
  exact hR h' t rs (λ b o b1 b2 q=>k' b o b1 (kp b o b1 b2 q)) (Aa dd hd (Yr hit) λ b o b1 q=>k' b o b1 q) rel
 | succ k ih =>
  intro i h t rs c hk hi kp hit dd rel
  have hlt:i < n:=by omega
  obtain ⟨T,v,o,cc,hx,hT,Z3,Z4,n1,n2,hk0,rv⟩:=hp i hlt
  refine codeAny_builtin F.dR ?_
  rw [f7 F.bL _]
  show wpAny _ A.in1 (pyNext (.ref it) >>= _) _ _ _
  refine af (wpAny_pyNext_list_item (s:={ s0 with heap:=h,toks:=t }) hit (lst h kp) hx λ h1 V1 OV=>?_)
  have k1:∀ b o,b ≠ it->h.get? b=some o->h1.get? b=some o:=λ b o b1 q=>OV.extBut b o b1 q
  have ht:h1.get? T=some o:=k1 T o n1 (kp T o n1 n2 hT)
  have d1:h1.DictOfH (HM.cT prog w) d rs:=Aa dd hd (Yr hit) k1
  have hk1:HM.bB h1 (ks i).1 (ks i).2:=HM.bB.stay hk0 λ b o vs n _ ds e=>by
   have b1:b ≠ it:=λ z=>by subst z; exact hni o vs n e ds
   have b2:b ≠ d:=λ z=>by subst z; exact hnd o vs n e ds
   exact k1 b o b1 (kp b o b1 b2 e)
  have VS:({ s0 with heap:=h1,toks:=t }:Shared).TypeIs (.ref T) "tuple" := ⟨_,ht,Z3⟩
  show wpAny _ A.in1 (holding [Value.ref T] _ >>= _) _ _ _
  refine af (wpAny_holding ?_)
  refine af (wpAny_tryCatch ?_)
  unfold Builtin.Dict.pairItems
  refine af (wpAny_typeOf VS ?_)
  show wpAny _ _ (seqItems? (.ref T) >>= _) _ _ _
  refine af (wpAny_seqItems ht Z4 (aE ?_))
  show wpAny _ _ (holding [.ref (ks i).2,v] (dictSet d (.ref (ks i).2) v)) _ _ _
  refine wpAny_holding (wpAny_dictSet_heap (hsz:=?_) (by show A.in1.units + 2 < cLine; simp only [Around.in1]; omega) hk1 d1 λ h2 d2 sb=>?_)
  ·refine aE ⟨plainId_quiet F.bL _,?_⟩
   refine ih (i + 1) h2 _ (storedH rs (ks i).1 (ks i).2 v) 0 (by omega) hlt (λ b o b1 b2 q=>?_) ?_ d2 (rel.put (ks i).1 rv)
   ·exact sb.extBut b o b2 (k1 b o b1 (kp b o b1 b2 q))
   ·obtain ⟨oi,xw,ri⟩:=V1
    exact ⟨oi,sb.extBut it oi (aV hd) xw,ri⟩
  ·rw [<- fR rel]
   exact bq (pQ ks vs i) (bq (g7 hlt) hn)
theorem vt{E:Value->Shared->Prop}{its:Array Value}{n:Nat}{ks:Nat->HM.bf × Addr}{vs:Nat->V}{Q:Value->Shared->Prop}(hu:A.units + 20 < cLine)(hx:PlainL s.heap l its)(hh:A.in1.in1.handled=none)(hn:n <= sizeLine)(hsz:its.size=n)
  (hp:∀ i,i < n->∃ (T:Addr) (v:Value) (o:Obj) (c:Nat),its[i]? = some (.ref T) /\ s.heap.get? T=some o /\ o.cls=.type "tuple" /\ o.data=.seq #[.ref (ks i).2,v] c /\ HM.bB s.heap (ks i).1 (ks i).2 /\ RelV (vs i) v)
  (q:∀ h' tk rs,(∀ b o,s.heap.get? b=some o->h'.get? b=some o)->h'.DictOfH (HM.cT prog w) s.heap.objs.size rs->je (g9 ks vs n) rs->Q (.ref s.heap.objs.size) { s with heap:=h',toks:=tk }):
  wpAny (model prog w) A (call (.type "dict") [.ref l]) Q E s:=by
 refine callType_codes (Q₁:=λ x s1=>x=.ref s.heap.objs.size /\ s1={ s with heap:=s.heap.push { cls:=.type "dict", data:=.dict #[] } }) F.kt_called_dict (F.kt_typeCall_dict_1 _) F.entry_dict_init (kt_code_dict_new _ ⟨rfl,rfl⟩) ?_
 rintro _ _ ⟨rfl,rfl⟩
 have dd:(s.heap.push { cls:=.type "dict", data:=.dict #[] }).DictOfH (HM.cT prog w) s.heap.objs.size []:=Heap.DictOfH.new s.heap
 have Z5:PlainL (s.heap.push { cls:=.type "dict", data:=.dict #[] }) l its:=hx.keeps λ b o e=>bO _ e
 refine ⟨dd.typeIs,F.args_dict_init_2 _ _,?_⟩
 unfold Builtin.«dict.__init__»
 refine af ?_
 unfold Builtin.Dict.selfAndRest
 refine af (wpAny_notOrdered_dict dd.typeIs ?_)
 refine aE (a:=(s.heap.objs.size,[Value.ref l])) ?_
 show wpAny _ _ (Builtin.Dict.updateFrom "dict.__init__" s.heap.objs.size (.ref l) [] .none) _ _ _
 unfold Builtin.Dict.updateFrom
 obtain ⟨⟨cls,dc,da,sl⟩,c,e0,e1,e2,e3⟩:=Z5
 simp only at e1 e2 e3
 subst e1 e2 e3
 refine af (wpAny_typeOf (T := "list") ⟨_,e0,rfl⟩ ?_)
 rw [if_pos (by decide)]
 refine af (ZP.Ho e0 hh λ h1 t1 k1=>?_)
 show wpAny _ _ (rule _ >>= _) _ _ _
 refine af (wpAny_rule ?_)
 have hl1:h1.IsList l its:=⟨_,k1 _ _ e0,rfl,c,rfl⟩
 refine af (wpAny_pyIter_list (s:={ s with heap:=h1,toks:=t1 }) hl1 ?_)
 refine aE ⟨plainId_quiet F.bL _,?_⟩
 have sz:∀ b o,s.heap.get? b=some o->b ≠ s.heap.objs.size:=λ b o e=>aM (aA e)
 have k0:∀ b o,s.heap.get? b=some o->h1.get? b=some o:=λ b o e=>k1 b o (bO _ e)
 have k2:∀ b o,h1.get? b=some o->(h1.push { cls:=.type "list_iterator", data:=.fields #[.ref l,.int 0 0] }).get? b=some o:=λ b o e=>bO _ e
 have TR:∀ b o,h1.get? b=some o->b ≠ h1.objs.size:=λ b o e=>aM (aA e)
 have hdo:h1.get? s.heap.objs.size=some { cls:=.type "dict", data:=.dict #[] }:=k1 _ _ (fK _ rfl)
 have hdi:s.heap.objs.size ≠ h1.objs.size:=TR _ _ hdo
 obtain ⟨ol,nl,G1,_⟩:=hx
 refine vq (s0:={ s with heap:=h1.push { cls:=.type "list_iterator", data:=.fields #[.ref l,.int 0 0] },toks:=t1 }) (it:=h1.objs.size) (l:=l) (d:=s.heap.objs.size) (its:=its) (n:=n) (ks:=ks) (vs:=vs) (by simp only [Around.in1]; omega) hdi (aV (sz _ _ G1)) (TR _ _ (k0 _ _ G1)) hh hn hsz (λ o vs n e z=>?_) (λ o vs n e z=>?_) (λ i hi=>?_) (let ⟨o,a,r⟩:=hl1; ⟨o,k2 _ _ a,r⟩) (λ h' tk rs k' d' rel=>?_) _ 0 _ t1 [] 0 rfl (aO _) (λ b o _ _ e=>e) ⟨_,fK _ rfl,rfl,rfl⟩ ⟨_,#[],0,k2 _ _ hdo,⟨rfl,rfl,rfl⟩,rfl,rfl,(λ x hx=>nomatch hx),iI⟩ .nil
 ·have e':some ({ cls:=.type "list_iterator", data:=.fields #[.ref l,.int 0 0] }:Obj)=some o:=(fK _ rfl).symm.trans e
  cases e'
  cases z
 ·have e':=(k2 _ _ hdo).symm.trans e
  cases e'
  cases z
 ·obtain ⟨T,v,o,c,a1,a2,a3,a4,a5,a6⟩:=hp i hi
  exact ⟨T,v,o,c,a1,k2 _ _ (k0 _ _ a2),a3,a4,TR _ _ (k0 _ _ a2),sz _ _ a2,HM.bB.stay a5 λ b o _ _ _ _ e=>k2 _ _ (k0 _ _ e),a6⟩
 ·exact ⟨rfl,q h' tk rs (λ b o e=>k' b o (TR _ _ (k0 _ _ e)) (sz _ _ e) (k2 _ _ (k0 _ _ e))) d' rel⟩
end
abbrev lu(H:Hp):List V->List (HM.bf × Addr × V)->Prop:=Paired λ u p=>∃ t,u=.ref t /\ H t=some (.tup [.ref p.2.1,p.2.2]) /\ aQ H (.ref p.2.1) p.1
def Kg(K:az)(P:Program)(w:World):List V->Hp->VK->Prop:=λ vs H Q=>∃ a us ps,vs=[.ref a] /\ bK K H a us /\ lu H us ps /\ (ps.map (·.1)).Nodup /\ ∀ p ep H',eB H p (.ext (cA P w p ep ps)) H'->Q (.ref p) H'
end L2
namespace SN
open PySem PySem.Spec PyProof.Rows
section
variable {prog:Program}{w:World}{A:Around}{E:Value->Shared->Prop}{s:Shared}
theorem HK{d:Addr}{es:Array DictEntry}{ep:Nat}(hd:(d == sysModules)=false):
  MeetsIn prog w (Builtin.«dict.__len__» ⟨[.ref d],[]⟩) (λ _ R s=>gD s.heap d es ep /\ R (.ok (.ret (.int es.size s.toks))) { s with toks:=s.toks + 1 }) :=
 .of_wp λ A R s ⟨hm,h⟩=>by
  obtain ⟨o,ho,hc,hdat⟩:=hm
  show wpAny _ _ (dictSize d >>= _) _ _ s
  unfold dictSize
  refine af (af (wpAny_dictEntries ho hdat (aE ?_)))
  show wpAny _ _ (Builtin.Dict.pendingCount d >>= _) _ _ s
  refine af (wpAny_pendingCount_other hd ?_)
  refine wpAny_ret_mkInt ?_
  rw [Nat.add_zero]
  exact h
theorem tG{d:Addr}{es:Array DictEntry}{ep:Nat}{Q:Value->Shared->Prop}(hd:(d == sysModules)=false)(hm:gD s.heap d es ep)(hfit:(es.size:Int) < 2 ^ 63)
  (h:Q (.int es.size (s.toks + 1)) { s with toks:=s.toks + 1 + 1 }):wpAny (model prog w) A (call (.builtin "len") [.ref d]) Q E s:=by
 refine su kind_len plain_len entry_len (args_len1 _) ?_
 unfold Builtin.«len»
 refine af (m:=oneArg "len" _) (aE ?_)
 refine af (m:=callSpecial? (.ref d) (Str.ofString "__len__")) (wpAny_callSpecial?_slot (name:=Str.ofString "__len__") hm.ty F.slot_dict_len
  (call_meetsIn F.slot_dict_len hm.ty F.entry_dict_len (F.args_dict_len_1 _) (HK (es:=es) (ep:=ep) hd) ⟨hm,?_⟩))
 show wpAny _ _ _ _ _ { s with toks:=s.toks + 1 }
 refine af (wpAny_holding (aE ?_))
 refine af (wpAny_letGo ?_)
 show wpAny _ _ (if ((es.size:Nat):Int) < 0 then _ else _) _ _ _
 rw [if_neg (by omega)]
 show wpAny _ _ (if ((es.size:Nat):Int) >= 2 ^ 63 then _ else _) _ _ _
 rw [if_neg (by omega)]
 exact af (wpAny_mkInt (aE ⟨_,rfl,h⟩))
end
end SN
namespace L2
open PySem PySem.Spec PyProof.Rows
variable {d:Addr}{ep:Nat}{kvs:dJ}
section
variable {X:Cx}{K:az}{P:Program}{w:World}{H:Hp}{Q:VK}
def Kh(P:Program)(w:World):List V->Hp->VK->Prop:=λ xs H Q=>∃ d ep kvs,xs=[.ref d] /\ H d=some (.ext (cA P w d ep kvs)) /\ Q (.int kvs.length) H
theorem rE:cG X (.builtin "len") (Kh X.prog X.w):=by
 intro pins s σ H xs us Q I r h
 obtain ⟨d,ep,kvs,rfl,hd,q⟩:=h
 obtain ⟨u,rfl,ru⟩:=vals1 r
 cases ru
 obtain ⟨lo,z,es,rd,hs,hat⟩:=I.raw hd
 refine SN.tG lo rd (by rw [sizeLine_eq] at z; omega) ?_
 exact ⟨.int kvs.length,H,I.tok _,⟨_,by rw [hs]⟩,q⟩
theorem Nt(hd:H d=some (.ext (cA P w d ep kvs)))(q:Q (.int kvs.length) H):Kh P w [.ref d] H Q:=⟨d,ep,kvs,rfl,hd,q⟩
def Ri(K:az)(P:Program)(w:World):List V->Hp->VK->Prop:=λ xs H Q=>∃ d ep kvs T b,xs=[.ref d,.ty T] /\ H d=some (.ext (cA P w d ep kvs)) /\ PySem.W.kitOne K (.type "dict") (.type T)=some b /\ Q (.bl b) H
theorem OY:cG X (.builtin "isinstance") (Ri X.K X.prog X.w):=by
 intro pins s σ H xs us Q I r h
 obtain ⟨d,ep,kvs,T,b,rfl,hd,e,q⟩:=h
 cases r with
 | cons r1 r =>
  cases r with
  | cons r2 r =>
   cases r
   cases r1
   cases r2
   obtain ⟨lo,z,es,⟨o,h1,h2,_⟩,hs,hat⟩:=I.raw hd
   exact dN PySem.W.kitx_dict I.jc ⟨o,h1,h2.1⟩ e (λ z=>nomatch z) λ tk=>⟨.bl b,H,I.tok _,rfl,q⟩
theorem pS{H:Hp}{us:List V}{ps:dJ}(h:lu H us ps){i:Nat}(hi:i < ps.length):∃ t,us[i]? = some (.ref t) /\ H t=some (.tup [.ref (ps.getD i ((0,none),0,.bZ)).2.1,(ps.getD i ((0,none),0,.bZ)).2.2]) /\ aQ H (.ref (ps.getD i ((0,none),0,.bZ)).2.1) (ps.getD i ((0,none),0,.bZ)).1:=by
 have hl:=h.length
 obtain ⟨p,hp,t,e,h1,h2⟩:=jB h (i:=i) (x:=us[i]'(by omega)) (fM _)
 have ep:ps.getD i ((0,none),0,.bZ)=p:=by rw [kg,hp]; rfl
 rw [ep]
 exact ⟨t,by rw [fM (by omega),e],h1,h2⟩
theorem pT(hu:X.A.units + 64 < cLine)(hc:X.calm=true):cG X (.type "dict") (Kg X.K X.prog X.w):=by
 intro pins s σ H xs us Q I r h
 obtain ⟨l,ul,ps,rfl,hS,hP,nd,q⟩:=h
 obtain ⟨u,rfl,r1⟩:=vals1 r
 cases r1
 obtain ⟨its,rv,pl,hz⟩:=I.list hS
 have e1:ul.length=ps.length:=hP.length
 have hA:X.A.in1.in1.handled=none:=I.ok.hd hc
 have big:@LT.lt Nat _ sysModules s.heap.objs.size:=I.big
 have n6:@Ne Nat s.heap.objs.size sysModules:=by omega
 have hl:=rv.length
 have eb:g9 (λ i=>((ps.getD i ((0,none),0,.bZ)).1,(ps.getD i ((0,none),0,.bZ)).2.1)) (λ i=>(ps.getD i ((0,none),0,.bZ)).2.2) ps.length=ps:=by
  rw [rD]
  ·exact range_getD _ ps
  ·intro i j hi hj e
   have gi:∀ k (hk:k < ps.length),ps.getD k ((0,none),0,.bZ)=ps[k]:=λ k hk=>by rw [kg,fM hk]; rfl
   dsimp only at e
   rw [gi i (by omega),gi j hj] at e
   have:=(oW nd (i:=i) (j:=j) (h₀:=by rw [au]; omega) (h₁:=by rw [au]; omega)).mp (by rw [oX,oX]; exact e)
   omega
 refine vt (n:=ps.length) (ks:=λ i=>((ps.getD i ((0,none),0,.bZ)).1,(ps.getD i ((0,none),0,.bZ)).2.1)) (vs:=λ i=>(ps.getD i ((0,none),0,.bZ)).2.2) (by omega) pl hA (by omega) (by rw [aT]; omega) (λ i hi=>?_) λ h' tk rs k' d' rel=>?_
 ·obtain ⟨t,ht,Z6,hh⟩:=pS hP hi
  obtain ⟨w,hw,rw'⟩:=rv.get ht
  cases rw'
  obtain ⟨its2,Z7,pt,_⟩:=I.tuple (fF.of Z6)
  obtain ⟨o,ho,hc',n,hd⟩:=pt
  cases Z7 with
  | cons a1 b1 =>
   cases b1 with
   | cons a2 b2 =>
    cases b2
    cases a1
    exact ⟨t,_,o,n,by simpa using hw,ho,hc',hd,I.hrm hh,a2⟩
 ·rw [eb] at rel
  have I3:Inv X pins σ H { s with heap:=h',toks:=tk }:=I.kept k'
  have fd:fT X pins H s.heap.objs.size:=I.mz (ay _) (I.hok.fresh (ay _))
  obtain ⟨ep,ho⟩:=yH (X:=X) (by rw [<- e1]; exact hz) (beq_eq_false_iff_ne.mpr n6) rel d'
  have I4:=I3.uC fd (o:=.ext (cA X.prog X.w s.heap.objs.size ep ps)) ho
  exact ⟨.ref _,_,I4,rfl,q _ ep _ ⟨fd.1,rfl⟩⟩
theorem Ab{a:Addr}{us:List V}{ps:dJ}(hS:bK K H a us)(hP:lu H us ps)(nd:(ps.map (·.1)).Nodup)(h:∀ p ep H',eB H p (.ext (cA P w p ep ps)) H'->Q (.ref p) H'):Kg K P w [.ref a] H Q:=⟨a,us,ps,rfl,hS,hP,nd,h⟩
end
section
variable {K:az}{P:Program}{w:World}{nx bk ct:St->Hp->Prop}{rt:VK}{σ:St}{H:Hp}{Q:VK}{td ty tv:TE}
theorem HL(h:∀ p ep H',eB H p (.ext (cA P w p ep [])) H'->Q (.ref p) H'):Ex P w σ H Q:=h
theorem ly{b:Addr}{k:HM.bf}{v:V}(hd:H d=some (.ext (cA P w d ep kvs)))(hk:bJ H kvs)(hb:aQ H (.ref b) k)(hv:iQ kvs k=some v)(h:Q v H):Es P w (.ref d) (.ref b) H Q:=⟨d,b,ep,kvs,k,v,rfl,rfl,⟨hd,hk⟩,hb,hv,h⟩
theorem EC{b:Addr}{k:HM.bf}{v:V}{R:Hp->Prop}(hd:H d=some (.ext (cA P w d ep kvs)))(hk:bJ H kvs)(hb:aQ H (.ref b) k)(hz:kvs.length <= 1000000)(h:∀ m9 H',lX H d (.ext (cA P w d m9 (iz kvs k b v))) H'->R H'):Et P w v (.ref d) (.ref b) H R:=⟨d,b,ep,kvs,k,rfl,rfl,⟨hd,hk⟩,hb,hz,h⟩
theorem HN(h:tv σ H λ v H1=>td σ H1 λ x H2=>ty σ H2 λ y H3=>Et P w v x y H3 λ H4=>nx σ H4):Eu P w td ty tv ⟨nx,rt,bk,ct⟩ σ H:=h
theorem HP{rd:V->V->Hp->VK->Prop}(h:td σ H λ x H1=>ty σ H1 λ y H2=>Es P w x y H2 λ v H3=>tv σ H3 λ y2 H4=>rd v y2 H4 λ z H5=>Et P w z x y H5 λ H6=>nx σ H6):Ew P w td ty tv rd ⟨nx,rt,bk,ct⟩ σ H:=h
end
end L2
namespace SN
open PySem PySem.Spec PyProof.Rows
variable {d:Addr}{ep:Nat}{es:Array DictEntry}
section
variable {prog:Program}{w:World}{A:Around}{E:Value->Shared->Prop}{s:Shared}
theorem BB{it:Addr}{i:Nat}{e:DictEntry}{Q:Option Value->Shared->Prop}(hit:s.heap.IsValIter it d i es.size ep)(x:gD s.heap d es ep)(he:es[i]? = some e)
  (hQ:∀ h',h'.IsValIter it d (i + 1) es.size ep->Heap.SameBut it s.heap h'->Q (some e.val) { s with heap:=h' }):wpAny (model prog w) A (pyNext (.ref it)) Q E s:=by
 have ty:=hit.typeIs
 obtain ⟨o,ho,hc,hf⟩:=hit
 obtain ⟨od,hod,_,qB⟩:=x
 unfold pyNext
 refine af (wpAny_attempt (wpAny_callSpecial?_slot (name:=Str.ofString "__next__") ty sA (wpAny_call_entry sA ty F.entry_dict_valueiterator_next ?_ (F.args_dict_valueiterator_next_1 _))))
 refine af (aE (af (af ?_)))
 first | refine af (wpAny_typeNameOfWhole_valiter ty (aE (af (wpAny_fieldsOf ho hf ?_)))) | refine af (wpAny_typeNameOf_valiter ty (aE (af (wpAny_fieldsOf ho hf ?_))))
 rw [show Builtin.Dict_items.ownsTuple "dict_valueiterator" = false by decide]
 simp only [aS,if_false]
 show wpAny _ _ (if (Value.ref d == Value.none)=true then _ else _) _ _ s
 rw [if_neg (show ¬ (Value.ref d == Value.none)=true from j0)]
 refine af (aE (af (wpAny_dictEntries hod qB ?_)))
 rw [if_neg (by simp)]
 refine af (aE (af (wpAny_dictEpoch hod qB ?_)))
 rw [if_neg (by simp)]
 refine aE ?_
 simp only [show ¬ ((i:Int) < 0) by omega,if_false,gT,he]
 refine af ?_
 first | refine af (wpAny_typeNameOfWhole_valiter ty (aE (af (wpAny_isOneOf_valiter ty ?_)))) | refine af (wpAny_typeNameOf_valiter ty (aE (af (wpAny_isOneOf_valiter ty ?_))))
 show wpAny _ _ (setField (.ref it) 1 (rawInt ((i:Int) + 1)) >>= _) _ _ s
 have uM:(s.heap.update it (Obj.mapFields (·.setIfInBounds 1 (rawInt ((i:Int) + 1))))).IsValIter it d (i + 1) es.size ep :=
  ⟨_,cj _ ho (fk (bW hf _)),(iJ ..).trans hc,by rw [bW hf]; simp [rawInt]⟩
 refine af (wpAny_setField ho hf (by simp) (af (wpAny_holding ?_)))
 refine af (wpAny_isOneOf_valiter (s:={ s with heap:=s.heap.update it (Obj.mapFields (·.setIfInBounds 1 (rawInt ((i:Int) + 1)))) }) uM.typeIs ?_)
 refine af (wpAny_isOneOf_valiter (s:={ s with heap:=s.heap.update it (Obj.mapFields (·.setIfInBounds 1 (rawInt ((i:Int) + 1)))) }) uM.typeIs (show wpAny _ _ (pure e.val) _ _ _ from ?_))
 exact aE (aE ⟨_,rfl,aE (hQ _ uM (f9 ..))⟩)
theorem ED{it:Addr}{Q:Option Value->Shared->Prop}(hh:A.handled=none)(hit:s.heap.IsValIter it d es.size es.size ep)(x:gD s.heap d es ep)
  (hQ:∀ h',Heap.ExtBut it s.heap h'->Q none { s with heap:=h' }):wpAny (model prog w) A (pyNext (.ref it)) Q E s:=by
 have ty:=hit.typeIs
 obtain ⟨o,ho,hc,hf⟩:=hit
 obtain ⟨od,hod,_,qB⟩:=x
 unfold pyNext
 refine af (wpAny_attempt (wpAny_callSpecial?_slot (name:=Str.ofString "__next__") ty sA (wpAny_call_entry sA ty F.entry_dict_valueiterator_next ?_ (F.args_dict_valueiterator_next_1 _))))
 refine af (aE (af (af ?_)))
 first | refine af (wpAny_typeNameOfWhole_valiter ty (aE (af (wpAny_fieldsOf ho hf ?_)))) | refine af (wpAny_typeNameOf_valiter ty (aE (af (wpAny_fieldsOf ho hf ?_))))
 rw [show Builtin.Dict_items.ownsTuple "dict_valueiterator" = false by decide]
 simp only [aS,if_false]
 show wpAny _ _ (if (Value.ref d == Value.none)=true then _ else _) _ _ s
 rw [if_neg (show ¬ (Value.ref d == Value.none)=true from j0)]
 refine af (aE (af (wpAny_dictEntries hod qB ?_)))
 rw [if_neg (by simp)]
 refine af (aE (af (wpAny_dictEpoch hod qB ?_)))
 rw [if_neg (by simp)]
 refine aE ?_
 simp only [show ¬ ((es.size:Int) < 0) by omega,if_false,gT,oH (ay es.size)]
 refine af ?_
 first | refine af (wpAny_typeNameOfWhole_valiter ty (aE ?_)) | refine af (wpAny_typeNameOf_valiter ty (aE ?_))
 show wpAny _ _ (setField (.ref it) 0 .none >>= _) _ _ s
 refine af (wpAny_setField ho hf (by simp) (show wpAny _ _ (newExc (.type "StopIteration") [] >>= _) _ _ _ from af ?_))
 simp only [newExc,newTuple]
 refine af (wpAny_newObj_type ?_ (by size_fits))
 refine af (m:=firstArgMember _ _) (wpAny_of_eq (a:=Value.none) (by first | rfl | (simp only [firstArgMember]; rfl)) (wpAny_newObj_type ?_ (by size_fits)))
 simp only [raiseNew]
 refine af (wpAny_handled ?_)
 rw [show A.in1.handled=none from hh]
 refine af (aE (wpAny_throw (af ?_)))
 refine wpAny_isInstance (T := "StopIteration") (b:=true) ⟨_,fK _ rfl,rfl⟩ isSubtype_stop ?_
 exact aE (hQ _ (((f9 ..).extBut.push _).push _))
theorem BC{v:Addr}{Q:Value->Shared->Prop}(hv:s.heap.IsValuesView v d)(x:gD s.heap d es ep)
  (hQ:Q (.ref s.heap.objs.size) { s with heap:=s.heap.push { cls:=.type "dict_valueiterator", data:=.fields #[.ref d,.int 0 0,.int es.size 0,.int ep 0] } }):wpAny (model prog w) A (pyIter (.ref v)) Q E s:=by
 obtain ⟨ov,hov,hcv,Z8⟩:=id hv
 obtain ⟨o,ho,hc,hdat⟩:=id x
 refine wpAny_pyIter_slot hv.typeIs F.slot_dict_values_iter (wpAny_call_entry F.slot_dict_values_iter hv.typeIs F.entry_dict_values_iter ?_ (F.args_dict_values_iter_1 _))
 unfold Builtin.«dict_values.__iter__»
 refine af (aE ?_)
 refine af ?_
 unfold Builtin.Dict_items.dictOf
 refine af (wpAny_field hov Z8 (x:=.ref d) rfl (aE ?_))
 refine af ?_
 unfold Builtin.Dict_items.newIterator
 refine af (wpAny_dictEntries ho hdat ?_)
 refine af (wpAny_dictEpoch ho hdat ?_)
 have hown:Builtin.Dict_items.ownsTuple "dict_valueiterator" = false:=by decide
 simp only [hown,aS,if_false]
 refine wpAny_newObj_type (aE ⟨_,rfl, "dict_valueiterator", _,⟨_,fK _ rfl,rfl⟩,F.slot_dict_valueiterator_next.lookup,?_⟩)
 simpa [rawInt] using hQ
theorem yJ(hh:A.handled=none)(I d:Addr)(hne:d ≠ I)(es:Array DictEntry)(ep:Nat):Walks prog w A I [I,d] [I] es.size (λ i v=>∃ e,es[i]? = some e /\ v=e.val) (λ i h=>h.IsValIter I d i es.size ep /\ gD h d es ep) where
 sub:=λ b hb=>by simp at hb; simp [hb]
 frame:=λ _ _ _ st hk=>⟨st.1.at λ o e=>hk I (by simp) o e,st.2.at' λ o e=>hk d (by simp) o e⟩
 item:=λ i s Q E hi st hQ=>by
  have e1:es[i]? = some es[i]:=dM hi
  refine BB st.1 st.2 e1 λ h' h1 h2=>hQ _ h' s.toks ⟨_,e1,rfl⟩ ⟨h1,st.2.at' λ o e=>h2.extBut d o hne e⟩ λ b o hb e=>h2.extBut b o (λ h=>hb (by simp [h])) e
 done:=λ s Q E st hQ=>ED hh st.1 st.2 λ h' h1=>hQ h' s.toks λ b o hb e=>h1 b o (λ h=>hb (by simp [h])) e
 self:=λ _ _ _ _ st hQ=>wpAny_pyIter_valiter st.1 hQ
theorem yK{v:Addr}{ep:Nat}{num:Nat->Int}{Q:Value->Shared->Prop}(hh:A.handled=none)(hv:s.heap.IsValuesView v d)(x:gD s.heap d es ep)(hne:0 < es.size)(hn:∀ (i:Nat) (e:DictEntry),es[i]? = some e->∃ t,e.val=Value.int (num i) t)
  (h:∀ u h' tk,(∃ e,es[argBest (λ i j=>decide (num i > num j)) (es.size - 1)]? = some e /\ u=e.val)->(∀ b o,s.heap.get? b=some o->h'.get? b=some o)->Q u { s with heap:=h',toks:=tk }):
  wpAny (model prog w) A (call (.builtin "max") [.ref v]) Q E s:=by
 obtain ⟨o,ho,r⟩:=id x
 have hlt:=aA ho
 refine call_max_walk (BC hv x ?_)
 refine ⟨_,_,_,_,_,_,_,rfl,yJ (A:=A.in1) hh s.heap.objs.size d (aM hlt) es ep,⟨⟨_,fK _ rfl,rfl,rfl⟩,x.at' λ o e=>bO _ e⟩,?_,hne,CmpOf.ints_gt num (λ i u ⟨e,he,eu⟩=>by obtain ⟨t,ht⟩:=hn i e he; exact ⟨t,by rw [eu,ht]⟩),λ u h' tk hP hk=>?_⟩
 ·intro b hb
  rw [dI]
  simp at hb
  rcases hb with e | e
  ·subst e; exact kr _
  ·subst e; exact jl hlt
 ·exact h u h' tk hP λ b o e=>hk b o (λ hm=>by simp at hm; subst hm; exact absurd (aA e) (cY _)) (bO _ e)
end
theorem yL{prog:Program}{w:World}(hd:(d == sysModules)=false):
  MeetsIn prog w (Builtin.«dict.values» ⟨[.ref d],[]⟩) (λ _ R s=>gD s.heap d es ep /\
   R (.ok (.ret (.ref s.heap.objs.size))) { s with heap:=s.heap.push { cls:=.type "dict_values", data:=.fields #[.ref d] } }) :=
 .of_wp λ A R s ⟨hm,h⟩=>by
  refine af ?_
  unfold Builtin.Dict.noArgs
  refine af (wpAny_notOrdered_dict hm.ty ?_)
  show wpAny _ _ (pure d) _ _ s
  refine aE ?_
  show wpAny _ _ (Builtin.Dict.showsAll d >>= _) _ _ s
  unfold Builtin.Dict.showsAll
  rw [if_neg (by rw [hd]; exact j0)]
  refine af (aE ?_)
  exact af (wpAny_newObj_type (aE ⟨_,rfl,h⟩))
end SN
namespace L2
open PySem PySem.Spec PyProof.Rows
variable {d:Addr}{ep:Nat}{kvs:dJ}
def vz(v d:Addr):Heap->Prop:=λ h=>h.IsValuesView v d
section
variable {X:Cx}{o e f:Expr}{apos cpos:Pos}{td ty tx:TE}
theorem Rj{pins:List (Addr × Obj)}{σ:St}{H:Hp}{s:Shared}(I:Inv X pins σ H s)(h:H d=some (.ext (cA X.prog X.w d ep kvs))):
  s.TypeIs (.ref d) "dict" /\ (∀ b,Value.ref d=.ref b->∃ ob,s.heap.get? b=some ob /\ ob.dict=none) /\ (d == sysModules)=false:=by
 obtain ⟨lo,_,es,rd,_,_⟩:=I.raw h
 refine ⟨rd.ty,λ b q=>?_,lo⟩
 cases q
 obtain ⟨ob,h1,h2,_⟩:=rd
 exact ⟨ob,h1,h2.2.1⟩
def EE(P:Program)(w:World)(Q:VK):V->Hp->Prop:=λ x H=>∃ d ep kvs,x=.ref d /\ H d=some (.ext (cA P w d ep kvs)) /\ ∀ v H',eB H v (.ext (vz v d)) H'->Q (.ref v) H'
def Kl(P:Program)(w:World)(td:TE):TE:=λ σ H Q=>td σ H (EE P w Q)
theorem EF(ho:PE X o td)(hbase:attributeBase o "values" X.env (eval o X.env)=eval o X.env:=by rfl)(hline:(apos.endLine == cpos.line)=true:=by rfl):PE X (.Call (.Attribute o "values" apos) [] [] cpos) (Kl X.prog X.w td):=by
 intro pins s σ H Q I h
 refine wpAny_Call_method0_late hbase hline (bV (ho pins s σ H _ I h) λ u s1 ⟨x,H1,I1,r1,d,ep,kvs,ex,hd,q1⟩=>?_)
 subst ex
 obtain rfl:u=Value.ref d:=r1
 obtain ⟨t1,t2,lo⟩:=Rj I1 hd
 obtain ⟨_,_,es,rd,_,_⟩:=I1.raw hd
 refine ⟨"dict", _,PySem.F.plainAttrs_dict,PySem.F.slot_dict_values,PySem.F.type_dict_values,t1,t2,sr rfl (PySem.evalArgs_none ?_)⟩
 refine call_meetsIn PySem.F.slot_dict_values t1 PySem.F.entry_dict_values (PySem.F.args_dict_values_1 _) (SN.yL (es:=es) (ep:=ep) lo) ⟨rd,?_⟩
 exact ⟨.ref s1.heap.objs.size,_,I1.laid (a:=s1.heap.objs.size) (o:=.ext (vz s1.heap.objs.size d)) (t':=s1.toks) (λ _ _ q=>bO _ q) (ay _) ⟨⟨_,fK _ rfl,rfl,rfl⟩,⟨_,fK _ rfl⟩,λ g1 g2 ⟨ob,a1,a2⟩ he=>⟨ob,he _ a1,a2⟩⟩,rfl,q1 _ _ ⟨I1.hok.fresh (ay _),rfl⟩⟩
def Km(P:Program)(w:World):List V->Hp->VK->Prop:=λ xs H Q=>∃ (v d:Addr) (ep:Nat) (kvs:dJ) (ns:List Int),xs=[.ref v] /\ H v=some (.ext (vz v d)) /\ H d=some (.ext (cA P w d ep kvs)) /\ kvs.map (·.2.2)=ns.map V.int /\ ns ≠ [] /\ ∀ m,m∈ns->(∀ x∈ns,x <= m)->Q (.int m) H
theorem BD(hc:X.calm=true):cG X (.builtin "max") (Km X.prog X.w):=by
 intro pins s σ H xs us Q I r h
 obtain ⟨v,d,ep,kvs,ns,rfl,hv,hd,en,hne,q⟩:=h
 obtain ⟨u,rfl,ru⟩:=vals1 r
 cases ru
 obtain ⟨vv,_,_⟩:=I.hok v _ hv
 obtain ⟨lo,z,es,rd,hs,hat⟩:=I.raw hd
 have hl:kvs.length=ns.length:=by have:=congrArg List.length en; simpa using this
 have hpos:0 < es.size:=by
  rw [hs,hl]
  cases ns with
  | nil=>exact absurd rfl hne
  | cons=>simp
 have hn:∀ (i:Nat) (e:DictEntry),es[i]? = some e->∃ t,e.val=Value.int (ns.getD i 0) t:=λ i e he=>by
  have hi:i < kvs.length:=by rw [<- hs]; exact (gE.mp he).1
  obtain ⟨u,hu,_,hr⟩:=hat i _ (fM hi)
  rw [he] at hu
  cases hu
  have e1:kvs[i].2.2=V.int (ns.getD i 0):=by
   have:(kvs.map (·.2.2))[i]? = (ns.map V.int)[i]?:=by rw [en]
   rw [bh,bh,fM hi,fM (show i < ns.length by omega)] at this
   rw [kg,fM (show i < ns.length by omega)]
   exact Option.some.inj this
  rw [e1] at hr
  exact hr
 refine SN.yK (num:=λ i=>ns.getD i 0) (I.ok.hd hc) vv rd hpos hn λ u h' tk hu k=>?_
 obtain ⟨e,he,rfl⟩:=hu
 obtain ⟨b1,b2⟩:=jz (λ i=>ns.getD i 0) (es.size - 1)
 obtain ⟨t,ht⟩:=hn _ _ he
 rw [ht]
 have at_:∀ i,i < ns.length->ns[i]? = some (ns.getD i 0):=λ i hi=>by rw [kg,fM hi]; rfl
 refine ⟨.int _,H,I.kept k,⟨_,rfl⟩,q _ (fL (at_ _ (by omega))) λ x hx=>?_⟩
 obtain ⟨i,hi⟩:=eX.mp hx
 have hil:=(eU hi).1
 rw [at_ i hil] at hi
 rw [<- Option.some.inj hi]
 exact b2 i (by omega)
end
section
variable {X:Cx}{P:Program}{w:World}{K:az}{o i e f:Expr}{pos apos cpos:Pos}{td ty tx:TE}
theorem mS(e1:X.prog=P)(e2:X.w=w)(hu:X.A.units + 64 < cLine)(ho:PE X o td)(hi:PE X i ty)(hs:GL i):PE X (.Subscript o i pos) (Lq (Es P w) td ty):=e1 ▸ e2 ▸ iA hu ho hi hs
end
section
variable {K:az}{P:Program}{w:World}{σ:St}{H:Hp}{Q:VK}{td ty tx:TE}
theorem Nu(h:td σ H (EE P w Q)):Kl P w td σ H Q:=h
theorem HQ(hd:H d=some (.ext (cA P w d ep kvs)))(h:∀ v H',eB H v (.ext (vz v d)) H'->Q (.ref v) H'):EE P w Q (.ref d) H:=⟨d,ep,kvs,rfl,hd,h⟩
theorem Nv{v:Addr}{ns:List Int}(hv:H v=some (.ext (vz v d)))(hd:H d=some (.ext (cA P w d ep kvs)))(en:kvs.map (·.2.2)=ns.map V.int)(hne:ns ≠ [])(h:∀ m,m∈ns->(∀ x∈ns,x <= m)->Q (.int m) H):Km P w [.ref v] H Q:=⟨v,d,ep,kvs,ns,rfl,hv,hd,en,hne,h⟩
end
end L2
namespace MX
open PySem PySem.Spec PyProof.Rows
section
variable {prog:Program}{w:World}{A:Around}{R:Result->Shared->Prop}{I:Addr}{fp wr:List Addr}{n:Nat}{P:Nat->Value->Prop}{St:Nat->Heap->Prop}{kw:List (Str × Value)}
theorem nm:(toString "max" ++ toString ".loop" : String) = "max.loop" := by decide
theorem loop(W:Walks prog w A.in1 I fp wr n P St)(bt:Nat->Nat->Bool)(hcmp:CmpOf prog w A.in1 .Gt P bt)(S:Addr)(hSf:S ∉ fp):
  ∀ (k j:Nat) (s:Shared) (vb:Value) (c:Nat),n - (j + 1)=k->j + 1 <= n->St (j + 1) s.heap->P (argBest bt j) vb ->
  s.heap.get? S=some { cls:=.type "list", dict:=none,data:=.seq #[vb,vb] c,slots:=#[] } ->
  (∀ v h' tk,P (argBest bt (n - 1)) v->(∀ b o,b ∉ wr->b ≠ S->s.heap.get? b=some o->h'.get? b=some o)->R (.ok (.ret v)) { s with heap:=h',toks:=tk }) ->
  codeAny (model prog w) A (.builtin "max.loop" ⟨[.ref I,.none,.ref S],kw⟩) R s:=by
 have TU:S ∉ wr:=λ h=>hSf (W.sub _ h)
 intro k
 induction k with
 | zero =>
  intro j s vb c hk hj hst TV hS hR
  have hin:j + 1=n:=by omega
  refine codeAny_builtin F.entry_max_loop ?_
  rw [f7 iG _]
  refine (show wpAny _ A.in1 (seqItems? (.ref S) >>= _) _ _ s from af (wpAny_seqItems hS rfl ?_))
  refine (show wpAny _ A.in1 (tryCatch (pyNext (.ref I)) _ >>= _) _ _ s from af (wpAny_tryCatch (W.done s _ _ (hin ▸ hst) λ h' tk hk'=>?_)))
  refine (show wpAny _ A.in1 (updateSeq S (λ _=>#[]) >>= _) _ _ _ from af (wpAny_updateSeq (hk' S _ TU hS) rfl (af (wpAny_letGo (aE ?_)))))
  exact hR vb _ tk (by rw [<- hin]; exact TV) λ b o Ac HR e=>(c7 _ _ (aV HR)).trans (hk' b o Ac e)
 | succ k ih =>
  intro j s vb c hk hj hst TV hS hR
  have hlt:j + 1 < n:=by omega
  refine codeAny_builtin F.entry_max_loop ?_
  rw [f7 iG _]
  refine (show wpAny _ A.in1 (seqItems? (.ref S) >>= _) _ _ s from af (wpAny_seqItems hS rfl ?_))
  refine (show wpAny _ A.in1 (tryCatch (pyNext (.ref I)) _ >>= _) _ _ s from af (wpAny_tryCatch (W.item (j + 1) s _ _ hlt hst λ v h' tk hP yM hk'=>?_)))
  have hS':=hk' S _ TU hS
  refine (show wpAny _ A.in1 (tryCatch (holding [v,v] (richCompare .Gt v vb >>= _)) _ >>= _) _ _ _ from af (wpAny_tryCatch (wpAny_holding (af (hcmp (j + 1) (argBest bt j) v vb _ _ _ hP TV ?_)))))
  refine af (wpAny_holding (wpAny_truthy_bool (af (wpAny_letGo (aE ?_)))))
  cases hb:bt (j + 1) (argBest bt j) with
  | true =>
   simp only [if_true]
   refine af (wpAny_updateSeq hS' rfl (af (wpAny_letGo ?_)))
   rw [nm]
   refine aE ⟨plainId_quiet iG _,ih (j + 1) _ v _ (by omega) hlt (W.frame _ _ _ yM λ b V2 o e=>(c7 _ _ (λ h:S=b=>hSf (by rw [h]; exact V2))).trans e) (by simp only [argBest,hb,if_true]; exact hP) (cj _ hS' rfl) λ v' h'' EG Rk EH=>?_⟩
   exact hR v' h'' EG Rk λ b o Ac HR e=>EH b o Ac HR ((c7 _ _ (aV HR)).trans (hk' b o Ac e))
  | false =>
   simp only [aS,if_false]
   refine af (wpAny_letGo ?_)
   rw [nm]
   exact aE ⟨plainId_quiet iG _,ih (j + 1) _ vb c (by omega) hlt yM (by simp only [argBest,hb,aS,if_false]; exact TV) hS' λ v' h'' EG Rk EH=>hR v' h'' EG Rk λ b o Ac HR e=>EH b o Ac HR (hk' b o Ac e)⟩
theorem first(W:Walks prog w A.in1 I fp wr n P St)(bt:Nat->Nat->Bool)(hcmp:CmpOf prog w A.in1 .Gt P bt)(S:Addr)(hSf:S ∉ fp)(hn:0 < n){s:Shared}{c:Nat}(hst:St 0 s.heap)
  (hS:s.heap.get? S=some { cls:=.type "list", dict:=none,data:=.seq #[] c,slots:=#[] })
  (hR:∀ v h' tk,P (argBest bt (n - 1)) v->(∀ b o,b ∉ wr->b ≠ S->s.heap.get? b=some o->h'.get? b=some o)->R (.ok (.ret v)) { s with heap:=h',toks:=tk }):
  codeAny (model prog w) A (.builtin "max.loop" ⟨[.ref I,.none,.ref S],kw⟩) R s:=by
 have TU:S ∉ wr:=λ h=>hSf (W.sub _ h)
 refine codeAny_builtin F.entry_max_loop ?_
 rw [f7 iG _]
 refine (show wpAny _ A.in1 (seqItems? (.ref S) >>= _) _ _ s from af (wpAny_seqItems hS rfl ?_))
 refine (show wpAny _ A.in1 (tryCatch (pyNext (.ref I)) _ >>= _) _ _ s from af (wpAny_tryCatch (W.item 0 s _ _ hn hst λ v h' tk hP yM hk'=>?_)))
 have hS':=hk' S _ TU hS
 refine (show wpAny _ A.in1 (updateSeq S (λ _=>#[v,v]) >>= _) _ _ _ from af (wpAny_updateSeq hS' rfl ?_))
 rw [nm]
 refine aE ⟨plainId_quiet iG _,loop W bt hcmp S hSf _ 0 _ v _ rfl hn (W.frame _ _ _ yM λ b V2 o e=>(c7 _ _ (λ h:S=b=>hSf (by rw [h]; exact V2))).trans e) hP (cj _ hS' rfl) λ v' h'' EG Rk EH=>?_⟩
 exact hR v' h'' EG Rk λ b o Ac HR e=>EH b o Ac HR ((c7 _ _ (aV HR)).trans (hk' b o Ac e))
theorem none_{d:Value}{x:Str}(W:Walks prog w A.in1 I fp wr 0 P St)(S:Addr)(hSf:S ∉ fp){s:Shared}{c:Nat}(hst:St 0 s.heap)
  (hS:s.heap.get? S=some { cls:=.type "list", dict:=none,data:=.seq #[] c,slots:=#[] })
  (hR:∀ h' tk,(∀ b o,b ∉ wr->s.heap.get? b=some o->h'.get? b=some o)->R (.ok (.ret d)) { s with heap:=h',toks:=tk }):
  codeAny (model prog w) A (.builtin "max.loop" ⟨[.ref I,.none,.ref S],[(x,d)]⟩) R s:=by
 refine codeAny_builtin F.entry_max_loop ?_
 rw [f7 iG _]
 refine (show wpAny _ A.in1 (seqItems? (.ref S) >>= _) _ _ s from af (wpAny_seqItems hS rfl ?_))
 refine (show wpAny _ A.in1 (tryCatch (pyNext (.ref I)) _ >>= _) _ _ s from af (wpAny_tryCatch (W.done s _ _ hst λ h' tk hk'=>?_)))
 show wpAny _ A.in1 (rule _ >>= _) _ _ _
 exact af (wpAny_rule (aE (hR h' tk hk')))
end
section
variable {prog:Program}{w:World}{A:Around}{E:Value->Shared->Prop}{s:Shared}
theorem HS{id:String}{b:Builtin}{args:List Value}{kw:List (Str × Value)}{Q:Value->Shared->Prop}(hk:builtinKind id=none)(hp:plainId id=true)(hb:entryFor table id=some b)(ha:argsOk id ⟨args,kw⟩)
  (hc:wpAny (model prog w) A.in1 (b ⟨args,kw⟩) (λ fin s'=>match fin with
   | .done f=>(match (Except.ok f:Result) with | .ok (.ret v)=>Q v s' | .ok _=>False | .error e=>E e s')
   | .again c'=>c'.quiet=true /\ codeAny (model prog w) A c' (λ r s'=>match r with | .ok (.ret v)=>Q v s' | .ok _=>False | .error e=>E e s') s') E s):wpAny (model prog w) A (call (.builtin id) args kw) Q E s:=by
 refine wpAny_call (codeAny_call_builtin hp hb ?_)
 simp only [checkBuiltinCall,hk]
 cases V3:Manifest.signature? id with
 | none=>exact aE hc
 | some sig =>
  have h2:Bind.checkArgs id sig ⟨args,kw⟩=pure ():=by simpa only [argsOk,V3] using ha
  refine (show wpAny _ A.in1 (Bind.checkArgs id sig ⟨args,kw⟩) _ _ s from ?_)
  rw [h2]
  exact aE hc
theorem BE(a d:Value):argsOk "max" ⟨[a],[("default", d)]⟩:=by unfold argsOk; kernel_rfl
theorem BF{x d:Value}{Q:Value->Shared->Prop}
  (h:wpAny (model prog w) A.in1 (pyIter x) (λ it s₂=>∃ I fp wr n P St bt,it=.ref I /\ Walks prog w A.in1 I fp wr n P St /\ St 0 s₂.heap /\ (∀ b∈fp,b < s₂.heap.objs.size) /\ CmpOf prog w A.in1 .Gt P bt /\
   ∀ v h' tk,(if n=0 then v=d else P (argBest bt (n - 1)) v)->(∀ b o,b ∉ wr->s₂.heap.get? b=some o->h'.get? b=some o)->Q v { s₂ with heap:=h',toks:=tk }) E s):
  wpAny (model prog w) A (call (.builtin "max") [x] [("default", d)]) Q E s:=by
 refine HS F.kind_max F.plain_max F.entry_max (BE _ _) ?_
 refine (show wpAny _ A.in1 (Builtin.Builtins.bindParams "max" ["key", "default"] 0 ⟨[],[("default", d)]⟩ >>= _) _ _ s from ?_)
 refine af (wpAny_of_eq (show Builtin.Builtins.bindParams "max" ["key", "default"] 0 ⟨[],[("default", d)]⟩=pure [none,some d] by first | rfl | kernel_rfl) ?_)
 refine af (aE (af (wpAny_mono h (λ it s₂ h₂=>?_) λ _ _ e=>e)))
 obtain ⟨I,fp,wr,n,P,St,bt,rfl,W,hst,hfp,hcmp,hQ⟩:=h₂
 refine af (wpAny_newObj_type ?_)
 have hSf:s₂.heap.objs.size ∉ fp:=λ hm=>cY _ (hfp _ hm)
 rw [nm]
 have yM:=W.frame 0 s₂.heap (s₂.heap.push { cls:=.type "list", data:=.seq ([]:List Value).toArray }) hst λ b _ o e=>bO _ e
 rcases Nat.eq_zero_or_pos n with e | hn
 ·subst e
  refine aE ⟨plainId_quiet iG _,none_ W s₂.heap.objs.size hSf yM (fK _ rfl) λ h' tk hk=>?_⟩
  exact hQ d h' tk (by rw [if_pos rfl]) λ b o Ac e=>hk b o Ac (bO _ e)
 ·refine aE ⟨plainId_quiet iG _,first W bt hcmp s₂.heap.objs.size hSf hn yM (fK _ rfl) λ v h' tk hP hk=>?_⟩
  exact hQ v h' tk (by rw [if_neg (by omega)]; exact hP) λ b o Ac e=>hk b o Ac (aM (aA e)) (bO _ e)
end
end MX
namespace L2
open PySem PySem.Spec PyProof.Rows
def Ad(K:az)(vs:List V)(y:V)(H:Hp)(Q:VK):Prop:=∃ p xs d,vs=[.ref p] /\ y=.int d /\ bK K H p (xs.map V.int) /\ ∀ m:Int,(xs=[]->m=d)->(xs ≠ []->m∈xs /\ ∀ x∈xs,x <= m)->Q (.int m) H
def Kn(K:az)(t:TA)(tv:TE):TE:=λ σ H Q=>t σ H λ vs H1=>tv σ H1 λ y H2=>Ad K vs y H2 Q
section
variable {X:Cx}{e v:Expr}{p kp pos:Pos}{t:TA}{tv:TE}
theorem HU{pins:List (Addr × Obj)}{σ:St}{H:Hp}{s:Shared}{vs:List V}{us:List Value}{y:V}{d:Value}{Q:VK}{E:Value->Shared->Prop}(hc:X.calm=true)(I:Inv X pins σ H s)(r:Vals vs us)(ry:RelV y d)(h:Ad X.K vs y H Q):
  wpAny (model X.prog X.w) X.A (call (.builtin "max") us [("default", d)]) (λ u s'=>∃ x H',Inv X pins σ H' s' /\ RelV x u /\ Q x H') E s:=by
 obtain ⟨p,xs,dd,rfl,rfl,hS,q⟩:=h
 obtain ⟨u,rfl,ru⟩:=vals1 r
 cases ru
 obtain ⟨t0,rfl⟩:=ry
 obtain ⟨its,rv,pl,hz⟩:=I.list hS
 obtain ⟨ps,rfl,e⟩:=rq rv
 have hl:s.heap.IsList p (intItems ps.toArray):=by
  have:=pl.isList
  rw [show (ps.map λ p=>Value.int p.1 p.2).toArray=intItems ps.toArray by unfold intItems; simp] at this
  exact this
 have hsz:(intItems ps.toArray).size=ps.length:=by simp [intItems]
 have Nx:xs.length=ps.length:=by rw [<- e,au]
 refine MX.BF (iter_intList hl λ s₂ e2 st hfp hlI=>?_)
 subst e2
 refine ⟨_,_,_,_,_,_,_,rfl,Walks.list (A:=X.A.in1) (I.ok.hd hc) _ p hlI (intItems ps.toArray),st,hfp,CmpOf.ints_gt (numAt ps.toArray) (λ _ _=>intItems_at),λ u h' tk hP hk=>?_⟩
 rw [hsz] at hP
 have kept:=old_kept (s:=s) (l:=p) hk
 by_cases h0:ps.length=0
 ·rw [if_pos h0] at hP
  have ex:xs=[]:=List.eq_nil_of_length_eq_zero (by omega)
  subst hP
  exact ⟨.int dd,H,I.kept kept,⟨t0,rfl⟩,q dd (λ _=>rfl) λ z=>absurd ex z⟩
 ·rw [if_neg h0] at hP
  obtain ⟨t1,rfl⟩:=intItems_at hP
  obtain ⟨b1,b2⟩:=jz (numAt ps.toArray) (ps.length - 1)
  have at_:∀ i,i < ps.length->xs[i]? = some (numAt ps.toArray i):=λ i hi=>by
   rw [<- e]
   simp [numAt,fM hi]
  refine ⟨.int _,H,I.kept kept,⟨t1,rfl⟩,q _ (λ z=>?_) λ _=>⟨fL (at_ _ (by omega)),λ x hx=>?_⟩⟩
  ·rw [z] at Nx
   exact absurd Nx.symm h0
  ·obtain ⟨i,hi⟩:=eX.mp hx
   have hil:i < ps.length:=by rw [<- Nx]; exact (eU hi).1
   rw [at_ i hil] at hi
   rw [<- Option.some.inj hi]
   exact b2 i (by omega)
theorem HV(hc:X.calm=true)(hg:Gl X "max")(hm:X.mg "max" = none)(ha:PA X [e] t)(hv:PE X v tv)(he:backTo pos (starEach [e] X.env)=(false,eval e X.env) :: backTo pos (starEach [] X.env):=by rfl)
  (hpl:(backTo pos (starEach [e] X.env)).any (·.1)=false:=by rfl)(hal:(backToKw pos (keywordEach [⟨some "default", v,kp⟩] X.env)).all (·.1.isSome)=true:=by rfl)(hkw:(backToKw pos (keywordEach [⟨some "default", v,kp⟩] X.env)).any (·.1.isNone)=false:=by rfl)
  (hfm:(backToKw pos (keywordEach [⟨some "default", v,kp⟩] X.env)).filterMap (·.1)=[("default" : Str)]:=by rfl):PE X (.Call (.Name "max" p) [e] [⟨some "default", v,kp⟩] pos) (Kn X.K t tv):=by
 intro pins s σ H Q I h
 refine wpAny_Call_Name_kw (kC I hg hm BT.J5 ?_)
 refine callWith_kw (kws:=[⟨some "default", v,kp⟩]) ?_ he hpl hal hkw
 refine bV (ha pos pins s σ H _ I h) λ us s1 ⟨vs,H1,I1,r1,q1⟩=>?_
 refine kws_cons (bV (hv pins s1 σ H1 _ I1 q1) λ d s2 ⟨y,H2,I2,ry,q2⟩=>kws_nil ?_)
 rw [hfm]
 exact HU hc I2 r1 ry q2
end
section
variable {K:az}{σ:St}{H:Hp}{Q:VK}{t:TA}{tv:TE}
theorem HW(h:t σ H λ vs H1=>tv σ H1 λ y H2=>Ad K vs y H2 Q):Kn K t tv σ H Q:=h
theorem Ny{p:Addr}{xs:List Int}{d:Int}(hS:bK K H p (xs.map V.int))(h:∀ m:Int,(xs=[]->m=d)->(xs ≠ []->m∈xs /\ ∀ x∈xs,x <= m)->Q (.int m) H):Ad K [.ref p] (.int d) H Q:=⟨p,xs,d,rfl,rfl,hS,h⟩
end
section
variable {prog:Program}{w:World}{κ:Type} [DecidableEq κ] {knd:HeapKind prog w κ}{A:Around}{E:Value->Shared->Prop}{s:Shared}
end
def Ko(kvs kvs':dJ):Prop:=kvs.length=kvs'.length /\ ∀ x∈kvs,∃ n:Int,x.2.2=.int n /\ iQ kvs' x.1=some (.int n)
theorem Ko.raw{kvs kvs':dJ}{xs ys:List (HM.bf × Addr × Value)}(l:Ko kvs kvs')(r:je kvs xs)(r':je kvs' ys):xs.length=ys.length /\ ∀ x∈xs,∃ (p:Addr × Value) (n:Int) (t t':Tok),atKey ys x.1=some p /\ p.2=.int n t' /\ x.2.2=.int n t:=by
 refine ⟨by rw [<- fR r,<- fR r']; exact l.1,?_⟩
 have h:=l.2
 clear l
 unfold je at r
 induction r with
 | nil=>intro x hx; exact nomatch hx
 | @cons p q ps qs hq t ih =>
  intro x hx
  rcases aG.mp hx with e | hx
  ·subst e
   obtain ⟨n,h1,h2⟩:=h p (by simp)
   have h3:=r'.val p.1
   rw [h2] at h3
   obtain ⟨w',hw,rw'⟩:=iK.some_of (v:=.int n) (o:=(atKey ys p.1).map (·.2)) h3
   obtain ⟨z,hz,hz2⟩:=cO.mp hw
   have r1:=hq.2.2
   rw [h1] at r1
   obtain ⟨t1,e1⟩:=r1
   obtain ⟨t2,e2⟩:=rw'
   exact ⟨z,n,t1,t2,by rw [<- hq.1]; exact hz,by rw [hz2]; exact e2,e1⟩
  ·exact ih (λ y hy=>h y (by simp [hy])) x hx
section
variable {X:Cx}{P:Program}{w:World}{H:Hp}{Q:VK}
end
end L2
namespace SN
open PySem PySem.Spec PyProof.Rows
end SN
namespace L2
open PySem PySem.Spec PyProof.Rows
variable {K:Frag}{h:Heap}{C f:Addr}
section
variable {X:Cx}{o:Expr}{apos cpos:Pos}{td:TE}
end
section
variable {P:Program}{w:World}{H:Hp}{Q:VK}{σ:St}{td:TE}
end
set_option genInjectivity false in
set_option genSizeOf false in
set_option genSizeOfSpec false in
structure DD (K:az) (mg:Str->Option Value) (n:Str) (st:Stmt) (ps:List Str) where
 f:Addr
 d:FuncData
 F:GO K n n st f d
 b:Binds K d ps []
 m:mg n=some (.ref f)
set_option genInjectivity false in
set_option genSizeOf false in
set_option genSizeOfSpec false in
structure CI (mg:Str->Option Value) (n:Str) (i:Int) where
 t:Tok
 c:mg n=some (.int i t)
set_option genInjectivity false in
set_option genSizeOf false in
set_option genSizeOfSpec false in
structure CT (K:az) (mg:Str->Option Value) (n:Str) (vs:List V) where
 a:Addr
 c:mg n=some (.ref a)
 q:e8 K a vs
section
variable {K:az}{mg:Str->Option Value}{n:Str}{st:Stmt}{ps:List Str}{h:Heap}{f a:Addr}{oc:Value}{od an:Option Addr}{sl:Array (Option Value)}{kV dc pm cd ct:Value}
abbrev EI(n:Str)(st:Stmt)(ps:List Str):Prop:=∀ (kV doc pm:Value) (an:Option Addr) (cdv ct:Value) (us:List Value),us.length=ps.length->bindArgs (PySem.W.fnOf n n (fU st) (dQ st) (aB st) .none kV doc pm an cdv ct) ⟨us,[]⟩=pure (ps.zip us)
def Rl(X:K.In h)(G:h.Ns mainGlobals mg)(hb:EI n st ps)(e:PySem.W.nsIn K mainGlobals n=some (some (.ref f)))(l:K.lookup f=some ⟨oc,od,.func (PySem.W.fnOf n n (fU st) (dQ st) (aB st) .none kV dc pm an cd ct),sl⟩)
  (c:PySem.W.codeIn K cd n=true)(k:PySem.W.keepIn K (.ref f)=true):DD K mg n st ps:=⟨f,_,sS l c k,(sS l c k).binds hb,PySem.W.mg_of X G e⟩
def Rm{i:Int}{t:Tok}(X:K.In h)(G:h.Ns mainGlobals mg)(e:PySem.W.nsIn K mainGlobals n=some (some (.int i t))):CI mg n i:=⟨t,PySem.W.mg_of X G e⟩
def Rn{vs:List V}{its:Array Value}{j:Nat}(X:K.In h)(G:h.Ns mainGlobals mg)(e:PySem.W.nsIn K mainGlobals n=some (some (.ref a)))(l:K.lookup a=some ⟨.type "tuple", od,.seq its j,sl⟩)(r:Vals vs its.toList)(hz:its.size <= 1000):CT K mg n vs:=⟨a,PySem.W.mg_of X G e,e8.mk' l r hz⟩
theorem DD.bind1{x:Str}{st:Stmt}(D:DD K mg n st [x])(hb:EI n st [x])(s:Shared)(v:Value):BindsTo s D.d ⟨[v],[]⟩ [(x,v)]:=by
 obtain ⟨_,_,kV,dc,pm,an,cd,ct,_,e,_,_⟩:=D.F.ex
 rw [e]
 exact .of_eq (hb kV dc pm an cd ct [v] rfl)
end
section
variable {X:Cx}{n:Str}{st:Stmt}{ps:List Str}{sp:Sp}{k j:Nat}{e:Expr}{es:List Expr}{p pos:Pos}{t:TA}
theorem aU(D:DD X.K X.mg n st ps)(F:bN X.prog X.w X.K X.mg X.base gJ k D.f D.d ps sp)(r:ef j X.A)(ha:PA X (e :: es) t)(hk:k <= j:=by first | decide | omega)(hg:Gl X n:=by rfl)(hdb:(n == ("__debug__" : Str))=false:=by decide)
  (he:starEach (e :: es) X.env=(false,eval e X.env) :: starEach es X.env:=by rfl)(hpl:(backTo pos (starEach es X.env)).any (·.1)=false:=by rfl):PE X (.Call (.Name n p) (e :: es) [] pos) (C3 sp [] E0 t) :=
 GH F (r.mono hk) hg D.m D.F.kp D.b .nil JS ha hdb he hpl
end
open PySem.W
abbrev xA:List Value:=[.type "ValueError", .type "Exception", .type "BaseException", .type "object"]
def jC(K:Frag)(C G f:Addr):Bool:=match K.lookup C with
 | some ⟨.type "type", _,.cls cd,sl⟩=>(match cd.mro,sl.toList with
  | .ref C' :: bm,[_,_,_,_,some (.builtin n),_]=>C' == C && n == "ValueError.__new__" && !cd.hasDel && bm == .ref G :: xA && tailIn K xA bm && nsOkIn K cd.ns && nsIn K cd.ns "__init__" == some (some (.ref f)) && cd.hasDict
  | _,_=>false)
 | _=>false
theorem yN{h:Heap}{N:Addr}{mg:Str->Option Value}{n:Str}{v:Value}(X:K.In h)(G:h.Ns N mg)(e:nsIn K N n=some (some v)):mg n=some v:=by
 obtain ⟨o,es,ep,ho,hd,_,hf⟩:=G
 unfold nsIn at e
 split at e
 ·rename_i c d es' n' sl q
  have:=X _ _ q
  rw [ho] at this
  cases this
  cases hd
  split at e
  ·rename_i x he
   rw [<- hf]
   unfold nsFind findBy
   rw [<- Array.find?_toList,he]
   simpa using e
  ·split at e <;> cases e
 ·cases e
def BG(h:Heap)(C G f:Addr):Prop:=∃ N nm q bs hdct sn sub ab col dd k0 k1 k2 k3 k5 mN,
 h.get? C=some (excClassObj nm q C N bs (.ref G :: xA) hdct sn sub ab col dd k0 k1 k2 k3 k5 "ValueError.__new__") /\ h.Ns N mN /\ mN "__init__" = some (.ref f) /\ OwnTail h xA (.ref G :: xA)
theorem Ae{G:Addr}(X:K.In h)(q:jC K C G f=true):BG h C G f:=by
 unfold jC at q
 split at q
 ·rename_i dd cd sl ho
  split at q
  ·rename_i C' bm k0 k1 k2 k3 n k5 hm hs
   simp only [fB,beq_iff_eq,Bool.not_eq_true'] at q
   obtain ⟨⟨⟨⟨⟨⟨⟨rfl,rfl⟩,BH⟩,rfl⟩,ht⟩,hok⟩,hni⟩,_⟩:=q
   obtain ⟨nm,bs,mro,ns,qn,hd,sn,sub,ab,col,del⟩:=cd
   dsimp only at hm BH hok hni
   subst hm BH
   have hsl:sl=#[k0,k1,k2,k3,some (.builtin "ValueError.__new__"),k5]:=by
    obtain ⟨l⟩:=sl
    simp only at hs
    rw [hs]
   subst hsl
   have hN:=Heap.Ns.of_isNs (isNs_of_in X hok)
   exact ⟨ns,nm,qn,bs,hd,sn,sub,ab,col,dd,k0,k1,k2,k3,k5,_,X _ _ ho,hN,yN X hN hni,tail_of_in X ht⟩
  ·cases q
 ·cases q
theorem EJ{G:Addr}(q:jC K C G f=true):∃ cd,clsIn K C=some cd /\ cd.mro=.ref C :: .ref G :: xA /\ cd.hasDict=true:=by
 unfold jC at q
 split at q
 ·rename_i dd cd sl ho
  split at q
  ·rename_i C' bm k0 k1 k2 k3 n k5 hm hs
   simp only [fB,beq_iff_eq,Bool.not_eq_true'] at q
   obtain ⟨⟨⟨⟨⟨⟨⟨rfl,rfl⟩,BH⟩,rfl⟩,ht⟩,hok⟩,hni⟩,hd⟩:=q
   exact ⟨cd,by unfold clsIn; rw [ho],hm,hd⟩
  ·cases q
 ·cases q
abbrev yO(vs:List Value):Obj:={ cls:=.type "tuple", data:=.seq vs.toArray }
abbrev xf(t:Addr):Array Value:=#[.ref t,.none,.none,.none,.bool false,.none]
abbrev gn(C:Addr)(od:Option Addr)(vs:Array Value):Obj:={ cls:=.ref C,dict:=od,data:=.fields vs }
section
variable {prog:Program}{w:World}{A:Around}{E:Value->Shared->Prop}{h:Heap}{g:Array GenState}{d:Drawn}{t:Nat}{os:OsState}{C G fI:Addr}
theorem tH{rest:List Value}{oI:Obj}{Q:Fin->Shared->Prop}(hX:BG h C G fI)(hfI:h.get? fI=some oI)(hfc:oI.cls=.type "function")
  (hq:wpAny (model prog w) A (call (.ref fI) (.ref (h.objs.size + 1) :: rest)) (λ r s'=>r=.none /\ Q (.done (.ret (.ref (h.objs.size + 1)))) s') E ⟨(h.push (yO rest)).push (gn C none (xf h.objs.size)),g,d,t,os⟩)(hrest:rest.length <= sizeLine):
  wpAny (model prog w) A (Builtin.«type.__call__» ⟨.ref C :: rest,[]⟩) Q E ⟨h,g,d,t,os⟩:=by
 obtain ⟨N,nm,q,bs,hdct,sn,sub,ab,col,dd,k0,k1,k2,k3,k5,mN,hC,hn,hi,T⟩:=hX
 have F:=PySem.F.excBase_ValueError
 repeat (first | with_reducible refine wpAny_loadPart_at hC ?_ | with_reducible refine wpAny_madeBy_exc hC ?_ | wp_step)
 refine codeAny_call_builtin_code (Code.quiet_builtin _ F.quiet) (wpAny_check_new_subT F T hC ?_)
 refine codeAny_exc_new_subT F T hC ?_ hrest
 show wpAny _ _ _ _ _ _
 have Ys:=bO { cls:=.ref C,data:=.fields #[.ref h.objs.size,.none,.none,.none,.bool false,.none] }
  (bO { cls:=.type "tuple", data:=.seq rest.toArray } hC)
 have V4:=bO { cls:=.ref C,data:=.fields #[.ref h.objs.size,.none,.none,.none,.bool false,.none] }
  (bO { cls:=.type "tuple", data:=.seq rest.toArray } hfI)
 have hn₁:((h.push { cls:=.type "tuple", data:=.seq rest.toArray }).push { cls:=.ref C,data:=.fields #[.ref h.objs.size,.none,.none,.none,.bool false,.none] }).Ns N mN :=
  let ⟨o,es,ep,e,r⟩:=hn; ⟨o,es,ep,bO _ (bO _ e),r⟩
 have hget:((h.push { cls:=.type "tuple", data:=.seq rest.toArray }).push
   { cls:=.ref C,data:=.fields #[.ref h.objs.size,.none,.none,.none,.bool false,.none] }).get? (h.objs.size + 1)=some
   { cls:=.ref C,data:=.fields #[.ref h.objs.size,.none,.none,.none,.bool false,.none] }:=by heap_get
 have hcC:(Value.ref C :: Value.ref G :: xA).contains (.ref C)=true:=by simp
 have T₁:=T.keeps (h':=(h.push { cls:=.type "tuple", data:=.seq rest.toArray }).push { cls:=.ref C,data:=.fields #[.ref h.objs.size,.none,.none,.none,.bool false,.none] })
  λ b o e=>bO _ (bO _ e)
 unfold isInstance
 repeat (first | with_reducible refine wpAny_loadPart_at hget ?_ | (with_reducible refine wpAny_isSubtype_exc Ys ?_; rw [hcC]) | wp_step)
 show wpAny _ _ (typeLookup (.ref C) _) _ _ _
 refine wpAny_typeLookup_tail Ys hn₁ T₁ F.mroIs F.init.lookup ?_
 rw [hi]
 refine wpAny_holding (af ?_)
 unfold bindSpecial
 refine af (wpAny_typeOf (T := "function") ⟨_,V4,hfc⟩ ?_)
 rw [if_pos (by decide)]
 refine aE (af (wpAny_mono hq (λ r s' hr=>?_) λ _ _ x=>x))
 obtain ⟨rfl,hQ⟩:=hr
 wp_walk
 exact hQ
theorem HX{rest:List Value}{oI:Obj}{R:Result->Shared->Prop}(hX:BG h C G fI)(hfI:h.get? fI=some oI)(hfc:oI.cls=.type "function")
  (hq:wpAny (model prog w) (A.under (.builtin "type.__call__" ⟨.ref C :: rest,[]⟩)) (call (.ref fI) (.ref (h.objs.size + 1) :: rest)) (λ r s'=>r=.none /\ R (.ok (.ret (.ref (h.objs.size + 1)))) s') (λ e s'=>R (.error e) s')
   ⟨(h.push (yO rest)).push (gn C none (xf h.objs.size)),g,d,t,os⟩)(hrest:rest.length <= sizeLine):
  codeAny (model prog w) A (.call (.ref C) ⟨rest,[]⟩) R ⟨h,g,d,t,os⟩:=by
 have Z9:=hX
 obtain ⟨N,nm,q,bs,hdct,sn,sub,ab,col,dd,k0,k1,k2,k3,k5,mN,hC,hn,hi,T⟩:=hX
 have f1:=tc_lookup
 have f2:=tc_bind (.ref C)
 have hT:(⟨h,g,d,t,os⟩:Shared).TypeIs (.ref C) "type" := ⟨_,hC,rfl⟩
 refine codeAny_of_tree ?_
 show wpAny _ _ (callAny (.ref C) _) _ _ _
 repeat (any_goals (first | assumption | with_reducible refine wpAny_loadPart_at hC ?_ | wp_step))
 refine ⟨rfl,?_⟩
 refine codeAny_call_builtin_at (Code.quiet_builtin _ (by decide +kernel)) entry_typeCall (wpAny_check_type_call_sub hC (tH Z9 hfI hfc ?_ hrest))
 exact hq
end
def XO(C:Addr)(od:Option Addr)(vs:Array Value)(e:Addr)(h:Heap):Prop:=h.get? e=some (gn C od vs)
theorem XO.ok{P:Program}{w:World}{H:Hp}{e:Addr}{od:Option Addr}{vs:Array Value}(x:h.get? e=some (gn C od vs)):bT P w H h e (.ext (XO C od vs e)) :=
 ⟨x,⟨_,x⟩,λ _ _ p k=>k _ p⟩
theorem Ro(X:K.In h)(e:isFn K (.ref f)=true):∃ o,h.get? f=some o /\ o.cls=.type "function" := by
 have e:=beq_iff_eq.mp e
 unfold typeIn at e
 obtain ⟨o,ho,ec⟩:=cO.mp e
 exact ⟨o,X _ _ ho,ec⟩
section
variable {X:Cx}{CX:xO}{k:Nat}{f C G:Addr}{fd:FuncData}{ps:List Str}{sp:Sp}{E:XK}{x:Str}{p pos:Pos}{e:Expr}{es:List Expr}{t:TA}
def EK(C:Addr)(sp:Sp)(E:XK)(t:TA):TE:=λ σ H Q=>t σ H λ vs H1=>vs.length <= 1000 /\ ∀ e t,H1 e=none ->
 sp (.ref e :: vs) (upd H1 e (.ext (XO C none (xf t) e))) (λ v H2=>v=.bZ /\ Q (.ref e) H2) E
theorem BI{pins:List (Addr × Obj)}{σ:St}{H:Hp}{s:Shared}{Q:VK}{us:List Value}{vs:List V}(hxc:jC X.K C G f=true)(hfn:isFn X.K (.ref f)=true)(F:bN X.prog X.w X.K X.mg X.base CX k f fd ps sp)
  (hr:ef (k + 1) X.A)(hb:Binds X.K fd ps [])(hx:Passes CX X E)(I:Inv X pins σ H s)(r:Vals vs us)(hlen:vs.length <= 1000)
  (h:∀ e t,H e=none->sp (.ref e :: vs) (upd H e (.ext (XO C none (xf t) e))) (λ v H2=>v=.bZ /\ Q (.ref e) H2) E):
  wpAny (model X.prog X.w) X.A (call (.ref C) us) (EP X pins σ Q) X.xe s:=by
 have hq:=h (s.heap.objs.size + 1) s.heap.objs.size (I.hok.fresh (jk _))
 obtain ⟨oI,hfI,hfc⟩:=Ro I.jc hfn
 have hget:((s.heap.push (yO us)).push (gn C none (xf s.heap.objs.size))).get? (s.heap.objs.size + 1)=some (gn C none (xf s.heap.objs.size)):=by heap_get
 have I2:=I.laid (h':=(s.heap.push (yO us)).push (gn C none (xf s.heap.objs.size))) (t':=s.toks) (λ b u q=>bO _ (bO _ q)) (jk _) (XO.ok hget)
 have r2:Vals (V.ref (s.heap.objs.size + 1) :: vs) (Value.ref (s.heap.objs.size + 1) :: us):=.cons rfl r
 have hl:(Value.ref (s.heap.objs.size + 1) :: us++[]).length=ps.length:=by
  have e:=r2.length
  rw [F.len _ _ _ _ hq] at e
  rw [dY]
  exact e.symm
 have hb2:=hb _ (Value.ref (s.heap.objs.size + 1) :: us) I2.jc hl
 rw [dY] at hb2
 have mG:us.length <= sizeLine:=by rw [<- r.length]; exact g7 (A6 hlen)
 obtain ⟨hh,g,d,tk,os⟩:=s
 refine wpAny_call (HX (Ae I.jc hxc) hfI hfc (wpAny_call (codeAny_mono (F.run _ X.stack _ _ ⟨Value.ref (hh.objs.size + 1) :: us,[]⟩ (Value.ref (hh.objs.size + 1) :: us) _ _ E (hr.make C us [])
  (I2.LC.make C us []) hb2 r2 hq) λ r s' hq'=>?_)) mG)
 cases r with
 | error e=>exact hx pins σ _ _ e s' I2 hq'
 | ok fl =>
  cases fl with
  | ret u =>
   obtain ⟨v,H',I3,rv,ev,q3⟩:=I2.after hq'
   subst ev
   exact ⟨rv,⟨V.ref (hh.objs.size + 1),H',I3,rfl,q3⟩⟩
  | next=>exact False.elim hq'
  | brk=>exact False.elim hq'
  | cont=>exact False.elim hq'
theorem EL(hxc:jC X.K C G f=true)(hfn:isFn X.K (.ref f)=true)(hk:keepIn X.K (.ref C)=true)(F:bN X.prog X.w X.K X.mg X.base CX k f fd ps sp)(hr:ef (k + 1) X.A)(hg:Gl X x)(hm:X.mg x=some (.ref C))(hb:Binds X.K fd ps [])(hx:Passes CX X E)
  (ha:PA X (e :: es) t)(hdb:(x == ("__debug__" : Str))=false:=by decide)(he:starEach (e :: es) X.env=(false,eval e X.env) :: starEach es X.env:=by rfl)(hpl:(backTo pos (starEach es X.env)).any (·.1)=false:=by rfl):
  PE X (.Call (.Name x p) (e :: es) [] pos) (EK C sp E t):=by
 intro pins s σ H Q I h
 refine wpAny_Call_Name_kw (jK I hg hm ?_ hdb)
 refine PySem.W.callWith_K (h₀:=X.base) I.ok.mod.Ld hk (bV (ha pos pins s σ H _ I h) λ us s1 ⟨vs,H1,I1,r,hl,q⟩=>⟨I1.jc,?_⟩) he hpl
 exact BI hxc hfn F hr hb hx I1 r hl q
end
open PySem.Builtin PySem.Builtin.ObjectAttr
theorem EM(self:Value):refuseLoop self "__setattr__" xA=pure ():=by kernel_rfl
section
variable {prog:Program}{w:World}{A:Around}{E:Value->Shared->Prop}{R:Result->Shared->Prop}{s:Shared}{K:Frag}{x C G f:Addr}
theorem Rp{ox:Obj}{od:Option Obj}{name:Str}{tk:Tok}{v:Value}(X:K.In s.heap)(I:InstAt s.heap x ox C od)(hxc:jC K C G f=true)(ha:findIn K (.ref C) name=some none)
  (h:wpAny (model prog w) A.in1 (storeInOwnDict (.ref x) (.ref C) (.str name tk) name v false)
   (λ fin s'=>match fin with | .done f=>R (.ok f) s' | .again c'=>c'.quiet=true /\ codeAny (model prog w) A c' R s') (λ e s'=>R (.error e) s') s):
  codeAny (model prog w) A (.call (.builtin "object.__setattr__") ⟨[.ref x,.str name tk,v],[]⟩) R s:=by
 have SF:=PySem.F.store_object
 obtain ⟨cd,hc,ho,hd⟩:=EJ hxc
 have sub:Looks (model prog w) s.heap (isInstance (.ref x) (.type "object")) true:=I.type.andThen (looks_mroIn X (by unfold mroIn; rw [hc,Option.bind_some,ho]; rfl))
 refine codeAny_call_builtin SF.slot.plain SF.entry (@check_slot (model prog w) _ _ s "object.__setattr__" "object" "__setattr__" (.ref x) [.str name tk,v] [] _ SF.kind SF.split sub (SF.args (.ref x) (.str name tk) v) ?_)
 have hm:Looks (model prog w) s.heap (mroOf (.ref C)) cd.mro:=(looks_clsIn X hc).andThen .now
 have L3:Looks (model prog w) s.heap (storeTaker? none) none:=.now
 rw [osa_eq,refuse_eq]
 refine af (af (I.type.here (af (hm.here ?_))))
 rw [ho,refuseLoop_ref,refuseLoop_ref,EM]
 refine aE (af (I.type.here (af ((looks_findIn X ha).here (af (L3.here ?_))))))
 exact h
end
section
variable {X:Cx}{pins:List (Addr × Obj)}{σ:St}{H:Hp}{s:Shared}{a C G f:Addr}{A:Around}{E:Value->Shared->Prop}
theorem BJ{nm:Str}{vs:Array Value}{y:V}{u:Value}{Q:Unit->Shared->Prop}(I:Inv X pins σ H s)(e:H a=some (.ext (XO C none vs a)))(hxc:jC X.K C G f=true)(V5:findIn X.K (.ref C) "__setattr__" = some (some (.builtin "object.__setattr__")))
  (ha:findIn X.K (.ref C) nm=some none)(ry:RelV y u)
  (h:∀ s' dx,H dx=none->dx ≠ a->Inv X pins σ (upd (upd H a (.ext (XO C (some dx) vs a))) dx (.xd [(nm,y)])) s'->Q () s'):wpAny (model X.prog X.w) A (setAttr (.ref a) nm u) Q E s:=by
 have ho:s.heap.get? a=some (gn C none vs):=(I.hok a _ e).1
 have J:InstAt s.heap a (gn C none vs) C none:=⟨ho,rfl,rfl,trivial⟩
 obtain ⟨cd,hc,hm,hd⟩:=EJ hxc
 refine PySem.W.set_plain I.jc J V5 (Rp (s:={ s with toks:=s.toks + 1 }) I.jc J hxc ha ?_)
 refine af (aE (af (af (wpAny_loadPart ho (af (PySem.W.Looks.here (s:={ s with toks:=s.toks + 1 }) (PySem.W.looks_clsIn I.jc hc) ?_))))))
 rw [hd,if_neg (by decide)]
 show wpAny _ _ (alloc { cls:=.type "dict", data:=.dict #[] } >>= λ d=>update a (λ o=>{ o with dict:=some d }) >>= λ _=>pure (some d)) _ _ _
 have hlt:=aA ho
 have hne:s.heap.objs.size ≠ a:=fO hlt
 have hp1:=bO (h:=s.heap) (PySem.W.emptyDict) ho
 refine af (wpAny_alloc (af (wpAny_update hp1 (aE ?_))))
 show wpAny _ _ (nsSet s.heap.objs.size nm u >>= λ _=>lookBehind s.heap.objs.size (some (.str nm 0)) >>= λ _=>ret .none) _ _ _
 have OW:((s.heap.push PySem.W.emptyDict).update a (λ o=>{ o with dict:=some s.heap.objs.size })).get? a=some (gn C (some s.heap.objs.size) vs):=cj _ hp1 rfl
 have hgo:∀ b,b ≠ a->((s.heap.push PySem.W.emptyDict).update a (λ o=>{ o with dict:=some s.heap.objs.size })).get? b=(s.heap.push PySem.W.emptyDict).get? b:=λ b hb=>c7 _ _ (aV hb)
 have e1:((s.heap.push PySem.W.emptyDict).update a (λ o=>{ o with dict:=some s.heap.objs.size })).get? s.heap.objs.size=some PySem.W.emptyDict:=(hgo _ hne).trans (fK s.heap rfl)
 have e3:((s.heap.push PySem.W.emptyDict).update a (λ o=>{ o with dict:=some s.heap.objs.size })).Ns1 s.heap.objs.size (λ _=>none):=Heap.Ns1.of_empty ⟨PySem.W.emptyDict,#[],_,e1,rfl,(λ e he=>absurd he (by simp)),λ _=>rfl⟩
 refine af (wpAny_nsSet1 e3 λ h' hn2 hs2=>?_)
 obtain ⟨oD,esD,epD,hoD,hdD,HY⟩:=hn2.count (PySem.Within.cons nm u (ns:=[]) (m:=λ _=>none) λ _ q=>absurd rfl q)
 refine af (wpAny_lookBehind hoD (by rw [hdD]; exact pastItsLine_dict (bq HY (show 1 <= sizeLine + 1 by decide))) ?_)
 refine aE (h _ s.heap.objs.size (I.hok.fresh (ay _)) hne ?_)
 have V6:(s.heap.update a (λ o=>{ o with dict:=some s.heap.objs.size })).get? a=some (gn C (some s.heap.objs.size) vs):=cj _ ho rfl
 have I1:=I.write (x:=a) (e:=a) (t':=s.toks) (o:=.ext (XO C (some s.heap.objs.size) vs a)) (h':=s.heap.update a (λ o=>{ o with dict:=some s.heap.objs.size })) (by rw [e]; trivial) (.inl rfl)
    (λ b u hb z=>by rw [c7 _ _ (aV hb)]; exact z) ⟨_,V6⟩ (XO.ok V6)
 refine I1.laid (a:=s.heap.objs.size) (o:=.xd [(nm,y)]) (h':=h') (λ b o q=>?_) (Nat.le_of_eq (oO ..)) ⟨_,hn2,λ g=>?_⟩
 ·by_cases hb:b=a
  ·subst hb
   rw [V6] at q
   rw [hs2.2 _ (aV hne),OW]
   exact q
  ·have q':s.heap.get? b=some o:=(c7 _ _ (aV hb)).symm.trans q
   rw [hs2.2 b (aM (aA q')),hgo b hb]
   exact bO _ q'
 ·by_cases hg:g=nm
  ·subst hg
   rw [if_pos rfl]
   show iK (List.lookup g [(g,y)]) _
   rw [List.lookup_cons_self]
   exact ry
  ·rw [if_neg hg]
   show iK (List.lookup g [(nm,y)]) none
   rw [List.lookup_cons,beq_false_of_ne hg]
   trivial
def Rq(K:Frag)(G f:Addr)(ta tv:TE)(nm:Str):TS:=λ D σ H=>tv σ H λ y H1=>ta σ H1 λ x H2=>∃ (a C:Addr) (vs:Array Value),x=.ref a /\ H2 a=some (.ext (XO C none vs a)) /\ jC K C G f=true /\
 findIn K (.ref C) "__setattr__" = some (some (.builtin "object.__setattr__")) /\ findIn K (.ref C) nm=some none /\
 ∀ dx,H2 dx=none->dx ≠ a->D.nx σ (upd (upd H2 a (.ext (XO C (some dx) vs a))) dx (.xd [(nm,y)]))
theorem HZ{o value:Expr}{nm:Str}{pos pos':Pos}{ta tv:TE}(ha:PE X o ta)(hv:PE X value tv)(hs:swapsWith value (some (.Attribute o nm pos')) pos.line X.env=pure false):PS X (.Assign [.Attribute o nm pos'] value pos) (Rq X.K G f ta tv nm):=by
 intro pins s σ H D I h
 refine plainObj_wpAny_Assign_Attribute (bV (hv pins s σ H _ I h) λ u s1 ⟨y,H1,I1,ry,q⟩=>bV (ha pins s1 σ H1 _ I1 q) λ ov s2 ⟨x,H2,I2,rx,a,C,vs,ex,ea,hxc,V5,hna,q2⟩=>?_) hs
 subst ex
 obtain rfl:ov=Value.ref a:=rx
 exact BJ I2 ea hxc V5 hna ry λ s3 dx h1 h2 I3=>⟨σ,_,I3,q2 dx h1 h2⟩
end
end L2
namespace L2
open PySem PySem.Spec PyProof.Rows PySem.W
variable {w:World}{A:Around}{E Q:Value->Shared->Prop}{s:Shared}{te:TE}{C e a G:Addr}{pos:Pos}{tk:Tok}
def Ie(K:Frag)(G:Addr):Bool:=readsIn K G (.type "type") && (match findCls K (.ref G) (.type "type") "__init__" with | some (.val (.builtin i))=>i == "ValueError.__init__" | _=>false)
 && specialIn K (.ref G) "__getattribute__" == some (some (.builtin "type.__getattribute__"))
section
variable {X:Cx}{G:Addr}{x:Str}{p apos pos:Pos}{e:Expr}{es:List Expr}{t:TA}
def Nz(K:Frag)(G:Addr)(t:TA):TE:=λ σ H Q=>t σ H λ vs H1=>∃ (e C f t0:Addr) (txt:Str),vs=[.ref e,.str txt] /\ H1 e=some (.ext (XO C none (xf t0) e)) /\ jC K C G f=true /\
 ∀ t1,Q .bZ (upd H1 e (.ext (XO C none (xf t1) e)))
theorem EN{pl:Sem Bool}(V7:Ie X.K G=true)(hg:Gl X x)(hm:X.mg x=some (.ref G))(ha:PA X (e :: es) t)(hdb:(x == ("__debug__" : Str))=false:=by decide)
  (hs:starEach (e :: es) X.env=(false,eval e X.env) :: starEach es X.env:=by rfl)(hplain:(backTo pos (starEach es X.env)).any (·.1)=false:=by rfl)
  (ht:eval (.Call (.Attribute (.Name x p) "__init__" apos) (e :: es) [] pos) X.env=(do
   let ov <- eval (.Name x p) X.env
   standAt apos.atName
   let (f,first) <- holding [ov] (getMethod ov "__init__" pl)
   callWith pos f first (backTo pos (starEach (e :: es) X.env)) (backToKw pos (keywordEach [] X.env))):=by rfl):
  PE X (.Call (.Attribute (.Name x p) "__init__" apos) (e :: es) [] pos) (Nz X.K G t):=by
 intro pins s σ H Q I h
 unfold Ie at V7
 simp only [fB,beq_iff_eq] at V7
 obtain ⟨⟨hr,hf⟩,hga⟩:=V7
 have hf:findCls X.K (.ref G) (.type "type") "__init__" = some (.val (.builtin "ValueError.__init__")):=by
  split at hf
  ·rename_i q; rw [q,beq_iff_eq.mp hf]
  ·cases hf
 refine methodCall_KW (pl:=pl) (jK I hg hm ?_ hdb) ht
 refine method_cls I.jc hga (cls_value I.jc hr hf (by decide +kernel) ?_)
 have I1:Inv X pins σ H { s with toks:=s.toks + 1 }:=I.kept (h':=s.heap) (t':=s.toks + 1) λ _ _ q=>q
 have hA:=ha pos pins _ σ H _ I1 h
 rw [hs] at hA ⊢
 refine sr (by show (false || (backTo pos (starEach es X.env)).any (·.1))=false; rw [hplain] <;> rfl) (Calls.evalArgs_plain ?_)
 refine bV hA λ us s2 hz=>?_
 obtain ⟨vs,H2,I2,r2,e,C,f,t0,txt,rfl,he,hxc,q⟩:=hz
 have F:=PySem.F.excBase_ValueError
 obtain ⟨N,nm,qn,bs,hdct,sn,sub,ab,col,dd,k0,k1,k2,k3,k5,mN,hC,hn,hi,T⟩:=Ae I2.jc hxc
 obtain ⟨hh,g,d,tk,os⟩:=s2
 have Yt:hh.get? e=some (gn C none (xf t0)):=(I2.hok e _ he).1
 cases r2 with
 | cons ra rb =>
  cases rb with
  | cons rb rc =>
   cases rc
   obtain rfl:=ra
   obtain ⟨TX,rfl⟩:=rb
   show wpAny _ _ (call (.builtin "ValueError.__init__") [.ref e,.str txt TX]) _ _ _
   refine wpAny_call (codeAny_call_builtin F.init.plain F.initEntry (wpAny_check_init_subT F T hC Yt rfl ?_))
   wp_walk
   have hget:((hh.push (yO [.str txt TX])).update e (Obj.mapFields λ x=>x.setIfInBounds 0 (.ref hh.objs.size))).get? e=some (gn C none (xf hh.objs.size)) :=
    cj _ (bO _ Yt) rfl
   have I3:=I2.kept (h':=hh.push (yO [.str txt TX])) (t':=tk) (λ b u z=>bO _ z)
   have I4:=I3.write (x:=e) (e:=e) (t':=tk) (o:=.ext (XO C none (xf hh.objs.size) e)) (h':=(hh.push (yO [.str txt TX])).update e (Obj.mapFields λ x=>x.setIfInBounds 0 (.ref hh.objs.size))) (by rw [he]; trivial) (.inl rfl)
    (λ b u hb z=>by rw [c7 _ _ (aV hb)]; exact z) ⟨_,hget⟩ (XO.ok hget)
   exact ⟨.bZ,_,I4,rfl,q hh.objs.size⟩
def Rr(te:TE):TE:=λ σ H Q=>te σ H λ v H1=>((∃ n:Int,v=.int n /\ -1000000 < n /\ n < 1000000) \/ v=.bZ) /\ ∀ t:Str,Q (.str t) H1
theorem e9:Slot "NoneType" "__format__" "object.__format__" :=
 .of (owner := "object") (n := "__format__") (by rw [typeLookup_type,builtinLookup_eq_fast]; kernel_rfl) (by decide +kernel) (by decide +kernel) (by decide +kernel)
  (by first | exact .inl (by decide +kernel) | exact .inr (by decide +kernel)) (by rw [isSubtype_type]; kernel_rfl)
theorem mU:entryFor table "object.__format__" = some Builtin.«object.__format__»:=entryFor_of_fast (by kernel_rfl)
theorem nH(a b:Value):argsOk "object.__format__" ⟨[a,b],[]⟩:=by unfold argsOk; kernel_rfl
theorem vA{prog:Program}(h:∀ t' tk,Q (.str "None" t') { s with toks:=tk }):wpAny (model prog w) A (formatField .none Str.empty) Q E s:=by
 show wpAny _ _ (holding [.none] (pyFormat .none Str.empty)) Q E s
 refine wpAny_holding ?_
 unfold pyFormat
 refine af (wpAny_mkStr ?_ (by decide))
 refine af (m:=callSpecial? .none (Str.ofString "__format__") [.str Str.empty s.toks]) (wpAny_callSpecial?_slot (name:=Str.ofString "__format__") (typeIs_none _) e9 ?_)
 refine wpAny_call (codeAny_call_builtin e9.plain mU (e9.check _ _ _ _ _ _ _ _ (typeIs_none _) (nH _ _) ?_))
 unfold Builtin.«object.__format__»
 have hT:∀ s':Shared,s'.TypeIs (.str Str.empty s.toks) "str" := λ s'=>typeIs_str s' _ _
 repeat (any_goals (first | assumption | with_reducible apply pyStrObj_none | wp_step))
 rw [isSubtype_str_str]
 exact aE (aE (h _ _))
theorem Rt{n:Nat}(h:n < 1000000):n.log2 < 20:=by
 by_cases h0:n=0
 ·subst h0; decide
 ·exact (Nat.log2_lt h0).mpr (Nat.lt_trans h (by decide))
theorem Ig{c1 c2:Str}{k1 k3:Nat}{p1 p2 p3:Pos}(he:PE X e te)(h1:c1.length <= 1000)(h2:c2.length <= 1000):
  PE X (.JoinedStr [.Constant (.str c1) k1 p1,.FormattedValue e (-1) none p2,.Constant (.str c2) k3 p3] pos) (Rr te):=by
 intro pins s σ H Q I h
 have hz:∀ {m n:Nat},m + n <= 3000->m + n <= sizeLine:=λ z=>bq z (by decide)
 have go:∀ (y:Str) (t':Tok) (s':Shared) (H1:Hp),y.length <= 1000->(∀ tk,Inv X pins σ H1 { s' with toks:=tk })->(∀ t,Q (.str t) H1) ->
   (Str.empty++c1++y).length <= sizeLine /\ wpAny (model X.prog X.w) X.A (joinParts (Str.empty++c1++y) (evalEach [.Constant (.str c2) k3 p3] X.env)) (EP X pins σ Q) X.xe s':=by
  intro y t' s' H1 hy hI hQ
  have hl:(Str.empty++c1++y).length <= 2000:=by
   rw [strLen_append,strLen_append]
   have:Str.empty.length=0:=rfl
   omega
  refine ⟨bq hl (by decide),?_⟩
  refine joinParts_cons (wpAny_Constant_str ?_)
  have hl2:(Str.empty++c1++y++c2).length <= sizeLine:=by
   rw [strLen_append]
   exact bq (show _ <= 3000 by omega) (by decide)
  refine ⟨hl2,?_⟩
  exact joinParts_nil ⟨.str _,H1,hI _,⟨_,rfl⟩,hQ _⟩ hl2
 refine JoinedStr_many (joinParts_cons (wpAny_Constant_str ?_))
 have hl1:(Str.empty++c1).length <= sizeLine:=by
  rw [strLen_append]
  have:Str.empty.length=0:=rfl
  exact bq (show _ <= 3000 by omega) (by decide)
 refine ⟨hl1,?_⟩
 refine joinParts_cons (FormattedValue_plain ?_)
 have I1:Inv X pins σ H { s with toks:=s.toks + 1 }:=I.kept (h':=s.heap) (t':=s.toks + 1) λ _ _ q=>q
 refine bV (he pins _ σ H _ I1 h) λ u s1 hz=>?_
 obtain ⟨v,H1,I2,r,hv,q⟩:=hz
 have hI:∀ tk,Inv X pins σ H1 { s1 with toks:=tk }:=λ tk=>I2.kept (h':=s1.heap) (t':=tk) λ _ _ q=>q
 rcases hv with ⟨n,rfl,hn1,hn2⟩ | rfl
 ·obtain ⟨tk,rfl⟩:=r
  have Ru:n.natAbs.log2 < 20:=Rt (by omega)
  refine formatField_int_small (Nat.lt_trans Ru (by decide)) ?_
  have hlen:(Str.ofString (toString n)).length <= 1000:=by
   have:=int_text_length_le (a:=n) (k:=20) (by decide) Ru
   rw [PySem.ofString_length]
   omega
  exact go _ (s1.toks + 1) _ H1 hlen (λ tk=>hI tk) q
 ·obtain rfl:u=.none:=r
  refine vA λ t' tk=>?_
  exact go _ t' _ H1 (by decide) (λ tk=>hI tk) q
end
def nu(h:Heap)(e C:Addr)(od:Option Addr)(T:Addr)(fl:Value):Prop :=
 ∃ vs oT ts,h.get? e=some (gn C od vs) /\ vs[1]? = some (.ref T) /\ T ≠ e /\ h.get? T=some oT /\ oT.data=.fields ts /\ ts[3]? = some fl
def vB(S M:List Addr)(h h':Heap):Prop:=h.objs.size <= h'.objs.size /\ ∀ b o,h.get? b=some o->b ∉ M->(b ∉ S->h'.get? b=some o) /\ ∃ sl,h'.get? b=some { o with slots:=sl }
section
variable {M:Model}{A:Around}{E:Value->Shared->Prop}{s:Shared}{base:Heap}{env:Env}{outer:List Env}{L e C T:Addr}{od:Option Addr}{vs:Array Value}{fl:Value}{Q:Unit->Shared->Prop}
theorem EO{head:Value}{hadNext:Bool}(hfr:A.frames=some (env :: outer))(hl:s.heap.FunFrames base (env :: outer))(hf:env.frame=some L)
  (he:s.heap.get? e=some (gn C od vs))(hsz:1 < vs.size)
  (h:∀ h',nu h' e C od s.heap.objs.size (rawInt L)->vB ((env :: outer).filterMap (·.frame)) [e] s.heap h'->Q () { s with heap:=h' }):
  wpAny M A (do let a <- frameOf env; let pl <- entryPlaceOf L hadNext; let b <- EntryCells.newEntry head a .none (rawInt L) .none pl; setField (.ref e) 1 b) Q E s:=by
 have V8:e ∉ (env :: outer).filterMap (·.frame):=λ hm=>by
  obtain ⟨_,o,ho,hnf⟩:=hl.mem hm
  rw [he] at ho; injection ho with ho; subst ho; exact hnf vs rfl
 refine af (wpAny_frameOf_fun hfr hl hf λ h₁ hs₁=>?_)
 refine af (wpAny_entryPlaceOf λ pl hpl=>?_)
 unfold EntryCells.newEntry newFields
 refine af (wpAny_newObj_type ?_ (hpl.sizeOk5 _ _ _ _ _))
 have Yu:h₁.get? e=some (gn C od vs):=(hs₁.2.1 e V8).trans he
 have Yv:h₁.objs.size=s.heap.objs.size:=hs₁.1
 have Tw:=bO (h:=h₁) { cls:=.type "traceback", dict:=none,data:=.fields ([head,.ref L,.none,rawInt L,.none]++(if pl.isEmpty then List.replicate 6 Value.none else pl)).toArray } Yu
 refine wpAny_setField Tw rfl hsz (h _ ?_ ?_)
 ·have NB:h₁.objs.size ≠ e:=fO (aA Yu)
  have he₃:=cj (Obj.mapFields (·.setIfInBounds 1 (Value.ref h₁.objs.size))) Tw rfl
  have hT₃:=(c7 (h₁.push { cls:=.type "traceback", dict:=none,data:=.fields ([head,.ref L,.none,rawInt L,.none]++(if pl.isEmpty then List.replicate 6 Value.none else pl)).toArray })
   (Obj.mapFields (·.setIfInBounds 1 (Value.ref h₁.objs.size))) (aV NB)).trans (fK h₁ rfl)
  rw [<- Yv]
  exact ⟨_,_,_,he₃,by simp [hsz],NB,hT₃,rfl,by first | (simp; done) | (rcases hpl with rfl | ⟨_,_,_,_,_,_,_,rfl⟩ <;> simp)⟩
 ·refine ⟨?_,λ b o hb hM=>?_⟩
  ·rw [oO,dI,Yv]; exact jk _
  ·have Gu:e ≠ b:=λ q=>hM (by rw [q]; exact aC.mpr rfl)
   rw [c7 _ _ Gu]
   refine ⟨λ hS=>bO _ ((hs₁.2.1 b hS).trans hb),?_⟩
   obtain ⟨sl,q⟩:=hs₁.2.2 b o hb
   exact ⟨sl,bO _ q⟩
theorem yP(hfr:A.frames=some (env :: outer))(hl:s.heap.FunFrames base (env :: outer))(hf:env.frame=some L)
  (he:s.heap.get? e=some (gn C od vs))(h1:vs[1]? = some .none)
  (h:∀ h',nu h' e C od s.heap.objs.size (rawInt L)->vB ((env :: outer).filterMap (·.frame)) [e] s.heap h'->Q () { s with heap:=h' }):wpAny M A (noteFrame (.ref e) env) Q E s:=by
 unfold noteFrame
 simp only [hf]
 refine af (wpAny_field he rfl h1 ?_)
 rw [if_neg (by decide)]
 exact EO hfr hl hf he (gE.mp h1).1 h
theorem BK(hfr:A.frames=some (env :: outer))(hl:s.heap.FunFrames base (env :: outer))(hf:env.frame=some L)(hF:nu s.heap e C od T .none)
  (h:∀ h',nu h' e C od s.heap.objs.size (rawInt L)->vB ((env :: outer).filterMap (·.frame)) [e,T] s.heap h'->Q () { s with heap:=h' }):wpAny M A (noteFrame (.ref e) env) Q E s:=by
 obtain ⟨vs,oT,ts,he,h1,NB,hT,NC,h3⟩:=hF
 unfold noteFrame
 simp only [hf]
 refine af (wpAny_field he rfl h1 ?_)
 rw [if_pos (show (Value.ref T != Value.none)=true from by simp)]
 refine af (wpAny_field hT NC h3 ?_)
 rw [if_neg (show ¬ ((Value.none == rawInt L)=true) from by simp [rawInt])]
 refine af (wpAny_setField hT NC (gE.mp h3).1 ?_)
 have other:∀ b,b ≠ T->(s.heap.update T (Obj.mapFields (·.setIfInBounds 3 Value.none))).get? b=s.heap.get? b:=λ b hb=>c7 _ _ (aV hb)
 have ER:∀ b o,s.heap.get? b=some o->(∀ vs,o.data ≠ .fields vs)->b ≠ T:=λ b o hb hnf q=>by
  rw [q,hT] at hb; injection hb with hb; subst hb; exact hnf ts NC
 refine EO (base:=base) hfr (hl.of_keeps λ b o hb hnf=>⟨o,(other b (ER b o hb hnf)).trans hb,rfl⟩) hf ((other e (aV NB)).trans he) (gE.mp h1).1 λ h' hF hX=>?_
 rw [oO] at hF
 refine h h' hF ⟨by have:=hX.1; rwa [oO] at this,λ b o hb hM=>?_⟩
 have CG:b ≠ T:=λ q=>hM (by rw [q]; simp)
 exact hX.2 b o ((other b CG).trans hb) λ q=>hM (by rw [aC.mp q]; simp)
theorem land(hF:nu s.heap e C od T fl)(h:∀ h',nu h' e C od T .none->vB [] [T] s.heap h'->Q () { s with heap:=h' }):wpAny M A (setFlight (.ref e) none) Q E s:=by
 obtain ⟨vs,oT,ts,he,h1,NB,hT,NC,h3⟩:=hF
 have Rv:3 < ts.size:=(gE.mp h3).1
 have other:∀ b,b ≠ T->(s.heap.update T (Obj.mapFields (·.setIfInBounds 3 ((none:Option Addr).elim Value.none λ f=>rawInt f)))).get? b=s.heap.get? b :=
  λ b hb=>c7 _ _ (aV hb)
 unfold setFlight
 refine af (wpAny_field he rfl h1 ?_)
 rw [if_pos (show (Value.ref T != Value.none)=true from by simp)]
 refine wpAny_setField hT NC Rv (h _ ⟨vs,_,_,(other e (aV NB)).trans he,h1,NB,cj _ hT (fk (bW NC _)),bW NC _,by simp [Rv]⟩ ⟨?_,λ b o hb hM=>?_⟩)
 ·rw [oO]; exact ay _
 ·have CG:b ≠ T:=λ q=>hM (aC.mpr q)
  rw [other b CG]
  exact ⟨λ _=>hb,o.slots,hb⟩
end
def XF(C:Addr)(od:Option Addr)(e:Addr)(h:Heap):Prop:=∃ vs,h.get? e=some (gn C od vs)
theorem XF.ok{P:Program}{H:Hp}{h:Heap}{od:Option Addr}{vs:Array Value}(x:h.get? e=some (gn C od vs)):bT P w H h e (.ext (XF C od e)) :=
 ⟨⟨vs,x⟩,⟨_,x⟩,λ _ _ ⟨vs,p⟩ k=>⟨vs,k _ p⟩⟩
def ND(P:Program)(w:World):xO:=λ outer H s E e s'=>∃ (a C T:Addr) (od:Option Addr) (H':Hp),e=.ref a /\ s'.os=s.os /\ AllBare s'.gens /\ Un (frs outer) [] H H' s.heap s'.heap /\ j3 P w H' s'.heap /\
 H' a=some (.ext (XF C od a)) /\ nu s'.heap a C od T .none /\ s.heap.objs.size <= T /\ H' T=none /\ E (.ref a) od H'
theorem vC{M:Model}{env:Env}{x:Sem Value}{Q:Flow->Shared->Prop}(hh:A.handled=none)
  (h:wpAny M A x (λ v s₁=>∃ e t C G f od,v=.ref e /\ BG s₁.heap C G f /\ s₁.heap.get? e=some (gn C od (xf t)) /\ E (.ref e) s₁) E s):
  wpAny M A (raiseStmt env (some x) none) Q E s:=by
 unfold raiseStmt
 refine af (wpAny_mono h (λ v s₁ h₁=>?_) λ _ _ x=>x)
 obtain ⟨e,t,C,G,f,od,rfl,⟨N,nm,q,bs,hdct,sn,sub,ab,col,dd,k0,k1,k2,k3,k5,mN,hC,_⟩,he,hE⟩:=h₁
 have V9:(Value.ref C :: Value.ref G :: xA).contains (.type "BaseException")=true:=by simp [xA]
 obtain ⟨hp,g,d,tk,os⟩:=s₁
 repeat (first | with_reducible refine wpAny_loadPart_at he ?_ | with_reducible refine wpAny_loadPart_at hC ?_ | (with_reducible refine wpAny_isSubtype_exc hC ?_; rw [V9]) | wp_step)
 exact wpAny_raiseNew_none hh hE
def ES(K:Frag)(E:XK)(te:TE):TS:=λ _ σ H=>te σ H λ v H1=>∃ (a t C G f:Addr) (od:Option Addr),v=.ref a /\ H1 a=some (.ext (XO C od (xf t) a)) /\ jC K C G f=true /\ E (.ref a) od (upd H1 a (.ext (XF C od a)))
theorem ET{P:Program}{K:Frag}{mg:Str->Option Value}{base:Heap}{N:List Str}{qual:Str}{scope:Scope}{f:Addr}{cd:Value}{outer:List Env}{s₀:Shared}{H₀:Hp}{E:XK}{e:Expr}
  (he:PE (nF (ND P w) P w K mg base N qual scope f cd A outer s₀ H₀ E) e te):
  PS (nF (ND P w) P w K mg base N qual scope f cd A outer s₀ H₀ E) (.Raise (some e) none pos) (ES K E te):=by
 intro pins s σ H D I h
 have Rw:=I.ok.hd rfl
 rw [arm_exec_Raise]
 refine af (wpAny_standAt (vC Rw (af (bV (he pins s σ H _ I h) λ v s1 hz=>af (wpAny_standAt (aE ?_))))))
 obtain ⟨x,H1,I1,rx,a,t,C,G,fI,od,rfl,ha,hxc,hE⟩:=hz
 obtain rfl:v=.ref a:=rx
 have ho:s1.heap.get? a=some (gn C od (xf t)):=(I1.hok a _ ha).1
 refine ⟨a,t,C,G,fI,od,rfl,Ae I1.jc hxc,ho,?_⟩
 show wpAny _ _ (leaving _ (.ref a)) _ _ s1
 unfold leaving
 have hst:=I1.stack
 refine af (yP (base:=base) (L:=s₀.heap.objs.size) I1.ok.frames hst rfl ho rfl λ h1 hF1 hX1=>?_)
 refine land hF1 λ h2 Wa hX2=>?_
 have hsz:=I1.sz
 have keep:∀ b o,s1.heap.get? b=some o->b ≠ a->(b ∉ s₀.heap.objs.size :: frs outer->h2.get? b=some o) /\ ∃ sl,h2.get? b=some { o with slots:=sl }:=λ b o hb hba=>by
  obtain ⟨k1,sl,k2⟩:=hX1.2 b o hb (λ q=>hba (aC.mp q))
  have CG:b ∉ [s1.heap.objs.size]:=λ q=>absurd (aA hb) (by rw [aC.mp q]; exact cY _)
  refine ⟨λ hS=>?_,?_⟩
  ·have Yw:=k1 hS
   exact (hX2.2 b _ Yw CG).1 (by simp)
  ·obtain ⟨sl2,k3⟩:=(hX2.2 b _ k2 CG).2
   exact ⟨sl2,k3⟩
 have hnl:H1 s₀.heap.objs.size=none:=I1.free
 have OZ:∀ b:Addr,b ∉ (nF (ND P w) P w K mg base N qual scope f cd A outer s₀ H₀ E).ex:=λ b z=>absurd (show b∈([]:List Addr) from z) (by simp)
 have hfr:∀ b∈frs outer,H1 b=none:=λ b hb=>by
  obtain ⟨_,o,ho',_⟩:=I1.ok.kB.mem hb
  exact I1.base.free b o ho' (I1.ok.Gf b hb) (OZ b)
 have nfr:∀ b o,H1 b=some o->b ∉ s₀.heap.objs.size :: frs outer:=λ b o hb hm=>by
  rcases aG.mp hm with rfl | hm
  ·rw [hnl] at hb; cases hb
  ·rw [hfr b hm] at hb; cases hb
 refine ⟨a,C,s1.heap.objs.size,od,upd H1 a (.ext (XF C od a)),rfl,I1.os,I1.bare,?_,?_,cL,Wa,hsz,?_,hE⟩
 ·
  have ne:∀ b o,s₀.heap.get? b=some o->H₀ b=none->b ≠ a:=λ b o hb hn q=>by
   have:=I1.base.free b o hb hn (OZ b)
   rw [q,ha] at this; cases this
  have nl:∀ b o,s₀.heap.get? b=some o->b ≠ s₀.heap.objs.size:=λ b o hb=>aM (aA hb)
  refine ⟨λ b o hb hn hf _=>?_,λ b o hb hn hf _=>?_,λ b o hb hn _=>?_,λ b o hb _=>?_,λ b xs hb=>?_,λ b o u hb=>?_,λ b ps hb=>?_⟩
  ·exact (keep b o (I1.base.keep b o hb hn hf (OZ b)) (ne b o hb hn)).1 λ q=>(aG.mp q).elim (nl b o hb) hf
  ·obtain ⟨sl,q⟩:=I1.base.slot b o hb hn hf (OZ b)
   obtain ⟨_,sl2,q2⟩:=keep b _ q (ne b o hb hn)
   exact ⟨sl2,q2⟩
  ·rw [aR (ne b o hb hn)]
   exact I1.base.free b o hb hn (OZ b)
  ·obtain ⟨o',q⟩:=I1.base.there b o hb (OZ b)
   by_cases hba:b=a
   ·subst hba
    obtain ⟨vs,_,_,q2,_⟩:=Wa
    exact ⟨_,q2⟩
   ·obtain ⟨_,sl,q2⟩:=keep b o' q hba
    exact ⟨_,q2⟩
  ·have q:=I1.base.tups b xs hb
   rw [aR (λ z=>by rw [z,ha] at q; cases q)]
   exact q
  ·have q:=I1.base.ku b o u hb
   rw [aR (λ z=>by rw [z,ha] at q; cases q)]
   exact q
  ·obtain ⟨more,q⟩:=I1.base.kK b ps hb
   exact ⟨more,by rw [aR (λ z=>by rw [z,ha] at q; cases q)]; exact q⟩
 ·intro b o hb
  by_cases hba:b=a
  ·subst hba
   rw [cL] at hb
   cases hb
   obtain ⟨vs,_,_,q2,_⟩:=Wa
   exact XF.ok q2
  ·rw [aR hba] at hb
   refine (I1.hok b o hb).stay (λ c u hc q=>?_) (λ c q=>by rw [aR (λ z=>by rw [z,ha] at q; cases q)]; exact q) λ c xs q=>by rw [aR (λ z=>by rw [z,ha] at q; cases q)]; exact q
   have Wb:∃ z,H1 c=some z:=by
    rcases hc with rfl | hc
    ·exact ⟨_,hb⟩
    ·exact ⟨_,hc⟩
   obtain ⟨z,hz⟩:=Wb
   have hca:c ≠ a:=λ y=>by
    rcases hc with r | hc
    ·exact hba (r.symm.trans y)
    ·rw [y,ha] at hc; cases hc
   exact (keep c u q hca).1 (nfr c z hz)
 ·rw [aR (λ z=>by have:=I1.hok.lt ha; rw [<- z] at this; exact absurd this (cY _))]
  exact I1.hok.fresh (ay _)
theorem find_erase{α:Type}(p:α->Bool):∀ (l:List α) (i:Nat),(∀ a,l[i]? = some a->p a=false)->(l.eraseIdx i).find? p=l.find? p
 | [],_,_=>by simp
 | a :: l,0,h=>by
  rw [List.eraseIdx_cons_zero,eE,h a rfl]
 | a :: l,i + 1,h=>by
  rw [List.eraseIdx_cons_succ,eE,eE,find_erase p l i λ b hb=>h b (by simpa using hb)]
section
variable {M:Model}{A:Around}{E:Value->Shared->Prop}{s:Shared}
theorem NF{m:Str->Option Value}{name:Str}{Q:Bool->Shared->Prop}(hn:s.heap.Ns a m)(hmn:(m name).isSome=true)
  (hQ:∀ h' m',h'.Ns a m'->(∀ x,x ≠ name->m' x=m x)->Heap.SameBut a s.heap h'->Q true { s with heap:=h' }):wpAny M A (nsDel a name) Q E s:=by
 obtain ⟨o,es,ep,ho,hd,hk,hm⟩:=id hn
 have hany:es.any (·.refKey)=false:=by
  rw [Array.any_eq_false']; intro e he; obtain ⟨n,t,h⟩:=hk e he; simp [DictEntry.refKey,h]
 have hsome:(m name).isSome=es.any (·.key.isStr name):=by
  rw [<- hm name]; simp only [nsFind,findBy,Option.isSome_map]
  rw [Bool.eq_iff_iff]; simp only [Array.find?_isSome,Array.any_eq_true]
  constructor
  ·rintro ⟨x,hx,hp⟩; obtain ⟨i,hi,rfl⟩:=Array.mem_iff_getElem.mp hx; exact ⟨i,hi,hp⟩
  ·rintro ⟨i,hi,hp⟩; exact ⟨_,Array.getElem_mem hi,hp⟩
 have hhas:nsHas name o=pure (es.any (·.key.isStr name)):=by
  rw [nsHas_eq]; unfold nsHasByArray; rw [hd]
  show (if (es.any λ x=>x.key.isStr name)=true then _ else _)=_
  generalize (es.any λ x=>x.key.isStr name)=b
  cases b <;> simp [hany]
 unfold nsDel
 refine af (wpAny_loadPart ho ?_)
 rw [hhas]
 refine af (aE ?_)
 rw [<- hsome,hmn]
 refine af (wpAny_updatePart ho (aE ?_))
 have key:∃ m',(s.heap.update a (Obj.dropName name)).Ns a m' /\ ∀ x,x ≠ name->m' x=m x:=by
  obtain ⟨cl,d,dt,sl⟩:=o
  subst hd
  cases hi:es.findIdx? (·.key.isStr name) with
  | some i =>
   refine ⟨_,⟨_,_,ep + 1,cj _ ho (by simp only [Obj.dropName_eq,Obj.dropNameByArray,hi] <;> rfl),(by simp only [Obj.dropName_eq,Obj.dropNameByArray,hi] <;> rfl),hk.erase i,λ _=>rfl⟩,λ x hx=>?_⟩
   rw [<- hm x]
   unfold nsFind findBy
   rw [<- Array.find?_toList,<- Array.find?_toList,Array.toList_eraseIdxIfInBounds,find_erase]
   intro b hb
   obtain ⟨hlt,hp,_⟩:=Array.findIdx?_eq_some_iff_getElem.mp hi
   have hb':es[i]=b:=by
    rw [dz,dM hlt] at hb
    exact Option.some.inj hb
   rw [hb'] at hp
   cases hq:b.key.isStr x with
   | false=>exact hq
   | true=>exact absurd (Value.isStr_inj _ _ _ hq hp) hx
  | none =>
   exfalso
   rw [hsome] at hmn
   obtain ⟨j,hj,hp⟩:=Array.any_eq_true.mp hmn
   have:=(Array.findIdx?_eq_none_iff.mp hi) es[j] (Array.getElem_mem hj)
   simp [hp] at this
 obtain ⟨m',hm',hx⟩:=key
 exact hQ _ m' hm' hx (f9 ..)
variable {X:Cx}{pins:List (Addr × Obj)}{σ:St}{H:Hp}
theorem Ih{i:Nat}{x:Str}{v:V}{Q:Unit->Shared->Prop}(I:Inv X pins σ H s)(hN:X.N.Nodup)(hi:X.N[i]? = some x)(hk:X.env.scope.names.lookup x=some .local)(hv:σ[i]? = some (some v))
  (h:∀ s',Inv X pins (σ.set i none) H s'->Q () s'):wpAny M A (unbindBehindTheSuite X.env x pos) Q E s:=by
 obtain ⟨m,hn,hl⟩:=id I.loc
 have hcls:(X.env.scope.kind == .class || (X.env.scope.kind == .module && X.env.locals != X.env.globals))=false:=by rw [I.ok.kind]; rfl
 have hloc:X.env.kindOf x=some .local:=hk
 have hmx:(m x).isSome=true:=by
  obtain ⟨u,_,q⟩:=hl i x v hi hv (.inl hk)
  rcases q with ⟨_,e⟩ | ⟨k,_⟩
  ·rw [e]; rfl
  ·rw [hloc] at k; rcases k with k | k <;> cases k
 have CL:=I.CL
 unfold unbindBehindTheSuite
 refine wpAny_onRaise ?_
 unfold unbindName
 refine af (wpAny_point (af ?_))
 unfold deleteName
 simp only [hloc,hcls]
 rw [if_neg (by decide)]
 refine af (NF hn hmx λ h' m' hn' hm' hs=>?_)
 simp only [if_true,Option.isSome_some,dG,aS,if_false]
 refine aE (wpAny_point (h _ ?_))
 obtain ⟨oL,_,_,XW,_⟩:=id hn
 have tracked:j3 X.prog X.w H h':=λ b ob e=>by
  refine (I.hok b ob e).stay (λ c w' hc q=>(hs.2 c ?_).trans q) (λ _ q=>q) λ _ _ q=>q
  rintro rfl
  rcases hc with r | hc
  ·have:=I.free; rw [r] at this; rw [this] at e; cases e
  ·rw [I.free] at hc; cases hc
 refine ⟨I.ok,I.os,I.bare,⟨λ b o e n hb hx=>?_,λ b o e n hb hx=>?_,I.base.free,λ b o e hx=>?_,I.base.tups,I.base.ku,I.base.kK⟩,⟨_,hn',λ j y v' e1 e2 e3=>?_⟩,λ y c e=>?_,I.free,I.gh,λ p hp=>?_,tracked,by simpa using I.len⟩
 ·exact (hs.2 b (aM (bz (aA e) I.ok.above))).trans (I.base.keep b o e n hb hx)
 ·obtain ⟨sl,e1⟩:=I.base.slot b o e n hb hx
  exact ⟨sl,(hs.2 b (aM (bz (aA e) I.ok.above))).trans e1⟩
 ·obtain ⟨o',e1⟩:=I.base.there b o e hx
  exact ⟨o',(hs.2 b (aM (bz (aA e) I.ok.above))).trans e1⟩
 ·have hj:j ≠ i:=λ q=>by
   subst q
   rw [sE (eU hv).1] at e2
   cases e2
  rw [List.getElem?_set_ne (aV hj)] at e2
  obtain ⟨u',r',q⟩:=hl j y v' e1 e2 e3
  refine ⟨u',r',?_⟩
  rcases q with ⟨k,e⟩ | ⟨k,c,e,z⟩
  ·have hyx:y ≠ x:=λ e=>hj (o7 hN e1 (e ▸ hi))
   exact .inl ⟨k,by rw [hm' y hyx]; exact e⟩
  ·exact .inr ⟨k,c,e,z.sameBut hs (CL y c e)⟩
 ·obtain ⟨w',z⟩:=I.cell y c e
  exact ⟨w',z.sameBut hs (CL y c e)⟩
 ·obtain ⟨e,n,ne,nf,d⟩:=I.pin p hp
  exact ⟨(hs.2 p.1 ne).trans e,n,ne,nf,d⟩
end
def NG(h:Heap)(G:Addr):Prop:=∃ bm N nm q bs hdct sn sub ab col dd k0 k1 k2 k3 k5,h.get? G=some (excClassObj nm q G N bs bm hdct sn sub ab col dd k0 k1 k2 k3 k5 "ValueError.__new__") /\ OwnTail h xA bm
theorem Wc{K:Frag}{h:Heap}(X:K.In h)(q:excIn K G xA "ValueError.__new__" = true):NG h G:=by
 unfold excIn at q
 split at q
 ·rename_i dd cd sl ho
  split at q
  ·rename_i C' bm k0 k1 k2 k3 n k5 hm hs
   simp only [fB,beq_iff_eq,Bool.not_eq_true'] at q
   obtain ⟨⟨⟨⟨⟨rfl,rfl⟩,BH⟩,ht⟩,hok⟩,hni⟩:=q
   obtain ⟨nm,bs,mro,ns,qn,hd,sn,sub,ab,col,del⟩:=cd
   dsimp only at hm BH hok hni
   subst hm BH
   have hsl:sl=#[k0,k1,k2,k3,some (.builtin "ValueError.__new__"),k5]:=by
    obtain ⟨l⟩:=sl
    simp only at hs
    rw [hs]
   subst hsl
   exact ⟨bm,ns,nm,qn,bs,hd,sn,sub,ab,col,dd,k0,k1,k2,k3,k5,X _ _ ho,tail_of_in X ht⟩
  ·cases q
 ·cases q
theorem BL{M:Model}{f:Addr}{oe:Obj}{Q:Bool->Shared->Prop}(hX:BG s.heap C G f)(hG:NG s.heap G)(he:s.heap.get? e=some oe)(hcls:oe.cls=.ref C)(hq:Q true s):
  wpAny M A (excMatches (.ref e) (.ref G)) Q E s:=by
 obtain ⟨N,nm,q,bs,hdct,sn,sub,ab,col,dd,k0,k1,k2,k3,k5,mN,hC,_⟩:=hX
 obtain ⟨bm,N',nm',q',bs',Yx,sn',sub',ab',col',LP,k0',Yw,k2',k3',k5',Yy,hT⟩:=hG
 obtain ⟨hp,g,d,tk,os⟩:=s
 have V9:(Value.ref G :: bm).contains (.type "BaseException")=true:=by rw [List.contains_cons,hT.hasType (X := "BaseException") (b:=true) (by decide +kernel),Bool.or_true]
 have hcC:(Value.ref C :: Value.ref G :: xA).contains (.ref G)=true:=by simp
 have f:=tc_notTuple
 unfold excMatches
 repeat (first | (with_reducible refine wpAny_loadPart_at he ?_; rw [hcls]) | with_reducible refine wpAny_loadPart_at Yy ?_ | (with_reducible refine wpAny_isSubtype_exc Yy ?_; rw [V9]) | (with_reducible refine wpAny_isSubtype_exc hC ?_; rw [hcC]) | wp_step)
 exact hq
theorem EU{prog:Program}{env:Env}{f:Addr}{t:Expr}{n:Str}{b₀:Stmt}{suite:List Stmt}{Q:Flow->Shared->Prop}
  (h:wpAny (model prog w) (A.mark (some (.ref e))) (eval t env) (λ c s₁=>c=.ref G /\ BG s₁.heap C G f /\ NG s₁.heap G /\ (∃ oe,s₁.heap.get? e=some oe /\ oe.cls=.ref C) /\
   wpAny (model prog w) (A.mark (some (.ref e))) (setFlight (.ref e) none) (λ _ s₂ =>
     wpAny (model prog w) (A.mark (some (.ref e))) (storeName env n (.ref e)) (λ _ s₃ =>
      wpAny (model prog w) (A.mark (some (.ref e))) (execs (b₀ :: suite) env)
       (λ f s₄=>wpAny (model prog w) A (do bindName env n .none; unbindBehindTheSuite env n pos) (λ _ s₅=>Q f s₅) E s₄) (λ _ _=>False) s₃) (λ _ _=>False) s₂) (λ _ _=>False) s₁) (λ _ _=>False) s):
  wpAny (model prog w) A (handleBy (.ref e) env [.ExceptHandler (some t) (some n) (b₀ :: suite) pos]) Q E s:=by
 refine wpAny_handleBy_cons (codeAny_handlers_test (wpAny_mono h (λ c s₁ h₁=>?_) λ _ _ y=>y.elim)) (by intro q; cases q)
 obtain ⟨rfl,hX,hG,⟨oe,he,hcls⟩,hk⟩:=h₁
 refine BL hX hG he hcls (codeAny_handlers_suite_as ?_)
 refine wpAny_mono hk (λ _ s₂ h₂=>wpAny_mono h₂ (λ _ s₃ h₃=>wpAny_mono h₃ (λ f s₄ h₄=>h₄) λ _ _ y=>y.elim) λ _ _ y=>y.elim) λ _ _ y=>y.elim
section
variable {X:Cx}{pins:List (Addr × Obj)}{σ:St}{H:Hp}{s:Shared}
abbrev Cx.marked(X:Cx)(a:Addr):Cx:={ X with A:=X.A.mark (some (.ref a)),calm:=false,xe:=λ _ _=>False }
theorem Cx.Ok.marked{X:Cx}(ok:X.Ok)(a:Addr):(X.marked a).Ok :=
 ⟨ok.mod,ok.kind,ok.glob,ok.blt,ok.above,ok.inj,ok.has,ok.OQ,(λ z=>nomatch z),ok.frames,ok.stk,ok.U4,ok.bs,ok.CC,ok.xD,ok.xE,ok.kB,ok.Gf⟩
theorem Inv.marked(I:Inv X pins σ H s)(a:Addr):Inv (X.marked a) pins σ H s:=⟨I.ok.marked a,I.os,I.bare,I.base,I.loc,I.cell,I.free,I.gh,I.pin,I.hok,I.len⟩
theorem Inv.unmark(ok:X.Ok)(I:Inv (X.marked a) pins σ H s):Inv X pins σ H s:=⟨ok,I.os,I.bare,I.base,I.loc,I.cell,I.free,I.gh,I.pin,I.hok,I.len⟩
theorem Inv.EV{T T2:Addr}{od:Option Addr}{fl:Value}{S Ms:List Addr}{h':Heap}(I:Inv X pins σ H s)(ha:H a=some (.ext (XF C od a)))(hX:vB S Ms s.heap h')(hS:∀ b∈S,b∈frs X.stack)(hM:∀ b∈Ms,b=a \/ b=T)(Wd:H T=none)
  (t1:X.s₀.heap.objs.size <= T)(t2:T ≠ X.env.locals)(t3:∀ x c,X.env.cells.lookup x=some c->c ≠ T)(t4:∀ p∈X.pn++pins,p.1 ≠ T)(hF:nu h' a C od T2 fl):Inv X pins σ H { s with heap:=h' }:=by
 obtain ⟨vs,_,_,ho,_⟩:=hF
 have TY:∀ b,b ≠ a->b ≠ T->b ∉ Ms:=λ b h1 h2 q=>(hM b q).elim h1 h2
 have na:∀ b,H b=none->b ≠ a:=λ b q z=>by rw [z,ha] at q; cases q
 refine I.zp (s':={ s with heap:=h' }) (ch:=[T]) rfl ⟨λ b o hb hn hf hx=>?_,λ b o hb hn hf hx=>?_,λ b o hb hn _=>hn,λ b o hb hx=>?_,λ _ _ q=>q,λ _ _ _ q=>q,λ b ps q=>⟨#[],by rw [Array.append_empty]; exact q⟩⟩ (λ b o hb=>?_) I.bare λ b hb=>?_
 ·have CG:b ≠ T:=λ z=>hx (aC.mpr z)
  exact (hX.2 b o hb (TY b (na b hn) CG)).1 λ q=>hf (hS b q)
 ·have CG:b ≠ T:=λ z=>hx (aC.mpr z)
  exact (hX.2 b o hb (TY b (na b hn) CG)).2
 ·have CG:b ≠ T:=λ z=>hx (aC.mpr z)
  by_cases hba:b=a
  ·exact ⟨_,by rw [hba]; exact ho⟩
  ·obtain ⟨sl,q⟩:=(hX.2 b o hb (TY b hba CG)).2
   exact ⟨_,q⟩
 ·by_cases hba:b=a
  ·subst hba
   rw [ha] at hb
   cases hb
   exact XF.ok ho
  ·refine (I.hok b o hb).stay (λ c u hc q=>?_) (λ _ q=>q) λ _ _ q=>q
   have Wb:∃ z,H c=some z:=by
    rcases hc with rfl | hc
    ·exact ⟨_,hb⟩
    ·exact ⟨_,hc⟩
   obtain ⟨z,hz⟩:=Wb
   have hca:c ≠ a:=λ y=>by
    rcases hc with r | hc
    ·exact hba (r.symm.trans y)
    ·rw [y,ha] at hc; cases hc
   have hcT:c ≠ T:=λ y=>by rw [y,Wd] at hz; cases hz
   exact (hX.2 c u q (TY c hca hcT)).1 λ q=>by rw [I.nO c (hS c q)] at hz; cases hz
 ·obtain rfl:=aC.mp hb
  exact ⟨.inr t1,t2,t3,t4⟩
end
section
variable {X:Cx}{k i:Nat}{f G:Addr}{fd:FuncData}{ps:List Str}{sp:Sp}{x g n:Str}{p gp cpos epos hpos pos:Pos}{e:Expr}{es:List Expr}{ta:TA}{b₀:Stmt}{suite:List Stmt}{th:TS}
def Rx(sp:Sp)(ta:TA)(i:Nat)(th:TS):TS:=λ D σ H=>ta σ H λ vs H1=>sp vs H1 (λ _ H2=>D.nx σ H2) λ ev _ H2=>∀ a,ev=.ref a ->
 th { nx:=λ σ' H'=>D.nx (σ'.set i none) H',rt:=D.rt,bk:=λ σ' H'=>D.bk (σ'.set i none) H',ct:=λ σ' H'=>D.ct (σ'.set i none) H' } (σ.set i (some (.ref a))) H2
theorem NH(F:bN X.prog X.w X.K X.mg X.base (ND X.prog X.w) k f fd ps sp)(hr:ef k X.A)(hg:Gl X x)(hm:X.mg x=some (.ref f))(hk:keepIn X.K (.ref f)=true)(hb:Binds X.K fd ps [])(ha:PA X.AS (e :: es) ta)
  (hgg:Gl X g)(hgm:X.mg g=some (.ref G))(hgx:excIn X.K G xA "ValueError.__new__" = true)
  (hN:X.N.Nodup)(hi:X.N[i]? = some n)(hloc:X.env.scope.names.lookup n=some .local)(NI:X.stack=X.env :: X.outer)(hfr:X.env.frame=some X.env.locals)(hh:∀ a,nE (X.marked a) (b₀ :: suite) th)
  (zu:∀ vs H Q E,sp vs H Q E->sp vs H Q λ ev od H'=>(∃ a C fI,ev=.ref a /\ H' a=some (.ext (XF C od a)) /\ jC X.K C G fI=true) /\ E ev od H')
  (hdb:(x == ("__debug__" : Str))=false:=by decide)(hdg:(g == ("__debug__" : Str))=false:=by decide)
  (he:starEach (e :: es) X.env=(false,eval e X.env) :: starEach es X.env:=by rfl)(hpl:(backTo cpos (starEach es X.env)).any (·.1)=false:=by rfl)(hs:swapsWith (.Call (.Name x p) (e :: es) [] cpos) none epos.line X.env=pure false:=by rfl):
  PS X (.Try [.Expr (.Call (.Name x p) (e :: es) [] cpos) epos] [.ExceptHandler (some (.Name g gp)) (some n) (b₀ :: suite) hpos] [] [] pos) (Rx sp ta i th):=by
 intro pins s σ H D I h
 refine wpAny_Try_except ?_
 refine wpAny_execs_cons ?_
 refine wpAny_Expr_any ?_ I.quiet hs
 refine wpAny_Call_Name_kw (jK I hg hm ?_ hdb)
 refine PySem.W.callWith_K (h₀:=X.base) I.ok.mod.Ld hk (wpAny_mono (ha cpos pins s σ H _ (I.kL _) h) (λ us s1 hz=>?_) λ _ _ z=>z.elim) he hpl
 obtain ⟨vs,H1,I1,r,Ry⟩:=hz
 have I1:Inv X pins σ H1 s1:=I1.gj
 have We:=zu _ _ _ _ Ry
 refine ⟨I1.jc,?_⟩
 have hl:(us++[]).length=ps.length:=by rw [dY,<- r.length]; exact F.len _ _ _ _ Ry
 have hb2:=hb s1 us I1.jc hl
 rw [dY] at hb2
 refine wpAny_call (codeAny_mono (F.run X.A X.stack s1 H1 ⟨us,[]⟩ us vs _ _ hr I1.LC hb2 r We) λ rr s' hq=>?_)
 cases rr with
 | ok fl =>
  cases fl with
  | ret u =>
   obtain ⟨v,H',I',rv,q⟩:=I1.after hq
   exact wpAny_execs_nil (wpAny_execs_nil ⟨σ,H',I',q⟩)
  | next=>exact False.elim hq
  | brk=>exact False.elim hq
  | cont=>exact False.elim hq
 | error ev =>
  obtain ⟨a,C,T,od,H',rfl,hos,hbare,un,hok,Rz,hF,hT,Wd,⟨a2,C2,fI,ea,RA,hxc⟩,hE⟩:=hq
  cases ea
  rw [Rz] at RA
  have I2:Inv X pins σ H' s':=I1.zp (ch:=[]) hos un hok hbare λ b z=>absurd z (by simp)
  have ho:∃ vs,s'.heap.get? a=some (gn C od vs):=let ⟨vs,_,_,q,_⟩:=hF; ⟨vs,q⟩
  have hCC:jC X.K C G fI=true:=by
   obtain ⟨vs,q1⟩:=ho
   obtain ⟨Yz,q2⟩:XF C2 od a s'.heap:=by
    have:=(hok a _ Rz).1
    have e:XF C od a=XF C2 od a:=by injection RA with z; injection z
    rw [<- e]; exact this
   rw [q1] at q2
   have:C=C2:=by injection q2 with z; injection z with z1; injection z1
   rw [this]; exact hxc
  have hfs:(X.env :: X.outer).filterMap (·.frame)=frs X.stack:=by rw [NI]; rfl
  have frames:X.A.frames=some (X.env :: X.outer):=by rw [<- NI]; exact I.ok.frames
  have st2:s'.heap.FunFrames X.base (X.env :: X.outer):=by rw [<- NI]; exact I2.stack
  refine BK frames st2 hfr hF λ h3 YA hX3=>?_
  have I3:Inv X pins σ H' { s' with heap:=h3 }:=I2.EV (T:=T) Rz hX3 (λ b q=>by rw [<- hfs]; exact q) (λ b q=>by simpa using q) Wd (bq I1.sz hT) (fO (bz I1.lt hT))
   (λ y c q=>by obtain ⟨_,_,z,_⟩:=I1.cell y c q; exact aM (bz (aA z) hT)) (λ q hq=>aM (bz (aA (I1.pin q hq).1) hT)) YA
  have RB:H' s'.heap.objs.size=none:=I2.hok.fresh (ay _)
  have t2:=fO I2.lt
  have t3:∀ y c,X.env.cells.lookup y=some c->c ≠ s'.heap.objs.size:=λ y c q=>by obtain ⟨_,_,z,_⟩:=I2.cell y c q; exact aM (aA z)
  have t4:∀ q∈X.pn++pins,q.1 ≠ s'.heap.objs.size:=λ q hq=>aM (aA (I2.pin q hq).1)
  refine land YA λ h4 Wf hX4=>?_
  have I4:Inv X pins σ H' { s' with heap:=h4 }:=I3.EV (T:=s'.heap.objs.size) Rz hX4 (λ b q=>nomatch q) (λ b q=>.inr (aC.mp q)) RB I2.sz t2 t3 t4 Wf
  refine EU (C:=C) (G:=G) (f:=fI) (jK (I4.marked a) hgg hgm ⟨rfl,Ae I4.jc hCC,Wc I4.jc hgx,?_,?_⟩ hdg)
  ·obtain ⟨vs,_,_,q,_⟩:=Wf
   exact ⟨_,q,rfl⟩
  refine land (s:={ s' with heap:=h4 }) Wf λ h5 hF5 hX5=>?_
  have I5:Inv X pins σ H' { s' with heap:=h5 }:=I4.EV (T:=s'.heap.objs.size) Rz hX5 (λ b q=>nomatch q) (λ b q=>.inr (aC.mp q)) RB I2.sz t2 t3 t4 hF5
  refine iu (v:=.ref a) I5 hN hi (.inl hloc) rfl (λ s6 I6=>?_) (.inr hloc)
  refine bV (hh a pins s6 _ H' _ (I6.marked a) (hE a rfl)) λ fl s7 hfl=>?_
  have back:∀ {σ':St} {EW:Hp} {Q':Prop},Inv (X.marked a) pins σ' EW s7->(∀ s8,Inv X pins (σ'.set i none) EW s8->SP X pins D fl s8) ->
    wpAny (model X.prog X.w) X.A (do bindName X.env n .none; unbindBehindTheSuite X.env n hpos) (λ _ s8=>SP X pins D fl s8) X.xe s7:=λ {σ' EW Q'} J go=>by
   have Tr:i < σ'.length:=by rw [J.len]; exact (eU hi).1
   refine af (wpAny_bindName (iu (v:=.bZ) (J.unmark I.ok) hN hi (.inl hloc) rfl (λ s8 I8=>?_) (.inr hloc)))
   refine Ih I8 hN hi hloc (v:=.bZ) (sE Tr) λ s9 I9=>go s9 ?_
   rw [List.set_set] at I9
   exact I9
  cases fl with
  | next=>obtain ⟨σ',EW,J,q⟩:=hfl; exact back (Q':=True) J λ s8 I8=>⟨_,EW,I8,q⟩
  | brk=>obtain ⟨σ',EW,J,q⟩:=hfl; exact back (Q':=True) J λ s8 I8=>⟨_,EW,I8,q⟩
  | cont=>obtain ⟨σ',EW,J,q⟩:=hfl; exact back (Q':=True) J λ s8 I8=>⟨_,EW,I8,q⟩
  | ret u=>obtain ⟨v,σ',EW,J,rv,q⟩:=hfl; exact back (Q':=True) J λ s8 I8=>⟨v,_,EW,I8,rv,q⟩
end
open PySem.Builtin PySem.Builtin.ObjectAttr
def lz(K:Frag)(C:Addr):Bool:=findIn K (.ref C) "__getattribute__" == some (some (.builtin "BaseException.__getattribute__")) && findIn K (.ref C) "__getattr__" == some none && mroIn K C (.type "BaseException") == some true
 && mroIn K C (.type "object") == some true && hasDictIn K C && findIn K (.ref C) "__class__" == some (some (.builtin "object.__class__"))
 && specialIn K (.builtin "object.__class__") "__get__" == some (some (.builtin "getset_descriptor.__get__")) && takesIn K (.builtin "object.__class__") == some true
section
variable {prog:Program}{w:World}{A:Around}{E:Value->Shared->Prop}{s:Shared}{K:Frag}{x C:Addr}{ox:Obj}{od:Option Obj}{name:Str}
theorem Af{fill expr:Bool}(X:K.In s.heap)(I:InstAt s.heap x ox C od)(hx:lz K C=true)
  (h:wpAny (model prog w) A.in1 (Builtin.«object.__getattribute__» ⟨[.ref x,.str name tk],[]⟩) (λ fin s'=>match fin with | .done (.ret v)=>wpAny (model prog w) A (handedOut v) Q E s' | _=>False) (λ _ _=>False) s):
  wpAny (model prog w) A (getAttrBy (.ref x) (.str name tk) fill expr) Q E s:=by
 simp only [lz,fB,beq_iff_eq] at hx
 obtain ⟨⟨⟨⟨⟨⟨⟨h1,h2⟩,h3⟩,_⟩,_⟩,_⟩,_⟩,_⟩:=hx
 have ga:=PySem.F.excAttr_ValueError.ga
 have L0:=I.type (M:=model prog w)
 have hb:Looks (model prog w) s.heap (hookBefore (.ref C)) none:=looks_hook X h2
 unfold getAttrBy
 refine wpAny_holding (af (L0.here (af ((looks_findIn X h1).here ?_))))
 dsimp only
 rw [show (onTheHeap (Value.ref C) && Value.builtin "BaseException.__getattribute__" == Value.builtin "object.__getattribute__")=false from by rw [show (Value.builtin "BaseException.__getattribute__" == Value.builtin "object.__getattribute__")=false from by decide +kernel,oJ],if_neg (by decide)]
 refine af (hb.here (af (wpAny_attempt (wpAny_holding ?_))))
 unfold callGetattribute
 rw [show (expr && onTheHeap (Value.builtin "BaseException.__getattribute__"))=false from oJ _,if_neg (by decide)]
 unfold boundAndCalled
 rw [ga.bind]
 refine af (aE ?_)
 show wpAny _ _ (call (.builtin "BaseException.__getattribute__") [.ref x,.str name tk]) _ _ _
 refine wpAny_call ?_
 refine codeAny_call_builtin ga.plain PySem.F.entry_bexc_ga ?_
 refine @check_slot (model prog w) _ _ s "BaseException.__getattribute__" "BaseException" "__getattribute__" (.ref x) [.str name tk] [] _ (by decide +kernel) (by decide +kernel) (L0.andThen (looks_mroIn X h3)) (PySem.F.args_bexc_ga (.ref x) (.str name tk)) ?_
 refine wpAny_mono h (λ fin s' z=>?_) λ _ _ z=>z.elim
 rcases fin with (_ | _ | _ | _) | _ <;> first | exact z | exact z.elim
theorem BN{v:Value}{Q:Fin->Shared->Prop}(X:K.In s.heap)(I:InstAt s.heap x ox C od)(hf:findObj K C od name=some (.value v))(h:Q (.done (.ret v)) s):
  wpAny (model prog w) A (Builtin.«object.__getattribute__» ⟨[.ref x,.str name tk],[]⟩) Q E s:=by
 have L0:=I.type (M:=model prog w)
 show wpAny _ _ (typeOf (.ref x) >>= λ tp=>find (.ref x) tp name >>= _) _ _ _
 refine af (L0.here (af ((looks_find X I hf).here ?_)))
 exact aE h
theorem Ii{fill expr:Bool}(X:K.In s.heap)(I:InstAt s.heap x ox C (some ox'))(hx:lz K C=true)(h:Q (.ref C) s):wpAny (model prog w) A (getAttrBy (.ref x) (.str "__class__" tk) fill expr) Q E s:=by
 refine Af X I hx ?_
 simp only [lz,fB,beq_iff_eq] at hx
 obtain ⟨⟨⟨⟨⟨⟨⟨h1,h2⟩,h3⟩,h4⟩,h5⟩,h6⟩,h7⟩,h8⟩:=hx
 have hf:findObj K C (some ox') "__class__" = some (.bind (.builtin "getset_descriptor.__get__") (.builtin "object.__class__")):=findObj_data (by obtain ⟨cd,hc,_⟩:=any_some h5; rw [hc]; rfl) h6 h7 h8
 have L0:=I.type (M:=model prog w)
 show wpAny _ _ (typeOf (.ref x) >>= λ tp=>find (.ref x) tp "__class__" >>= _) _ _ _
 refine af (L0.here (af ((looks_find X I hf).here ?_)))
 show wpAny _ _ (bindTo (.builtin "getset_descriptor.__get__") (.builtin "object.__class__") (.ref x) (.ref C)) _ _ _
 unfold bindTo
 exact af (wpAny_holding (wpAny_call (class_get X I h4 (aE (handed_on rfl h)))))
theorem NJ{ox':Obj}(hx:lz K C=true):KitX K (.ref x) (.ref C) (λ h=>InstAt h x ox C (some ox')) where
 ty:=λ _ _ _ I=>I.type
 it:=λ _ _ X _=>by
  simp only [lz,fB,beq_iff_eq] at hx
  obtain ⟨⟨⟨⟨_,h5⟩,_⟩,_⟩,_⟩:=hx
  obtain ⟨cdD,HY,_⟩:=any_some h5
  unfold clsIn at HY
  split at HY
  ·rename_i c' d' cd' zo ho
   intro A' Q' E' s' k q
   unfold isType loadHead
   exact af (wpAny_loadPart (k _ _ (X _ _ ho)) (aE q))
  ·cases HY
 ne:=λ h tp dd its n sl X htp=>by
  simp only [lz,fB,beq_iff_eq] at hx
  obtain ⟨⟨⟨⟨_,h5⟩,_⟩,_⟩,_⟩:=hx
  obtain ⟨cdD,HY,_⟩:=any_some h5
  refine Bool.eq_false_iff.mpr λ q=>?_
  have e:C=tp:=Value.ref.inj (beq_iff_eq.mp q)
  subst e
  unfold clsIn at HY
  split at HY
  ·rename_i c' d' cd' zo ho
   have z:=(X _ _ ho).symm.trans htp
   cases z
  ·cases HY
 ca:=λ {_ _ _ _ _ s} X I k=>by
  unfold getAttr? getAttrBy?
  exact af (wpAny_mkText (af (wpAny_attempt (Ii (s:={ s with toks:=s.toks + 1 }) X I hx (aE k)))))
end
section
variable {X:Cx}{pins:List (Addr × Obj)}{σ:St}{H:Hp}{s:Shared}{a C dx:Addr}{fs:List (Str × V)}
theorem YB{C:Addr}(I:Inv X pins σ H s)(e:H a=some (.ext (XF C (some dx) a)))(ed:H dx=some (.xd fs)):∃ vs od,InstAt s.heap a (gn C (some dx) vs) C (some od) /\ ∃ mA:Str->Option Value,(∀ name,lookIn name od=some (mA name)) /\ ∀ f,iK (fs.lookup f) (mA f):=by
 obtain ⟨vs,ho⟩:=(I.hok a _ e).1
 obtain ⟨mA,hN,r⟩:=I.hok dx _ ed
 obtain ⟨od,hod,hl⟩:=qW hN
 exact ⟨vs,od,⟨ho,rfl,rfl,hod⟩,mA,hl,r⟩
def Kp(K:Frag):List V->Hp->VK->Prop:=λ xs H Q=>∃ (a C dx:Addr) (fs:List (Str × V)) (t:V) (u:Value) (b:Bool),xs=[.ref a,t] /\ H a=some (.ext (XF C (some dx) a)) /\ H dx=some (.xd fs) /\ lz K C=true /\ (∀ u',RelV t u'->u'=u) /\ kitOne K (.ref C) u=some b /\ Q (.bl b) H
theorem mV:cG X (.builtin "isinstance") (Kp X.K):=by
 intro pins s σ H xs us Q I r h
 obtain ⟨a,C,dx,fs,t,u,b,rfl,he,hd,hx,hu,e,q⟩:=h
 cases r with
 | cons r1 r =>
  cases r with
  | cons r2 r =>
   cases r
   cases r1
   obtain rfl:=hu _ r2
   obtain ⟨vs,od,J,_⟩:=YB I he hd
   exact kia_one (NJ hx) I.jc J e (λ z=>nomatch z) λ tk=>⟨.bl b,H,I.tok _,rfl,q⟩
def EX(K:Frag)(nm:Str)(te:TE):TE:=λ σ H Q=>te σ H λ x H1=>∃ (a C dx:Addr) (fs:List (Str × V)) (v:V),x=.ref a /\ H1 a=some (.ext (XF C (some dx) a)) /\ H1 dx=some (.xd fs) /\ lz K C=true /\ findIn K (.ref C) nm=some none /\ fs.lookup nm=some v /\ Q v H1
theorem vD{o:Expr}{nm:Str}(ho:PE X o te)(hb:attributeBase o nm X.env (eval o X.env)=eval o X.env:=by rfl):PE X (.Attribute o nm pos) (EX X.K nm te):=by
 intro pins s σ H Q I h
 refine GG hb (bV (ho pins s σ H _ I h) λ u s1 ⟨x,H1,I1,rx,a,C,dx,fs,v,ex,ea,ed,hx,hn,l,q⟩=>?_)
 subst ex
 obtain rfl:u=Value.ref a:=rx
 obtain ⟨vs,od,J,mA,hl,r⟩:=YB I1 ea ed
 obtain ⟨u',hu,ru⟩:=iK.some_of (v:=v) (o:=mA nm) (by rw [<- l]; exact r nm)
 have hh:hasDictIn X.K C=true:=by
  simp only [lz,fB,beq_iff_eq] at hx
  exact hx.1.1.1.2
 unfold getAttr
 refine af (wpAny_mkText (Af (s:={ s1 with toks:=s1.toks + 1 }) I1.jc J hx (BN (s:={ s1 with toks:=s1.toks + 1 }) I1.jc J (findObj_own hh hn rfl (by rw [hl,hu])) ?_)))
 exact handed_on (AY ru) ⟨v,H1,I1.tok _,ru,q⟩
end
end L2
namespace BT
open PySem
theorem tK:bootBuiltins "ValueError" = some (.type "ValueError"):=by kernel_rfl
end BT
namespace L2
open PySem PySem.Spec PyProof.Rows PySem.W
set_option genInjectivity false in
set_option genSizeOf false in
set_option genSizeOfSpec false in
structure XG (K:Frag) (mg:Str->Option Value) (n:Str) where
 C:Addr
 m:mg n=some (.ref C)
 g:Ie K C=true
 e:excIn K C xA "ValueError.__new__" = true
set_option genInjectivity false in
set_option genSizeOf false in
set_option genSizeOfSpec false in
structure XP (mg:Str->Option Value) (n:Str) where
 C:Addr
 m:mg n=some (.ref C)
set_option genInjectivity false in
set_option genSizeOf false in
set_option genSizeOfSpec false in
structure XE (K:Frag) (mg:Str->Option Value) (n q:Str) (G:Addr) (st:Stmt) (ps:List Str) (at_:Str) where
 C:Addr
 m:mg n=some (.ref C)
 f:Addr
 d:FuncData
 F:GO K "__init__" q st f d
 b:Binds K d ps []
 xc:jC K C G f=true
 fn:isFn K (.ref f)=true
 kp:keepIn K (.ref C)=true
 sa:findIn K (.ref C) "__setattr__" = some (some (.builtin "object.__setattr__"))
 na:findIn K (.ref C) at_=some none
 xa:lz K C=true
section
variable {K:Frag}{mg:Str->Option Value}{n q at_:Str}{G:Addr}{st:Stmt}{ps:List Str}{h:Heap}{f C:Addr}{oc:Value}{od an:Option Addr}{sl:Array (Option Value)}{kV dc pm cd ct:Value}
def RC(X:K.In h)(N:h.Ns mainGlobals mg)(e:nsIn K mainGlobals n=some (some (.ref C)))(g:Ie K C=true)(x:excIn K C xA "ValueError.__new__" = true):XG K mg n:=⟨C,mg_of X N e,g,x⟩
def RE(X:K.In h)(N:h.Ns mainGlobals mg)(e:nsIn K mainGlobals n=some (some (.ref C))):XP mg n:=⟨C,mg_of X N e⟩
def RG(X:K.In h)(N:h.Ns mainGlobals mg)(hb:∀ (kV doc pm:Value) (an:Option Addr) (cdv ct:Value) (us:List Value),us.length=ps.length->bindArgs (fnOf "__init__" q (fU st) (dQ st) (aB st) .none kV doc pm an cdv ct) ⟨us,[]⟩=pure (ps.zip us))
  (e:nsIn K mainGlobals n=some (some (.ref C)))(i:findIn K (.ref C) "__init__" = some (some (.ref f)))
  (l:K.lookup f=some ⟨oc,od,.func (fnOf "__init__" q (fU st) (dQ st) (aB st) .none kV dc pm an cd ct),sl⟩)(c:codeIn K cd q=true)(k:keepIn K (.ref f)=true)
  (x:(jC K C G f && isFn K (.ref f) && keepIn K (.ref C) && findIn K (.ref C) "__setattr__" == some (some (.builtin "object.__setattr__")) && findIn K (.ref C) at_ == some none && lz K C)=true):XE K mg n q G st ps at_:=by
 simp only [fB,beq_iff_eq] at x
 exact ⟨C,mg_of X N e,f,_,sS l c k,(sS l c k).binds hb,x.1.1.1.1.1,x.1.1.1.1.2,x.1.1.1.2,x.1.1.2,x.1.2,x.2⟩
end
section
variable {P:Program}{w:World}{K:Frag}{mg:Str->Option Value}{base:Heap}
theorem GO.okE{x qual:Str}{st:Stmt}{f:Addr}{fd:FuncData}{N ps:List Str}{k:Nat}{sp:Sp}(F:GO K x qual st f fd)(S:aP N ps (aB st))(len:∀ vs H Q E,sp vs H Q E->vs.length=ps.length)
  (hbody:∀ (cdv:Value) (A:Around) (outer:List Env) (s:Shared) (H:Hp) (vs:List V) (Q:VK) (E:XK),ef k (A.deeper (envOfC qual (aB st) s.heap.objs.size f cdv))->sp vs H Q E ->
   ∃ t,nE (nF (ND P w) P w K mg base N qual (aB st) f cdv A outer s H E) (dQ st) t /\ t { nx:=λ _ H'=>Q .bZ H',rt:=Q } (start N vs) H):bN P w K mg base (ND P w) (k + 1) f fd ps sp:=by
 obtain ⟨oc,od,kV,doc,pm,an,cdv,ct,osl,rfl,lk,hcd⟩:=F.ex
 exact C4 lk hcd S len λ A outer s H vs Q E hr zu=>hbody cdv A outer s H vs Q E hr zu
def Ij(C:Addr)(nm:Str):Sp:=λ vs H Q _=>∃ (e t:Addr) (v:V),vs=[.ref e,v] /\ H e=some (.ext (XO C none (xf t) e)) /\ ((∃ n:Int,v=.int n /\ -1000000 < n /\ n < 1000000) \/ v=.bZ) /\
 ∀ dx t',H dx=none->dx ≠ e->Q .bZ (upd (upd H e (.ext (XO C (some dx) (xf t') e))) dx (.xd [(nm,v)]))
end
section
variable {K:Frag}{σ:St}{H:Hp}{Q:VK}{D:Ends}{sp:Sp}{ta:TA}{te:TE}{th:TS}{E:XK}{i:Nat}
theorem RH(h:ta σ H λ vs H1=>sp vs H1 (λ _ H2=>D.nx σ H2) λ ev _ H2=>∀ a,ev=.ref a ->
 th { nx:=λ σ' H'=>D.nx (σ'.set i none) H',rt:=D.rt,bk:=λ σ' H'=>D.bk (σ'.set i none) H',ct:=λ σ' H'=>D.ct (σ'.set i none) H' } (σ.set i (some (.ref a))) H2):Rx sp ta i th D σ H:=h
theorem Ik(h:te σ H λ v H1=>∃ (a t C G f:Addr) (od:Option Addr),v=.ref a /\ H1 a=some (.ext (XO C od (xf t) a)) /\ jC K C G f=true /\ E (.ref a) od (upd H1 a (.ext (XF C od a)))):ES K E te D σ H:=h
theorem Il{C:Addr}(h:ta σ H λ vs H1=>vs.length <= 1000 /\ ∀ e t,H1 e=none->sp (.ref e :: vs) (upd H1 e (.ext (XO C none (xf t) e))) (λ v H2=>v=.bZ /\ Q (.ref e) H2) E):EK C sp E ta σ H Q:=h
theorem yQ{a C dx:Addr}{fs:List (Str × V)}{t:V}{u:Value}{b:Bool}(h1:H a=some (.ext (XF C (some dx) a)))(h2:H dx=some (.xd fs))(h3:lz K C=true)(h4:∀ u',RelV t u'->u'=u)(h5:kitOne K (.ref C) u=some b)(q:Q (.bl b) H):Kp K [.ref a,t] H Q :=
 ⟨a,C,dx,fs,t,u,b,rfl,h1,h2,h3,h4,h5,q⟩
theorem tL{nm:Str}(h:te σ H λ x H1=>∃ (a C dx:Addr) (fs:List (Str × V)) (v:V),x=.ref a /\ H1 a=some (.ext (XF C (some dx) a)) /\ H1 dx=some (.xd fs) /\ lz K C=true /\ findIn K (.ref C) nm=some none /\ fs.lookup nm=some v /\ Q v H1):EX K nm te σ H Q:=h
end
end L2
set_option compiler.extract_closed false
local macro_rules | `(tactic| walk_at "look") => `(tactic| first | assumption | exact L2.eB.self (by assumption) | exact L2.eB.keep (by assumption) (by walk_at "look") | exact L2.lX.self (by assumption) | exact L2.lX.keep (by assumption) (by walk_at "neq") (by walk_at "look") | exact (by assumption : L2.aD _ _) _ _ (by walk_at "look"))
local macro_rules | `(tactic| walk_at "neq") => `(tactic| first | assumption | exact aV (by assumption) | exact L2.eB.ne (by assumption) (by walk_at "look") | exact aV (L2.eB.ne (by assumption) (by walk_at "look")) | exact L2.qU (by walk_at "look") (by walk_at "look") (by intro z; cases z))
local macro_rules | `(tactic| walk_at "sq") => `(tactic| first | assumption | exact L2.e8.sq (by assumption) | exact L2.bK.of (by walk_at "look") | exact L2.fF.of (by walk_at "look") | exact L2.aD.seq (by assumption) (by walk_at "sq") | exact L2.aD.seq (L2.eB.same (by assumption)) (by walk_at "sq"))
local macro_rules | `(tactic| walk_at "same") => `(tactic| first | exact L2.aD.refl _ | assumption | (refine L2.aD.trans ?_ (L2.eB.same (by assumption)); walk_at "same") | (refine L2.aD.trans ?_ (by assumption); walk_at "same") | (refine L2.lX.same (by assumption) ?_ ?_ <;> first | walk_at "same" | walk_at "free"))
local macro_rules | `(tactic| walk_at "free") => `(tactic| first | assumption | exact L2.eB.none (by assumption) (by walk_at "free") | exact L2.aD.free (by assumption) (by walk_at "free") | exact (by assumption : L2.eB _ _ _ _).1 | exact L2.aD.free (by walk_at "same") (by assumption : L2.eB _ _ _ _).1)
local macro_rules | `(tactic| walk_at "cond") => `(tactic| first | omega | decide | exact ⟨by omega, by omega⟩ | exact aq ⟨by omega, by omega⟩ | exact bH ⟨by omega, by omega⟩ | exact ⟨by omega, by omega, by decide⟩)
local macro_rules | `(tactic| walk_at "len") => `(tactic| first | omega | (simp only [au, aX, dZ, List.length_nil, L2.uK] at *; omega) | exact o6 rfl)
local macro_rules | `(tactic| walk_at "fld") => `(tactic| first | exact L2.TZ | exact L2.T3 | exact L2.T4 | exact L2.T5 | exact L2.T6 | exact L2.T7 | exact L2.T8 | exact L2.T9 | exact L2.Ua | exact L2.Ub | exact L2.Uc | exact L2.Ud)
local macro_rules | `(tactic| walk_at "flp") => `(tactic| first | exact L2.Ue | exact L2.Ug | exact L2.Uh | exact L2.RI | exact L2.RJ | exact L2.RK | exact L2.RL | exact L2.Ui | exact L2.Uj | exact L2.Uk | exact L2.Ul | exact L2.Um | exact L2.Uo | exact L2.Uq | exact L2.Ur | exact L2.RM | exact L2.RN | exact L2.RO | exact L2.RP | exact L2.RQ | exact L2.RS | exact L2.RT | exact L2.RU)
local macro_rules | `(tactic| walk_at "fln") => `(tactic| first | exact L2.Us | exact L2.Ut | exact L2.Uu | exact L2.Uv | exact L2.Uw | exact L2.Ux | exact L2.Uy | exact L2.Uz | exact L2.UA | exact L2.UB | exact L2.UC | exact L2.UD | exact Nat.zero_lt_succ _)
local macro_rules | `(tactic| walk_at "flm") => `(tactic| first | exact L2.Wg | exact L2.Wh | exact L2.Wi | exact L2.Wj | exact L2.Wk | exact L2.Wl | exact L2.Wm | exact L2.Wn | exact L2.Wo)
set_option hygiene false in
local macro_rules | `(tactic| walk_at "nx") => `(tactic| first | ((fail_if_success clear EY); intro YC EY) | ((fail_if_success clear NK); intro nx1 NK) | ((fail_if_success clear NL); intro nx2 NL) | ((fail_if_success clear NN); intro nx3 NN) | intro nx4 RW)
set_option hygiene false in
local macro_rules | `(tactic| walk_at "ni") => `(tactic| (try clear vE qO RX RY); intro RX RY vE qO)
set_option hygiene false in
local macro_rules | `(tactic| walk_at "nl") => `(tactic| first | ((fail_if_success clear Im); intro no0 bk0 ct0 Im Wq Wr) | ((fail_if_success clear RZ); intro no1 bk1 ct1 RZ Ws Wt) | intro no2 bk2 ct2 Wu Wv Ww)
set_option hygiene false in
local macro_rules | `(tactic| walk_at "sq1") => `(tactic| first | ((with_reducible refine L2.M4 ?_); walk_at "nx") | ((with_reducible refine L2.yj (bk := bk2) (ct := ct2) ?_); walk_at "nx") | ((with_reducible refine L2.yj (bk := bk1) (ct := ct1) ?_); walk_at "nx") | ((with_reducible refine L2.yj (bk := bk0) (ct := ct0) ?_); walk_at "nx") | ((with_reducible refine L2.M5 ?_); walk_at "nl"; walk_at "nx"))
set_option hygiene false in
local macro_rules | `(tactic| walk_at "nxd") => `(tactic| first | ((with_reducible refine vE _ ?_); try clear vE qO RX RY) | ((with_reducible refine qO _ ?_); try clear vE qO RX RY) | ((with_reducible refine EY _ _ ?_); try clear EY YC) | ((with_reducible refine NK _ _ ?_); try clear NK nx1) | ((with_reducible refine NL _ _ ?_); try clear NL nx2) | ((with_reducible refine NN _ _ ?_); try clear NN nx3) | ((with_reducible refine RW _ _ ?_); try clear RW nx4) | with_reducible refine Im _ _ ?_ | with_reducible refine Wr _ _ ?_ | with_reducible refine Wq _ _ ?_ | with_reducible refine RZ _ _ ?_ | with_reducible refine Wt _ _ ?_ | with_reducible refine Ws _ _ ?_ | with_reducible refine Wu _ _ ?_ | with_reducible refine Ww _ _ ?_ | with_reducible refine Wv _ _ ?_)
local macro_rules | `(tactic| walk_at "go1") => `(tactic| first
  | ((with_reducible refine L2.M3 ?_); walk_at "sq1") | with_reducible (first | apply L2.Ql | apply L2.Vr | apply L2.Zq)
  | ((with_reducible refine L2.J8 ?_); walk_at "ni") | with_reducible (first | apply L2.L4 | apply L2.Zt | apply L2.Qd | apply L2.Mn | apply L2.Mp | apply L2.Mq | apply L2.Mr | apply L2.Mt | apply L2.Mu | apply L2.Mv | apply L2.Mw | apply L2.Mx | apply L2.My | apply L2.GX | apply L2.GY | apply L2.G0 | apply L2.Vz | apply L2.VA | apply L2.VB | apply L2.QC | apply L2.VC | apply L2.VD | apply L2.VE | apply L2.VF | apply L2.VG | apply L2.VH | apply L2.QD | apply L2.QE | apply L2.QF | apply L2.Vu)
  | ((with_reducible refine L2.Zu ?hc ?_); (case hc => walk_at "cond")) | with_reducible (first | apply L2.Qi | apply L2.Qj)
  | with_reducible exact ⟨rfl, rfl⟩ | with_reducible exact ⟨rfl, L2.aD.refl _⟩ | (with_reducible refine L2.Ml ?_ ?_) | ((with_reducible refine L2.Mm ?_ ?_); rotate_left; intro _ _; rotate_left)
  | walk_at "nxd"
  | with_reducible (first | apply L2.Qc | apply L2.LZ | apply L2.L1 | apply L2.Vs | apply L2.Zr | apply L2.Qe | apply L2.Vt | apply L2.Qf | apply L2.Qg | apply L2.L5 | apply L2.Qh | apply L2.GR | apply L2.s_call | apply L2.Qk | apply L2.L6 | apply L2.Vv | apply L2.Qq | apply L2.Qs)
  | ((with_reducible refine L2.Mb ?hz ?_); (case hz => exact o6 rfl); intro _ _ _) | ((with_reducible refine L2.Mc ?hz ?_); (case hz => exact o6 rfl); intro _ _ _)
  | ((with_reducible refine L2.iy (xs := ?xs) (v := ?v) ?hS ?hv ?_); (case hS => walk_at "sq"); (case hv => rfl)) | ((with_reducible refine L2.uG (xs := ?xs) (v := ?v) ?hS ?hv ?_); (case hS => walk_at "sq"); (case hv => first | rfl | exact L2.DV _ _)) | ((with_reducible refine L2.JV (ch := ?ch) ?hz ?hv ?_); (case hz => exact o6 rfl); (case hv => rfl))
  | ((with_reducible refine L2.Vw (xs := ?xs) ?hS ?h1 ?h2 ?_); (case hS => first | exact aq (by walk_at "sq") | exact bH (by walk_at "sq")); (case h1 => rfl); (case h2 => rfl)) | ((with_reducible refine L2.Qt (xs := ?xs) ?hS ?h1 ?h2 ?_); (case hS => first | exact aq (by walk_at "sq") | exact bH (by walk_at "sq")); (case h1 => rfl); (case h2 => rfl))
  | with_reducible (first | apply L2.QA | apply L2.DB)
  | ((with_reducible refine L2.Qz ?ha ?hb ?_); (case ha => omega); (case hb => omega)) | with_reducible (first | apply L2.Me | apply L2.GS)
  | ((with_reducible refine L2.GW (xs := ?xs) ?hS ?_); (case hS => walk_at "sq")) | ((with_reducible refine L2.Mk (xs := ?xs) ?hS ?_); (case hS => walk_at "sq"))
  | ((with_reducible refine L2.Mi (xs := ?xs) ?hS ?hn ?_); (case hS => walk_at "sq"); (case hn => rfl)) | with_reducible (first | apply L2.GV | apply L2.Mj | apply L2.Vy)
  | ((with_reducible refine L2.Qx (ys := ?ys) ?hS ?_); (case hS => first | exact aq (by walk_at "sq") | exact bH (by walk_at "sq"))) | ((with_reducible refine L2.DA (ys := ?ys) ?hS ?_); (case hS => first | exact aq (by walk_at "sq") | exact bH (by walk_at "sq")); intro _ _ _) | ((with_reducible refine L2.JW (ty := ?ty) (b := ?b) ?ht ?e ?_); (case ht => first | exact L2.gC.int _ | exact L2.gC.bl _ | exact L2.gC.bZ | exact L2.gC.str _ | exact L2.gC.tup (by walk_at "look") | exact L2.gC.lst (by walk_at "look")); (case e => rfl))
  | ((with_reducible refine L2.QB (xs := ?xs) ?hS ?_); (case hS => walk_at "sq")) | ((with_reducible refine L2.Dw (xs := ?xs) ?hl ?hz ?_); (case hl => walk_at "look"); (case hz => walk_at "len"); intro _ _)
  | with_reducible (first | apply L2.MD | apply L2.ME | apply L2.MF | apply L2.G8 | apply L2.G9)
  | ((with_reducible refine L2.MG (ys := ?ys) ?hS ?_); (case hS => walk_at "sq"); intro _ _ _) | ((with_reducible refine L2.MH (xs := ?xs) ?hS ?hn ?_); (case hS => walk_at "sq"); (case hn => rfl))
  | ((with_reducible refine L2.QJ (xs := ?xs) (zs := ?zs) ?ha ?hb ?hz ?_); (case ha => walk_at "look"); (case hb => walk_at "look"); (case hz => walk_at "len"); intro _ _ _)
  | ((with_reducible refine L2.DL (xs := ?xs) (zs := ?zs) ?ha ?hb ?hz ?_); (case ha => walk_at "look"); (case hb => walk_at "look"); (case hz => walk_at "len"); intro _ _)
  | with_reducible (first | apply L2.QL | apply L2.MK)
  | ((with_reducible refine L2.MJ (xs := ?xs) ?hS ?_); (case hS => walk_at "sq")) | with_reducible refine L2.VP ?_ | ((with_reducible refine L2.QM (xs := ?xs) ?hS ?_); (case hS => walk_at "sq"); intro _ _ _) | with_reducible refine L2.MN ?_ | ((with_reducible refine L2.DM (xs := ?xs) (j := ?j) ?hl ?hj ?_); (case hl => walk_at "look"); (case hj => rfl); intro _ _) | with_reducible (first | apply L2.MM | apply L2.J3 | apply L2.MO)
  | ((with_reducible refine L2.ML (v := ?v) ?e ?_); (case e => exact rfl))
  | with_reducible (first | apply L2.MC | apply L2.G6 | apply L2.DG | apply L2.Vx | apply L2.Qu | apply L2.MV | apply L2.R1)
  | ((with_reducible refine L2.Wx (xs := ?xs) ?hS ?_); (case hS => walk_at "sq")) | ((with_reducible refine L2.s_split ?hy ?hz ?_); (case hy => decide); (case hz => walk_at "len"); intro _ _ _) | with_reducible (first | apply L2.HN | apply L2.HP | apply L2.EB | apply L2.HW | apply L2.Nu)
  | ((with_reducible refine L2.HL ?_); intro _ _ _ _) | ((with_reducible refine L2.Rh (ep := ?ep) (kvs := ?kvs) ?hd ?_); (case hd => walk_at "look")) | ((with_reducible refine L2.Nt (ep := ?ep) (kvs := ?kvs) ?hd ?_); (case hd => walk_at "look")) | ((with_reducible refine L2.HQ (ep := ?ep) (kvs := ?kvs) ?hd ?_); (case hd => walk_at "look"); intro _ _ _)
  | with_reducible refine L2.MW ?_ | ((with_reducible refine L2.QZ (kvs := ?kvs) ?hd ?hz ?_); (case hd => walk_at "look"); (case hz => walk_at "len"); intro _ _)
  | ((with_reducible refine L2.HB ?_); intro _ _ _) | ((with_reducible refine L2.Ni (kvs := ?kvs) ?hd ?_); (case hd => walk_at "look"))
  | ((with_reducible refine L2.MY ?_); intro _ _ _) | with_reducible refine L2.MZ ?_ | ((with_reducible refine L2.Q2 (x := ?x) ?e ?_); (case e => exact rfl)) | with_reducible (first | apply L2.Q3 | apply L2.MU | apply L2.Hj)
  | ((with_reducible refine L2.MS (v := ?v) ?hv ?_); (case hv => rfl)) | ((with_reducible refine L2.QU (xs := ?xs) ?hS ?hw ?_); (case hS => walk_at "sq"); (case hw => first | exact (λ h => absurd (show (1 : Nat) = 0 from h.1) (by decide)) | (intro h; simp only [L2.HT.dP] at h; omega)); intro _ _ _)
  | with_reducible (first | apply L2.Hh | apply L2.MR | apply L2.Hg)
  | ((with_reducible refine L2.QV (xs := ?xs) ?hS ?_); (case hS => walk_at "sq"))
  | ((with_reducible refine L2.zL (t1 := true) (t2 := true) (xs := ?xs) (ys := ?ys) ?h1 ?h2 ?_); (case h1 => exact (show L2.fF _ _ _ _ from (by walk_at "sq"))); (case h2 => exact (show L2.fF _ _ _ _ from (by walk_at "sq"))))
  | ((with_reducible refine L2.zL (t1 := true) (t2 := false) (xs := ?xs) (ys := ?ys) ?h1 ?h2 ?_); (case h1 => exact (show L2.fF _ _ _ _ from (by walk_at "sq"))); (case h2 => exact (show L2.bK _ _ _ _ from (by walk_at "sq"))))
  | ((with_reducible refine L2.zL (t1 := false) (t2 := true) (xs := ?xs) (ys := ?ys) ?h1 ?h2 ?_); (case h1 => exact (show L2.bK _ _ _ _ from (by walk_at "sq"))); (case h2 => exact (show L2.fF _ _ _ _ from (by walk_at "sq"))))
  | ((with_reducible refine L2.zL (t1 := false) (t2 := false) (xs := ?xs) (ys := ?ys) ?h1 ?h2 ?_); (case h1 => exact (show L2.bK _ _ _ _ from (by walk_at "sq"))); (case h2 => exact (show L2.bK _ _ _ _ from (by walk_at "sq"))))
  | with_reducible (first | apply L2.LR | apply L2.P1 | apply L2.Qm | apply L2.Qn)
  | ((with_reducible refine L2.L7 ?hp ?_); (case hp => first | assumption | decide | omega)) | ((with_reducible refine L2.L8 ?hp ?_); (case hp => first | assumption | decide | omega)) | ((with_reducible refine L2.yd ?_ ?_) <;> intro _)
  | ((with_reducible refine L2.Ma ?hp ?_); (case hp => first | assumption | decide | omega)) | ((with_reducible refine L2.Dv ?_ ?_) <;> intro _)
  | ((with_reducible refine L2.Dy ?hb ?_); (case hb => rfl)) | ((with_reducible refine L2.Dz ?hb ?_); (case hb => rfl)) | fail)
local macro_rules | `(tactic| walk_at "go") => `(tactic| repeat' walk_at "go1")
local macro_rules | `(tactic| walk_at "goq") => `(tactic| repeat' (first | with_reducible refine L2.Wy ?_ | with_reducible refine L2.UE ?_ | with_reducible refine L2.UG ?_ | walk_at "go1"))
local macro_rules | `(tactic| walk_at "start") => `(tactic| try dsimp only [L2.nF, L2.Cx.AS, L2.Cx.kL])
namespace TG
open PySem L2 PySem.Spec PyProof.Rows
variable {H H':Hp}{n b s x:Int}{i j k m:Nat}{r:Row}{K:az}{v:V}{vs:List V}{rs:List Row}{a f:Addr}{us:List Value}{ps:List (Int × Int)}{p:Int × Int}{o:HO}{t:HM.dD}{φ:Heap->Prop}{kvs:dJ}{β α:Type}{ks:List HM.bf}{L:HM.bf->List HM.bf}
set_option maxHeartbeats 4000000
def top(i:Nat):Stmt:=PySem.Challenge.pw_turnguard_k66_too_late.main.body.getD i (.Pass ⟨0,0,0,0⟩)
abbrev rF:Stmt:=top 9
abbrev lA:Stmt:=top 10
abbrev nv:Stmt:=top 11
abbrev Ag:Stmt:=top 12
abbrev Ah:Stmt:=top 13
abbrev Ai:Stmt:=top 14
abbrev EZ:Stmt:=top 15
abbrev ny:Stmt:=top 16
abbrev rG:Stmt:=top 17
abbrev pU:Stmt:=top 21
abbrev rH:Stmt:=top 22
abbrev i6:Stmt:=top 23
abbrev rJ:Stmt:=top 24
abbrev vF:Stmt:=top 25
abbrev rK:Stmt:=top 26
abbrev Aj:Stmt:=top 27
abbrev vG:Stmt:=top 28
abbrev Ak:Stmt:=top 29
abbrev vH:Stmt:=top 31
abbrev rL:Stmt:=top 32
abbrev E1:Stmt:=top 33
abbrev rM:Stmt:=top 34
abbrev jD:Stmt:=top 35
abbrev rN:Stmt:=top 37
abbrev Al:Stmt:=top 38
abbrev rO:Stmt:=top 39
abbrev vI:Stmt:=top 40
abbrev E2:Stmt:=top 41
abbrev E3:Stmt:=top 42
abbrev s_row:Stmt:=top 43
abbrev E4:Stmt:=top 44
abbrev rP:Stmt:=top 45
abbrev Kq:Stmt:=top 46
theorem yR:aP ["row"] ["row"] (aB rF):=by walk_at "sc"
theorem qP:aP ["row", "part"] ["row", "part"] (aB lA):=by walk_at "sc"
theorem lB:aP ["row", "moved", "numbers"] ["row", "moved"] (aB nv):=by walk_at "sc"
theorem vJ:aP ["row", "boxes"] ["row"] (aB Ag):=by walk_at "sc"
theorem E5:aP ["row"] ["row"] (aB Ah):=by walk_at "sc"
theorem pV:aP ["row", "boxes", "found", "side"] ["row", "boxes"] (aB Ai):=by walk_at "sc"
theorem fV:aP ["code", "reading", "giving", "ahead", "found", "spot", "coming", "seen", "place"] ["code"] (aB EZ):=by walk_at "sc"
theorem fW:aP ["lists", "found", "some", "thing"] ["lists"] (aB ny):=by walk_at "sc"
theorem gq:aP ["code", "found", "place", "row", "way"] ["code"] (aB rG):=by walk_at "sc"
theorem gO:aP ["row", "things", "lively", "taken", "given", "onward"] ["row", "things", "lively"] (aB pU):=by walk_at "sc"
theorem kG:aP ["onward", "things", "lively", "found", "way"] ["onward", "things", "lively"] (aB rH):=by walk_at "sc"
theorem iB:aP ["row", "thing", "taken", "given", "found"] ["row", "thing", "taken", "given"] (aB i6):=by walk_at "sc"
theorem di:aP ["code", "lively", "found", "place", "row", "things", "thing", "later"] ["code"] (aB rJ):=by walk_at "sc"
theorem BO:aP ["code"] ["code"] (aB vF):=by walk_at "sc"
theorem pW:aP ["later", "found"] ["later"] (aB rK):=by walk_at "sc"
theorem gr:aP ["later", "earlier", "waiting", "ready", "found", "harm", "other"] ["later"] (aB Aj):=by walk_at "sc"
theorem jS:aP ["later", "found", "harm", "other"] ["later"] (aB vG):=by walk_at "sc"
theorem vK:aP ["code", "found"] ["code"] (aB Ak):=by walk_at "sc"
theorem rQ:aP ["code", "place", "row"] ["code", "place"] (aB vH):=by walk_at "sc"
theorem pX:aP ["code", "place", "moved"] ["code", "place"] (aB rL):=by walk_at "sc"
theorem dU:aP ["code", "number", "found", "left", "fewer"] ["code", "number"] (aB E1):=by walk_at "sc"
theorem yS:aP ["found", "number"] ["found", "number"] (aB rM):=by walk_at "sc"
theorem cV:aP ["code", "number", "left", "place"] ["code", "number"] (aB jD):=by walk_at "sc"
theorem yT:aP ["_law_script", "_law_k"] ["_law_script", "_law_k"] (aB rN):=by walk_at "sc"
theorem vL:aP ["_law_cell", "_law_k", "_law_number"] ["_law_cell", "_law_k"] (aB Al):=by walk_at "sc"
theorem gu:aP ["_law_script", "_law_many", "_law_found", "_law_k", "_law_cell", "_law_number"] ["_law_script", "_law_many"] (aB rO):=by walk_at "sc"
theorem jT:aP ["_law_number", "_law_found", "_law_k"] ["_law_number"] (aB vI):=by walk_at "sc"
theorem tM:aP ["_law_script", "_law_most", "_law_cell"] ["_law_script", "_law_most"] (aB E2):=by walk_at "sc"
theorem Io:aP ["_law_cell", "_law_p", "_law_many", "_law_way"] ["_law_cell", "_law_p", "_law_many", "_law_way"] (aB E3):=by walk_at "sc"
theorem iR:aP ["_law_cell", "_law_p", "_law_many", "_law_pool_here", "_law_way", "_law_kind", "_law_side", "_law_rest", "_law_k", "_law_i", "_law_j", "_law_q", "_law_value_of"] ["_law_cell", "_law_p", "_law_many", "_law_pool_here", "_law_way"] (aB s_row):=by walk_at "sc"
theorem tN:aP ["_law_script", "_law_many", "_law_way", "_law_pool_here", "_law_numbers_here"] ["_law_script", "_law_many", "_law_way"] (aB E4):=by walk_at "sc"
theorem iS:aP ["_law_code_here", "_law_number", "_law_due", "_law_kept", "e"] ["_law_code_here", "_law_number", "_law_due"] (aB rP):=by walk_at "sc"
theorem kH:aP ["_law_script", "_law_head", "_law_code_here", "_law_most", "_law_cell", "_law_number", "_law_found"] ["_law_script"] (aB Kq):=by walk_at "sc"
abbrev i7:Stmt:=inClass (top 3) 0
theorem mW:aP ["self", "delay"] ["self", "delay"] (aB i7):=by walk_at "sc"
set_option genInjectivity false in
set_option genSizeOf false in
set_option genSizeOfSpec false in
structure Am (w:World) (K:az) (mg:Str->Option Value) where
 lC:Addr
 tO:mg "PARTS" = some (.ref lC)
 lD:Addr
 vM:e8 K lD [.str "side", .str "box", .str "value", .str "place"]
 lE:Addr
 vN:e8 K lE [.str "side", .str "box", .str "box", .str "place"]
 lF:Addr
 vO:e8 K lF [.str "side", .str "sign", .str "box", .str "box", .str "box", .str "place"]
 lG:Addr
 vP:e8 K lG [.str "box", .str "place"]
 lH:Addr
 vQ:e8 K lH [.str "box", .str "place", .str "place"]
 lI:Addr
 vR:e8 K lI [.str "box", .str "place"]
 lJ:Addr
 vS:e8 K lJ [.str "place"]
 lK:Addr
 vU:e8 K lK [.str "box"]
 tP:uN w K lC [(.inr "num", .ref lD),(.inr "copy", .ref lE),(.inr "op", .ref lF),(.inr "out", .ref lG),(.inr "fork", .ref lH),(.inr "look", .ref lI),(.inr "mark", .ref lJ),(.inr "back", .ref lK)]
set_option genInjectivity false in
set_option genSizeOf false in
set_option genSizeOfSpec false in
structure Txt (w:World) (K:az) (mg:Str->Option Value) where
 lM:DD K mg "ways_of" rF ["row"]
 fh:DD K mg "numbers_of" lA ["row", "part"]
 jU:DD K mg "to_places" nv ["row", "moved"]
 reads:DD K mg "reads" Ag ["row"]
 gives:DD K mg "gives" Ah ["row"]
 vV:DD K mg "spots" Ai ["row", "boxes"]
 live:DD K mg "live" EZ ["code"]
 jV:DD K mg "each_once" ny ["lists"]
 leading:DD K mg "leading" rG ["code"]
 lN:DD K mg "lasts_by" pU ["row", "things", "lively"]
 nY:DD K mg "at_ways" rH ["onward", "things", "lively"]
 fu:DD K mg "things_behind" i6 ["row", "thing", "taken", "given"]
 nZ:DD K mg "lasting" rJ ["code"]
 tQ:DD K mg "delays" vF ["code"]
 oh:DD K mg "lengths" rK ["later"]
 ended:DD K mg "ended" Aj ["later"]
 turned:DD K mg "turned" vG ["later"]
 delay:DD K mg "delay" Ak ["code"]
 tR:DD K mg "can_go" vH ["code", "place"]
 without:DD K mg "without" rL ["code", "place"]
 qQ:DD K mg "thin" E1 ["code", "number"]
 jW:DD K mg "is_soon" rM ["found", "number"]
 cQ:DD K mg "gone_through" jD ["code", "number"]
 fX:DD K mg "_law_cell_at" rN ["_law_script", "_law_k"]
 mixed:DD K mg "_law_mixed" Al ["_law_cell", "_law_k"]
 numbers:DD K mg "_law_numbers" rO ["_law_script", "_law_many"]
 spread:DD K mg "_law_spread" vI ["_law_number"]
 pool:DD K mg "_law_pool" E2 ["_law_script", "_law_most"]
 goes:DD K mg "_law_goes" E3 ["_law_cell", "_law_p", "_law_many", "_law_way"]
 row:DD K mg "_law_row" s_row ["_law_cell", "_law_p", "_law_many", "_law_pool_here", "_law_way"]
 code:DD K mg "_law_code" E4 ["_law_script", "_law_many", "_law_way"]
 refused:DD K mg "_law_refused" rP ["_law_code_here", "_law_number", "_law_due"]
 law:DD K mg "law" Kq ["_law_script"]
 tS:mg "ValueError" = none
 YD:mg "all" = none
 NO:mg "bool" = none
 E6:mg "dict" = none
 gP:mg "enumerate" = none
 YE:mg "int" = none
 eO:mg "isinstance" = none
 gQ:mg "len" = none
 E7:mg "list" = none
 Kr:mg "max" = none
 R3:mg "min" = none
 iT:mg "range" = none
 NP:mg "reversed" = none
 Ks:mg "set" = none
 pY:mg "sorted" = none
 YF:mg "str" = none
 Ip:mg "tuple" = none
 E8:mg "zip" = none
 dj:XG K mg "GuardError"
 mX:XP mg "NoProgram"
 cR:XE K mg "Late" "Late.__init__" dj.C i7 ["self", "delay"] "delay"
 Wz:PySem.W.kitOne K (.ref cR.C) (.ref cR.C)=some true
 WA:PySem.W.kitOne K (.ref cR.C) (.ref mX.C)=some false
 WB:PySem.W.kitOne K (.ref cR.C) (.type "ValueError")=some true
 WC:CI mg "BOTH" 2
 lO:CT K mg "DEEDS" [.str "num", .str "copy", .str "op"]
 ia:CT K mg "ENDS_OF_MARKS" [.str "mark", .str "out", .str "back"]
 ic:CT K mg "ENDS_OF_SPOTS" [.str "look", .str "out", .str "back"]
 dF:Am w K mg
 E9:CT K mg "SIDES" [.int 0,.int 1]
def fJ(H H':Hp):Prop:=∀ b xs,H b=some (.tup xs)->H' b=some (.tup xs)
theorem sT(e:aD H H'):fJ H H':=λ b xs h=>e b _ h
theorem fJ.refl(H:Hp):fJ H H:=λ _ _ h=>h
theorem fJ.trans{H1 H2:Hp}(a:fJ H H1)(b:fJ H1 H2):fJ H H2:=λ c o h=>b c o (a c o h)
theorem bP{n:Nat}(h:n < 100000):n < sizeLine:=bz h (by decide)
theorem yU{α:Type}{xs:List α}{i:Int}(h0:0 <= i)(h1:i < xs.length):∃ v,qF xs i=some v /\ v∈xs:=by
 have e:i=((i.toNat:Nat):Int):=by omega
 have h2:i.toNat < xs.length:=by omega
 refine ⟨xs[i.toNat],?_,gY h2⟩
 have q:qF xs ((i.toNat:Nat):Int)=some xs[i.toNat]:=fq (by simp [h2])
 rw [<- e] at q
 exact q
theorem tU{ns:List Int}{i:Int}(h0:0 <= i)(h1:i < ns.length):∃ v,qF (ns.map V.int) i=some (.int v):=by
 obtain ⟨v,e,m⟩:=yU (xs:=ns.map V.int) h0 (by simpa using h1)
 obtain ⟨n,_,rfl⟩:=aF.mp m
 exact ⟨n,e⟩
theorem vW{ns:List Int}{i:Int}(h0:0 <= i)(h1:i < ns.length):∃ v,qF (ns.map V.int) i=some (.int v) /\ v∈ns:=by
 obtain ⟨v,e,m⟩:=yU (xs:=ns.map V.int) h0 (by simpa using h1)
 obtain ⟨n,hn,rfl⟩:=aF.mp m
 exact ⟨n,e,hn⟩
theorem cW{a:Int}(h:0 < b):0 <= a % b /\ a % b < b:=⟨Int.emod_nonneg _ (by omega),Int.emod_lt_of_pos _ h⟩
def An(K:az):Sp:=λ vs H Q _=>∃ (a:Addr) (ns:List Int),vs=[.ref a] /\ bK K H a (ns.map V.int) /\ ns.length <= 63 /\ ∀ H',Q (.bl true) H'
inductive Row where
 | num (d k v q:Int) | copy (d k i q:Int) | op (d:Int) (s:Str) (k i j q:Int) | out (i q:Int) | fork (i q p:Int) | look (i q:Int) | mark (q:Int) | back (i:Int)
def Row.key:Row->Str
 | .num .. => "num" | .copy .. => "copy" | .op .. => "op" | .out .. => "out" | .fork .. => "fork" | .look .. => "look" | .mark .. => "mark" | .back .. => "back"
def Row.parts:Row->List Str
 | .num ..=>["side", "box", "value", "place"] | .copy ..=>["side", "box", "box", "place"] | .op ..=>["side", "sign", "box", "box", "box", "place"] | .out ..=>["box", "place"]
 | .fork ..=>["box", "place", "place"] | .look ..=>["box", "place"] | .mark ..=>["place"] | .back ..=>["box"]
def Row.rest:Row->List V
 | .num d k v q=>[.int d,.int k,.int v,.int q] | .copy d k i q=>[.int d,.int k,.int i,.int q] | .op d s k i j q=>[.int d,.str s,.int k,.int i,.int j,.int q]
 | .out i q=>[.int i,.int q] | .fork i q p=>[.int i,.int q,.int p] | .look i q=>[.int i,.int q] | .mark q=>[.int q] | .back i=>[.int i]
def Row.Fb:Row->List PyData
 | .num d k v q=>[.int d,.int k,.int v,.int q] | .copy d k i q=>[.int d,.int k,.int i,.int q] | .op d s k i j q=>[.int d,.str s,.int k,.int i,.int j,.int q]
 | .out i q=>[.int i,.int q] | .fork i q p=>[.int i,.int q,.int p] | .look i q=>[.int i,.int q] | .mark q=>[.int q] | .back i=>[.int i]
def Row.vals(r:Row):List V:=.str r.key :: r.rest
def Row.data(r:Row):PyData:=.tuple (.str r.key :: r.Fb)
def Row.ways:Row->List Int
 | .num _ _ _ q=>[q] | .copy _ _ _ q=>[q] | .op _ _ _ _ _ q=>[q] | .out _ q=>[q] | .fork _ q p=>[q,p] | .look _ q=>[q] | .mark q=>[q] | .back _=>[]
def signs:List Str:=["+", "-", "*", "/", "<", "=", "&", "|", "^"]
def tV(d:Int):Prop:=0 <= d /\ d < 3
def gR(d:Int):Prop:=0 <= d /\ d < 8
def isVal(d:Int):Prop:=0 <= d /\ d < 281474976710656
def pZ(n d:Int):Prop:=0 <= d /\ d < n
def Row.ok(n:Int):Row->Prop
 | .num d k v q=>tV d /\ gR k /\ isVal v /\ pZ n q
 | .copy d k i q=>tV d /\ gR k /\ gR i /\ pZ n q
 | .op d s k i j q=>tV d /\ s∈signs /\ gR k /\ gR i /\ gR j /\ pZ n q
 | .out i q=>gR i /\ pZ n q
 | .fork i q p=>gR i /\ pZ n q /\ pZ n p
 | .look i q=>gR i /\ pZ n q
 | .mark q=>pZ n q
 | .back i=>gR i
theorem Row.iU(h:r.ok n):∀ q∈r.ways,0 <= q /\ q < n:=by
 cases r <;> simp only [Row.ok] at h <;> simp only [Row.ways,aG,eF,or_false] <;> intro q hq
 ·rw [hq]; exact h.2.2.2
 ·rw [hq]; exact h.2.2.2
 ·rw [hq]; exact h.2.2.2.2.2
 ·rw [hq]; exact h.2
 ·rcases hq with e | e <;> rw [e]
  ·exact h.2.1
  ·exact h.2.2
 ·rw [hq]; exact h.2
 ·rw [hq]; exact h
 ·exact hq.elim
theorem Row.qa(r:Row):r.ways.length <= 2:=by cases r <;> simp [Row.ways]
theorem Row.Iq(r:Row):nT K H r.vals (.str r.key :: r.Fb):=by
 refine .cons (.str _) ?_
 cases r <;> simp only [Row.rest,Row.Fb] <;> repeat (first | exact nT.nil | refine nT.cons (by first | exact .int _ | exact .str _) ?_)
def qb(H:Hp)(v:V)(r:Row):Prop:=∃ a,v=.ref a /\ H a=some (.tup r.vals)
abbrev Rows(H:Hp):List V->List Row->Prop:=Paired (qb H)
theorem qb.same(e:aD H H')(h:qb H v r):qb H' v r:=let ⟨a,e1,e2⟩:=h; ⟨a,e1,e _ _ e2⟩
theorem qb.lP(e:fJ H H')(h:qb H v r):qb H' v r:=let ⟨a,e1,e2⟩:=h; ⟨a,e1,e _ _ e2⟩
theorem Rows.same(e:aD H H')(h:Rows H vs rs):Rows H' vs rs:=cH (λ _ _ q=>q.same e) h
theorem Rows.lP(e:fJ H H')(h:Rows H vs rs):Rows H' vs rs:=cH (λ _ _ q=>q.lP e) h
theorem aW{α β:Type}{F:α->β->Prop}:∀ {xs:List α} {ys:List β},Paired F xs ys->∀ {i:Nat} {x:α},xs[i]? = some x->∃ y,ys[i]? = some y /\ F x y
 | _,_,.nil,i,x,h=>by simp at h
 | _,_,.cons a t,0,x,h=>by simp at h; subst h; exact ⟨_,rfl,a⟩
 | _,_,.cons a t,i + 1,x,h=>by
  obtain ⟨y,h1,h2⟩:=aW t (i:=i) (x:=x) (by simpa using h)
  exact ⟨y,by simpa using h1,h2⟩
theorem Rows.rd:∀ {vs:List V} {rs:List Row},Rows H vs rs->nT K H vs (rs.map Row.data)
 | _,_,.nil=>.nil
 | _,_,.cons h t=>by
  obtain ⟨a,rfl,e⟩:=h
  exact .cons (.tup (fF.of e) (Row.Iq _)) (Rows.rd t)
theorem rR{α:Type}{xs:List α}(hn:xs.Nodup){a:α}(hi:xs[i]? = some a)(hj:xs[j]? = some a):i=j:=by
 obtain ⟨h1,e1⟩:=eU hi
 obtain ⟨h2,e2⟩:=eU hj
 have q:=jj.mp hn
 rcases Nat.lt_trichotomy i j with h | h | h
 ·exact absurd (e1.trans e2.symm) (q i j h1 h2 h)
 ·exact h
 ·exact absurd (e2.trans e1.symm) (q j i h2 h1 h)
section
variable {P:Program}{w:World}{K:az}{mg:Str->Option Value}{base:Heap}
def NQ(K:az):Sp:=λ vs H Q _=>∃ (a:Addr) (ns:List Int) (k:Int),vs=[.ref a,.int k] /\ bK K H a (ns.map V.int) /\ 0 <= k /\ ∀ c:Int,Q (.int c) H
theorem fj(T:Txt w K mg):bN P w K mg base gJ 1 T.fX.f T.fX.d ["_law_script", "_law_k"] (NQ K):=by
 refine T.fX.F.ok yT (λ vs H Q E h=>?_) (λ cdv A outer s H vs Q E hr h=>?_)
 ·obtain ⟨a,ns,k,rfl,_⟩:=h
  rfl
 obtain ⟨a,ns,k,rfl,hS,h0,q⟩:=h
 refine ⟨_,(ak (cS (aI iZ (pv 1) (bg cM rfl T.gQ BT.gK (aa (pv 0) ai)) (aY _))
 (av (aN (cz gI (pv 0) (pv 1) (λ _ _=>rfl))))
 bC)
 (av (aN ao))),?_⟩
 have hl:(ns.map V.int).length=ns.length:=au _
 show (_:TS) (Ends.mk _ _ _ _) [_,_] H
 walk_at "start"
 walk_at "go"
 ·obtain ⟨v0,hv0⟩:=tU (ns:=ns) (i:=k) (by omega) (by omega)
  refine iy hS hv0 ?_
  exact q _
 ·exact q _
def Ir:Sp:=λ vs H Q _=>∃ (n k:Int),vs=[.int n,.int k] /\ ∀ c,0 <= c->c < 2147483587->Q (.int c) H
theorem qc(T:Txt w K mg):bN P w K mg base gJ 1 T.mixed.f T.mixed.d ["_law_cell", "_law_k"] Ir:=by
 refine T.mixed.F.ok vL (λ vs H Q E h=>?_) (λ cdv A outer s H vs Q E hr h=>?_)
 ·obtain ⟨n,k,rfl,_⟩:=h
  rfl
 obtain ⟨n,k,rfl,q⟩:=h
 refine ⟨_,(ak (aH (i:=2) vL.nd rfl (aq rfl) (aJ bY (aJ cF (aJ cF (aJ g8 (aJ bY (pv 0) ao) (aJ cF ao (aJ g8 ao (pv 1)))) (aJ g8 ao (pv 1))) ao) ao))
 (av (aN (aJ bY (aJ g8 (pv 2) (pv 2)) ao)))),?_⟩
 show (_:TS) (Ends.mk _ _ _ _) [_,_,_] H
 walk_at "start"
 walk_at "go"
 exact q _ (cW (by decide)).1 (cW (by decide)).2
def Fc:Sp:=λ vs H Q _=>∃ (n:Int),vs=[.int n] /\ ∀ c,Q (.int c) H
theorem BP(T:Txt w K mg):bN P w K mg base gJ 2 T.spread.f T.spread.d ["_law_number"] Fc:=by
 refine T.spread.F.ok jT (λ vs H Q E h=>?_) (λ cdv A outer s H vs Q E hr h=>?_)
 ·obtain ⟨n,rfl,_⟩:=h
  rfl
 obtain ⟨n,rfl,q⟩:=h
 refine ⟨_,(ak (aH (i:=1) jT.nd rfl (aq rfl) ao)
 (ak (eK b4 rfl (eY rfl T.iT (aa ao ai)) (bu (i:=2) jT.nd rfl (aq rfl))
 (av (aH (i:=1) jT.nd rfl (aq rfl) (aJ cF (aJ g8 (pv 1) ao) (aU T.mixed (qc T) hr (aa (pv 0) (aa (pv 2) ai)))))))
 (av (aN (pv 1))))),?_⟩
 show (_:TS) (Ends.mk _ _ _ _) [_,_,_] H
 walk_at "start"
 walk_at "go"
 refine GU (λ i σ' H'=>H'=H /\ ∃ (m:Int) (x:Option V),σ'=[some (.int n),some (.int m),x]) ?_ ?_ ?_
 ·exact ⟨rfl,_,_,rfl⟩
 ·rintro i σ' H' hi ⟨rfl,m,x,rfl⟩
  walk_at "go"
  refine ⟨n,_,rfl,λ c c0 c1=>?_⟩
  walk_at "go"
  exact ⟨rfl,_,_,rfl⟩
 ·rintro σ' H' ⟨rfl,m,x,rfl⟩
  walk_at "go"
  exact q _
theorem NR{n:Nat}{k:Int}(h0:0 <= k)(h:k < n):Gh n k=some k.toNat:=by
 unfold Gh
 rw [if_pos h0,if_pos h]
theorem ints_set(ms:List Int)(j:Nat)(v:Int):(ms.map V.int).set j (.int v)=(ms.set j v).map V.int:=by rw [List.map_set]
def NS(K:az):Sp:=λ vs H Q _=>∃ (a:Addr) (ns:List Int) (n:Nat),vs=[.ref a,.int n] /\ bK K H a (ns.map V.int) /\ ns.length <= 63 /\ 0 < n /\ n <= 1000 /\
 ∀ q H' (ks:List Int),aD H H'->H' q=some (.lst (ks.map V.int))->ks.length=n->Q (.ref q) H'
theorem yV(T:Txt w K mg):bN P w K mg base gJ 3 T.numbers.f T.numbers.d ["_law_script", "_law_many"] (NS K):=by
 refine T.numbers.F.ok gu (λ vs H Q E h=>?_) (λ cdv A outer s H vs Q E hr h=>?_)
 ·obtain ⟨a,ns,n,rfl,_⟩:=h
  rfl
 obtain ⟨a,ns,n,rfl,hS,hn,h0,h1,q⟩:=h
 refine ⟨_,(ak (cS (aI eL (aJ bY (aU T.fX (fj T) hr (aa (pv 0) (aa ao ai))) ao) ao (aY _))
 (av (aN (cI (bA.caps (x := "_law_k") (fr:=["_law_script"]) (ix:=[0]) (nm:=["_law_script"]) rfl rfl (by decide +kernel) rfl (by decide +kernel) rfl (by decide +kernel) ⟨rfl,trivial⟩ rfl (by decide +kernel) rfl ⟨⟨rfl,rfl,rfl⟩,trivial⟩) (eY rfl T.iT (aa (pv 1) ai)) (λ _ _ _ _=>cZ) (λ _ _ _ _=>(aU T.fX (fj T) hr (aa (pv 1) (aa (aJ cF ao (pv 0)) ai)))))))
 bC)
 (ak (kT (i:=2) gu.nd rfl (aq rfl) (bA.plain rfl (by decide +kernel) (by decide +kernel) rfl (by decide +kernel) rfl) (eY rfl T.iT (aa (pv 1) ai)) (λ _ _ _ _=>cZ) (λ _ _ _ _=>(aJ cF (aJ g8 ao (pv 0)) ao)))
 (ak (eK b4 rfl (nS rfl T.gP (aa (gk kO (pv 0) iL (iM ao)) ai)) (o9 (n:=2) rfl (bU (bu (i:=3) gu.nd rfl (aq rfl)) (bU (bu (i:=4) gu.nd rfl (aq rfl)) gG)))
 (ak (aH (i:=5) gu.nd rfl (aq rfl) (aJ cF (aJ g8 (cz gI (pv 2) (aJ bY (pv 3) (pv 1)) (λ _ _=>rfl)) ao) (aJ bY (pv 4) ao)))
 (av (CP (aJ bY (aJ cF (pv 5) (aJ g8 ao (pv 3))) ao) (Ll (pv 2) (aJ bY (pv 3) (pv 1)) set_list)))))
 (av (aN (cI (bA.plain rfl (by decide +kernel) (by decide +kernel) rfl (by decide +kernel) rfl) (b6 (pv 2)) (λ _ _ _ _=>cZ) (λ _ _ _ _=>(aU T.spread (BP T) hr (aa (pv 0) ai))))))))),?_⟩
 show (_:TS) (Ends.mk _ _ _ _) [_,_,_,_,_,_] H
 walk_at "start"
 walk_at "go"
 refine ⟨a,ns,0,rfl,hS,by decide,λ c=>?_⟩
 walk_at "go"
 ·refine jQ (λ i ys H'=>H'=H /\ ∃ ks:List Int,ys=ks.map V.int /\ ks.length=i) ⟨rfl,[],rfl,rfl⟩ ?_ ?_
  ·rintro i ys H' hi ⟨rfl,ks,rfl,hk⟩
   refine ⟨bP (by rw [au]; omega),?_⟩
   walk_at "go"
   refine ⟨a,ns,_,rfl,hS,by omega,λ c3=>?_⟩
   exact ⟨rfl,ks++[_],by rw [bD]; rfl,by simp [hk]⟩
  ·rintro ys H' ⟨rfl,ks,rfl,hk⟩ p H4 n4
   exact q p H4 ks n4.same n4.self (by omega)
 ·refine jQ (λ i ys H'=>H'=H /\ ∃ ks:List Int,ys=ks.map V.int /\ ks.length=i) ⟨rfl,[],rfl,rfl⟩ ?_ ?_
  ·rintro i ys H' hi ⟨rfl,ks,rfl,hk⟩
   refine ⟨bP (by rw [au]; omega),?_⟩
   walk_at "go"
   exact ⟨rfl,ks++[_],by rw [bD]; rfl,by simp [hk]⟩
  rintro ys H' ⟨rfl,ks,rfl,hk⟩ f H4 n4
  have hk:ks.length=n:=by omega
  walk_at "go"
  rename_i c5 H5 n5
  have NT:=fH (ns.map V.int) none (some 63)
  rw [au] at NT
  have hci:∃ ms:List Int,jv (ns.map V.int) none (some 63)=ms.map V.int:=⟨_,by unfold jv; rw [<- List.map_drop,<- List.map_take]⟩
  obtain ⟨ms,hms⟩:=hci
  rw [hms] at n5 NT ⊢
  rw [au] at NT
  have hne:c5 ≠ f:=λ e=>by
   have h1:=n5.1
   rw [e,n4.self] at h1
   cases h1
  refine yh (xs:=ms.map V.int) (λ i σ' H6=>aD H' H6 /\ H6 c5=some (.lst (ms.map V.int)) /\ ∃ (ks:List Int) (x y z:Option V),σ'=[some (.ref a),some (.int n),some (.ref f),x,y,z] /\ H6 f=some (.lst (ks.map V.int)) /\ ks.length=n) ?_ ?_ ?_ ?_
  ·exact ⟨n4.same.trans n5.same,n5.self,ks,_,_,_,rfl,n5.keep n4.self,hk⟩
  ·rintro i σ' H6 hi ⟨sm,hc,_⟩
   exact bK.of hc
  ·rintro i x p σ' H6 H7 hx ⟨sm,hc,ks,x1,y1,z1,rfl,hf,hk⟩ n7
   rw [bh] at hx
   obtain ⟨z,hz,rfl⟩:=cO.mp hx
   have Ku:=n7.keep hf
   have b:=cW (a:=(i:Int)) (b:=(n:Int)) (by omega)
   walk_at "go"
   obtain ⟨v,hv⟩:=tU (ns:=ks) (i:=(i:Int) % (n:Int)) b.1 (by omega)
   refine iy (bK.of Ku) hv ?_
   walk_at "go"
   refine DM Ku (NR b.1 (by rw [au]; omega)) ?_
   intro H8 p8
   rw [ints_set] at p8
   walk_at "go"
   exact ⟨p8.same (sm.trans n7.same) n4.1,p8.keep hne (n7.keep hc),_,_,_,_,rfl,p8.self,by rw [List.length_set]; exact hk⟩
  ·rintro σ' H6 ⟨sm,hc,ks,x1,y1,z1,rfl,hf,hk⟩
   walk_at "go"
   refine fP (xs:=ks.map V.int) (λ i ys H7=>H7=H6 /\ ∃ ks:List Int,ys=ks.map V.int /\ ks.length=i) ⟨rfl,[],rfl,rfl⟩ ?_ ?_ ?_
   ·rintro i ys H7 hi ⟨rfl,_⟩
    exact bK.of hf
   ·rintro i x ys H7 hx ⟨rfl,ls,rfl,hl⟩
    rw [bh] at hx
    obtain ⟨z,hz,rfl⟩:=cO.mp hx
    have hi:i < ks.length:=(eU hz).1
    refine ⟨bP (by rw [au]; omega),?_⟩
    walk_at "go"
    refine ⟨z,rfl,λ c=>?_⟩
    exact ⟨rfl,ls++[_],by rw [bD]; rfl,by simp [hl]⟩
   ·rintro ys H7 ⟨rfl,ls,rfl,hl⟩ p H8 n8
    exact q p H8 ls (sm.trans n8.same) n8.self (by rw [hl,au,hk])
def NU(K:az):Sp:=λ vs H Q _=>∃ (a:Addr) (ns:List Int) (m:Int),vs=[.ref a,.int m] /\ bK K H a (ns.map V.int) /\ 0 < m /\ m <= 1000 /\
 ∀ q H' (ks:List Int),aD H H'->H' q=some (.lst (ks.map V.int))->0 < ks.length->ks.length <= 1000->(∀ k∈ks,gR k)->Q (.ref q) H'
theorem Iu(T:Txt w K mg):bN P w K mg base gJ 2 T.pool.f T.pool.d ["_law_script", "_law_most"] (NU K):=by
 refine T.pool.F.ok tM (λ vs H Q E h=>?_) (λ cdv A outer s H vs Q E hr h=>?_)
 ·obtain ⟨a,ns,n,rfl,_⟩:=h
  rfl
 obtain ⟨a,ns,m,rfl,hS,h0,h1,q⟩:=h
 refine ⟨_,(ak (aH (i:=2) tM.nd rfl (bH rfl) (aU T.fX (fj T) hr (aa (pv 0) (aa ao ai))))
 (nP (cS (aI eL (aJ bY (aU T.fX (fj T) hr (aa (pv 0) (aa ao ai))) ao) ao (aY _))
 (av (aH (i:=2) tM.nd rfl (bH rfl) (aU T.mixed (qc T) hr (aa (pv 2) (aa ao ai)))))
 bC)
 (av (aN (cI (bA.caps (x := "_law_k") (fr:=["_law_cell"]) (ix:=[2]) (nm:=["_law_cell"]) rfl rfl (by decide +kernel) rfl (by decide +kernel) rfl (by decide +kernel) ⟨rfl,trivial⟩ rfl (by decide +kernel) rfl ⟨⟨rfl,rfl,rfl⟩,trivial⟩) (eY rfl T.iT (aa (aJ cF ao (aJ bY (pv 2) (pv 1))) ai)) (λ _ _ _ _=>cZ) (λ _ _ _ _=>(aJ bY (aJ cF (aJ gH (pv 1) ao) (aJ g8 ao (pv 0))) ao))))))),?_⟩
 show (_:TS) (Ends.mk _ _ _ _) [_,_,_] H
 walk_at "start"
 walk_at "go"
 refine ⟨a,ns,1,rfl,hS,by decide,λ c=>?_⟩
 walk_at "go"
 refine JU (λ σ' H'=>H'=H /\ ∃ c:Int,σ'=[some (.ref a),some (.int m),some (.int c)]) ?_ ?_
 ·walk_at "go"
  refine ⟨a,ns,0,rfl,hS,by decide,λ c0=>?_⟩
  walk_at "go"
  ·refine ⟨c,_,rfl,λ c2 _ _=>?_⟩
   walk_at "go"
   exact ⟨rfl,_,rfl⟩
  ·exact ⟨rfl,_,rfl⟩
 rintro _ H' ⟨rfl,c,rfl⟩
 have b:=cW (a:=c) h0
 walk_at "go"
 refine jQ (λ i ys H1=>H1=H' /\ ∃ ks:List Int,ys=ks.map V.int /\ ks.length=i /\ ∀ k∈ks,gR k) ⟨rfl,[],rfl,rfl,λ k h=>nomatch h⟩ ?_ ?_
 ·rintro i ys H1 hi ⟨rfl,ks,rfl,hk,hb⟩
  refine ⟨bP (by rw [au]; omega),?_⟩
  walk_at "go"
  refine ⟨rfl,ks++[_],by rw [bD]; rfl,by simp [hk],λ k h=>?_⟩
  rcases aK.mp h with h | h
  ·exact hb k h
  ·rw [aC.mp h]; exact cW (by decide)
 ·rintro ys H1 ⟨rfl,ks,rfl,hk,hb⟩ p H4 n4
  exact q p H4 ks n4.same n4.self (by omega) (by omega) hb
theorem NV(h0:0 <= s)(h1:s < 9):∃ ch,qF ("+-*/<=&|^" : Str).cps.toList s=some ch /\ (⟨#[ch]⟩:Str)∈signs:=by
 obtain ⟨ch,hch,WD⟩:=yU (xs:=("+-*/<=&|^" : Str).cps.toList) (i:=s) h0 (by show s < 9; omega)
 have all:∀ ch∈("+-*/<=&|^" : Str).cps.toList,(⟨#[ch]⟩:Str)∈signs:=by decide
 exact ⟨ch,hch,all ch WD⟩
def NW:Sp:=λ vs H Q _=>∃ (c p m y:Int),vs=[.int c,.int p,.int m,.int y] /\ 0 <= p /\ p < m /\ ∀ q,pZ m q->Q (.int q) H
theorem Ao(T:Txt w K mg):bN P w K mg base gJ 1 T.goes.f T.goes.d ["_law_cell", "_law_p", "_law_many", "_law_way"] NW:=by
 refine T.goes.F.ok Io (λ vs H Q E h=>?_) (λ cdv A outer s H vs Q E hr h=>?_)
 ·obtain ⟨c,p,m,y,rfl,_⟩:=h
  rfl
 obtain ⟨c,p,m,y,rfl,h0,h1,q⟩:=h
 refine ⟨_,(nP (cS (PW.pt (nc (aI eL (aJ cF (pv 1) ao) (pv 2) (aY _)) (mq (PW.pt (mw (aI eL (pv 3) ao (aY _)) (jL (aI eL (aJ bY (pv 0) ao) ao (aY _))))))))
 (av (aN (aJ bY (aJ gH (pv 0) ao) (pv 2))))
 bC)
 (kU (cS (PW.pt (mw (aI eL (pv 3) ao (aY _)) (jL (aI eL (aJ bY (pv 0) ao) ao (aY _)))))
 (av (aN (bg (yi rfl) rfl T.R3 BT.QX (aa (aJ sJ (pv 2) ao) (aa (aJ cF (aJ cF (pv 1) ao) (aJ bY (aJ gH (pv 0) ao) (pv 2))) ai)))))
 bC)
 (av (aN (aJ cF (pv 1) ao))))),?_⟩
 show (_:TS) (Ends.mk _ _ _ _) [_,_,_,_] H
 have b:=cW (a:=c / 4) (b:=m) (by omega)
 walk_at "start"
 refine JU (λ σ' H'=>H'=H /\ σ'=[some (.int c),some (.int p),some (.int m),some (.int y)] /\ p + 1 ≠ m) ?_ ?_
 ·walk_at "go"
  ·exact q _ b
  ·exact q _ b
  all_goals exact ⟨rfl,rfl,by assumption⟩
 ·rintro _ H' ⟨rfl,rfl,hne⟩
  walk_at "go"
  ·refine q _ ?_
   split <;> exact ⟨by omega,by omega⟩
  ·exact q _ ⟨by omega,by omega⟩
def NX(K:az):Sp:=λ vs H Q _=>∃ (c p m y:Int) (a:Addr) (ks:List Int),vs=[.int c,.int p,.int m,.ref a,.int y] /\ 0 <= p /\ p < m /\ m <= 1000 /\ H a=some (.lst (ks.map V.int)) /\ 0 < ks.length /\ ks.length <= 1000 /\ (∀ k∈ks,gR k) /\ ∀ q H' r,aD H H'->H' q=some (.tup (Row.vals r))->r.ok m->Q (.ref q) H'
theorem NY(T:Txt w K mg):bN P w K mg base gJ 2 T.row.f T.row.d ["_law_cell", "_law_p", "_law_many", "_law_pool_here", "_law_way"] (NX K):=by
 refine T.row.F.ok iR (λ vs H Q E h=>?_) (λ cdv A outer s H vs Q E hr h=>?_)
 ·obtain ⟨c,p,m,y,a,ks,rfl,_⟩:=h
  rfl
 obtain ⟨c,p,m,y,a,ks,rfl,h0,h1,hm,ha,hk0,hk1,hb,q⟩:=h
 refine ⟨_,(ak (aH (i:=5) iR.nd rfl (aq rfl) (aJ bY (pv 0) ao))
 (ak (aH (i:=6) iR.nd rfl (aq rfl) (cz d8 (c9 (aa ao (aa ao (aa ao (aa ao ai))))) (aJ bY (aJ gH (pv 0) ao) ao) (λ _ _=>rfl)))
 (ak (aH (i:=7) iR.nd rfl (bH rfl) (aJ gH (pv 0) ao))
 (ak (CP (cI (bA.caps (x := "_law_x") (fr:=["_law_pool_here", "_law_rest"]) (ix:=[3,7]) (nm:=["_law_rest", "_law_pool_here"]) rfl rfl (by decide +kernel) rfl (by decide +kernel) rfl (by decide +kernel) ⟨rfl,⟨rfl,trivial⟩⟩ rfl (by decide +kernel) rfl ⟨⟨rfl,rfl,rfl⟩,⟨⟨rfl,rfl,rfl⟩,trivial⟩⟩) (eY rfl T.iT (aa ao ai)) (λ _ _ _ _=>cZ) (λ _ _ _ _=>(cz (jy (K:=K) rfl) (pv 1) (aJ bY (aJ bY (aJ uJ (pv 2) (cz (sV (K:=K) rfl) (c9 (aa ao (aa ao (aa ao ai)))) (pv 0) (λ _ _=>rfl))) ao) (bg (pH (K:=K) rfl) rfl T.gQ BT.gK (aa (pv 1) ai))) (λ _ _=>rfl)))) (LY rfl (bU (bu (i:=8) iR.nd rfl (aq rfl)) (bU (bu (i:=9) iR.nd rfl (aq rfl)) (bU (bu (i:=10) iR.nd rfl (aq rfl)) gG)))))
 (ak (aH (i:=11) iR.nd rfl (aq rfl) (aU T.goes (Ao T) hr (aa (aJ gH (pv 7) ao) (aa (pv 1) (aa (pv 2) (aa (pv 4) ai))))))
 (ak (aH (i:=12) iR.nd rfl (aq rfl) (aJ uJ (pv 7) (aJ g8 ao ao)))
 (kU (cS (PW.pt (nc (aI eL (pv 5) ao (aY _)) (mq (PW.pt (mw (aI iZ (pv 4) ao (aY _)) (jL (aI eL (aJ cF (pv 1) ao) (pv 2) (aY _))))))))
 (av (aN (c9 (aa cP (aa (pv 9) ai)))))
 bC)
 (ak (cS (aI iZ (pv 5) ao (aY _))
 (av (aN (c9 (aa cP (aa (pv 6) (aa (pv 8) (aa (aJ bY (pv 12) (aJ Lv ao ao)) (aa (pv 11) ai))))))))
 bC)
 (ak (cS (aI iZ (pv 5) ao (aY _))
 (av (aN (c9 (aa cP (aa (pv 6) (aa (pv 8) (aa (pv 9) (aa (pv 11) ai))))))))
 bC)
 (ak (cS (aI iZ (pv 5) ao (aY _))
 (av (aN (c9 (aa cP (aa (pv 6) (aa (cz LK cP (aJ bY (pv 12) ao) (λ _ _=>rfl)) (aa (pv 8) (aa (pv 9) (aa (pv 10) (aa (pv 11) ai))))))))))
 bC)
 (ak (cS (aI iZ (pv 5) ao (aY _))
 (av (aN (c9 (aa cP (aa (pv 9) (aa (pv 11) ai))))))
 bC)
 (ak (cS (aI iZ (pv 5) ao (aY _))
 (av (aN (c9 (aa cP (aa (pv 9) (aa (pv 11) (aa (aU T.goes (Ao T) hr (aa (pv 12) (aa (pv 1) (aa (pv 2) (aa (pv 4) ai))))) ai)))))))
 bC)
 (ak (cS (aI iZ (pv 5) ao (aY _))
 (av (aN (c9 (aa cP (aa (pv 9) (aa (pv 11) ai))))))
 bC)
 (av (aN (c9 (aa cP (aa (pv 11) ai)))))))))))))))))),?_⟩
 have Iv:(ks.map V.int).length=ks.length:=au _
 show (_:TS) (Ends.mk _ _ _ _) [_,_,_,_,_,_,_,_,_,_,_,_,_] H
 walk_at "start"
 walk_at "go"
 rename_i t1 H1 n1
 have bs:=cW (a:=c / 24) (b:=4) (by decide)
 obtain ⟨d,hd,md⟩:=vW (ns:=[2,2,0,1]) (i:=c / 24 % 4) bs.1 (by show _ < (4:Int); exact bs.2)
 have sd:tV d:=by
  simp only [aG,eF,or_false] at md
  rcases md with rfl | rfl | rfl | rfl <;> exact ⟨by decide,by decide⟩
 refine uG (fF.of n1.self) hd ?_
 walk_at "go"
 refine jQ (λ i ys H'=>aD H1 H' /\ ∃ ls:List Int,ys=ls.map V.int /\ ls.length=i /\ ∀ k∈ls,gR k) ⟨aD.refl _,[],rfl,rfl,λ k h=>nomatch h⟩ ?_ ?_
 ·rintro i ys H' hi ⟨sm,ls,rfl,hl,hlb⟩
  have hi:i < 3:=by omega
  refine ⟨bP (by rw [au]; omega),?_⟩
  have ha':=sm _ _ (n1.keep ha)
  walk_at "go"
  rename_i t2 H2 n2
  have ha2:=n2.keep ha'
  have b3:∃ g:Int,qF [V.int 1,V.int 8,V.int 64] (0 + ((i:Nat):Int))=some (.int g) /\ 0 < g /\ g <= 64:=by
   rcases i with _ | _ | _ | i
   ·exact ⟨1,rfl,by decide,by decide⟩
   ·exact ⟨8,rfl,by decide,by decide⟩
   ·exact ⟨64,rfl,by decide,by decide⟩
   ·omega
  obtain ⟨g,hg,g0,g1⟩:=b3
  refine uG (fF.of n2.self) hg ?_
  walk_at "go"
  rw [Iv]
  have bb:=cW (a:=c / 96 / g % 8) (b:=(ks.length:Int)) (by omega)
  obtain ⟨v,hv,mv⟩:=vW (ns:=ks) (i:=c / 96 / g % 8 % (ks.length:Int)) bb.1 bb.2
  refine iy (bK.of ha2) hv ?_
  refine ⟨sm.trans n2.same,ls++[v],by rw [bD]; rfl,by simp [hl],λ k h=>?_⟩
  rcases aK.mp h with h | h
  ·exact hlb k h
  ·rw [aC.mp h]; exact hb v mv
 rintro ys H2 ⟨s2,ls,rfl,hl,hlb⟩ l H3 n3
 have hl3:ls.length=3:=by omega
 match ls,hl3 with
 | [k,i,j],_ =>
 have bk:=hlb k (by simp)
 have bi:=hlb i (by simp)
 have bj:=hlb j (by simp)
 have s3:aD H H3:=(n1.same.trans s2).trans n3.same
 replace n3:eB H2 l (.lst [.int k,.int i,.int j]) H3:=n3
 walk_at "go"
 refine ⟨_,p,m,y,rfl,h0,h1,λ q1 hq1=>?_⟩
 have bv:isVal ((c / 96 / (512 * 256)) % 2 ^ (48:Int).toNat):=cW (by decide)
 have b9:=cW (a:=c / 96 / (512 * 256)) (b:=9) (by decide)
 obtain ⟨ch,hch,WD⟩:=NV b9.1 b9.2
 clear n1 s2 n3
 walk_at "go"
 all_goals first
  | (rename_i t4 H4 n4; exact q t4 H4 (.back i) (s3.trans n4.same) n4.self bi)
  | (rename_i t4 H4 n4; exact q t4 H4 (.num d k _ q1) (s3.trans n4.same) n4.self ⟨sd,bk,bv,hq1⟩)
  | (rename_i t4 H4 n4; exact q t4 H4 (.copy d k i q1) (s3.trans n4.same) n4.self ⟨sd,bk,bi,hq1⟩)
  | (rename_i t4 H4 n4; exact q t4 H4 (.out i q1) (s3.trans n4.same) n4.self ⟨bi,hq1⟩)
  | (rename_i t4 H4 n4; exact q t4 H4 (.look i q1) (s3.trans n4.same) n4.self ⟨bi,hq1⟩)
  | (rename_i t4 H4 n4; exact q t4 H4 (.mark q1) (s3.trans n4.same) n4.self hq1)
  | skip
 ·refine JV (by decide) hch ?_
  walk_at "go"
  rename_i t4 H4 n4
  exact q t4 H4 (.op d ⟨#[ch]⟩ k i j q1) (s3.trans n4.same) n4.self ⟨sd,WD,bk,bi,bj,hq1⟩
 ·refine ⟨_,p,m,y,rfl,h0,h1,λ q2 hq2=>?_⟩
  walk_at "go"
  rename_i t4 H4 n4
  exact q t4 H4 (.fork i q1 q2) (s3.trans n4.same) n4.self ⟨bi,hq1,hq2⟩
def Iw(K:az):Sp:=λ vs H Q _=>∃ (a:Addr) (ns:List Int) (n:Nat) (y:Int),vs=[.ref a,.int n,.int y] /\ bK K H a (ns.map V.int) /\ ns.length <= 63 /\ 0 < n /\ n <= 1000 /\
 ∀ q H' us rs,aD H H'->H' q=some (.lst us)->Rows H' us rs->rs.length=n->(∀ r∈rs,Row.ok n r)->Q (.ref q) H'
theorem Iz(T:Txt w K mg):bN P w K mg base gJ 4 T.code.f T.code.d ["_law_script", "_law_many", "_law_way"] (Iw K):=by
 refine T.code.F.ok tN (λ vs H Q E h=>?_) (λ cdv A outer s H vs Q E hr h=>?_)
 ·obtain ⟨a,ns,n,y,rfl,_⟩:=h
  rfl
 obtain ⟨a,ns,n,y,rfl,hS,hn,h0,h1,q⟩:=h
 refine ⟨_,(ak (aH (i:=3) tN.nd rfl (bH rfl) (aU T.pool (Iu T) hr (aa (pv 0) (aa ao ai))))
 (ak (aH (i:=4) tN.nd rfl (bH rfl) (aU T.numbers (yV T) hr (aa (pv 0) (aa (pv 1) ai))))
 (av (aN (cI (bA.caps (x := "_law_p") (fr:=["_law_many", "_law_way", "_law_pool_here", "_law_numbers_here"]) (ix:=[1,2,3,4]) (nm:=["_law_way", "_law_pool_here", "_law_numbers_here", "_law_many"]) rfl rfl (by decide +kernel) rfl (by decide +kernel) rfl (by decide +kernel) ⟨rfl,⟨rfl,⟨rfl,⟨rfl,trivial⟩⟩⟩⟩ rfl (by decide +kernel) rfl ⟨⟨rfl,rfl,rfl⟩,⟨⟨rfl,rfl,rfl⟩,⟨⟨rfl,rfl,rfl⟩,⟨⟨rfl,rfl,rfl⟩,trivial⟩⟩⟩⟩) (eY rfl T.iT (aa (pv 1) ai)) (λ _ _ _ _=>cZ) (λ _ _ _ _=>(aU T.row (NY T) hr (aa (cz (jy (K:=K) rfl) (pv 4) (pv 0) (λ _ _=>rfl)) (aa (pv 0) (aa (pv 1) (aa (pv 3) (aa (pv 2) ai)))))))))))),?_⟩
 show (_:TS) (Ends.mk _ _ _ _) [_,_,_,_,_] H
 walk_at "start"
 walk_at "go"
 refine ⟨a,ns,8,rfl,hS,by decide,by decide,λ p H1 ks s1 hp hk0 hk1 hkb=>?_⟩
 walk_at "go"
 refine ⟨a,ns,n,rfl,s1.seq hS,hn,h0,h1,λ c H2 cs s2 hc hcl=>?_⟩
 have hp2:=s2 _ _ hp
 walk_at "go"
 refine jQ (λ i ys H'=>aD H2 H' /\ ∃ rs:List Row,Rows H' ys rs /\ rs.length=i /\ ∀ r∈rs,r.ok n) ⟨aD.refl _,[],.nil,rfl,λ r h=>nomatch h⟩ ?_ ?_
 ·rintro i ys H' hi ⟨sm,rs,hrs,hlen,hok⟩
  have hi:i < n:=by omega
  refine ⟨bP (by rw [hrs.length]; omega),?_⟩
  walk_at "go"
  obtain ⟨v,hv⟩:=tU (ns:=cs) (i:=0 + ((i:Nat):Int)) (by omega) (by omega)
  refine iy (bK.of (sm _ _ hc)) hv ?_
  walk_at "go"
  refine ⟨v,_,_,_,p,ks,rfl,by omega,by omega,by omega,sm _ _ hp2,hk0,hk1,hkb,λ t H3 r s3 ht hr=>?_⟩
  refine ⟨sm.trans s3,rs++[r],cC (hrs.same s3) ⟨t,rfl,ht⟩,by simp [hlen],λ r' h=>?_⟩
  rcases aK.mp h with h | h
  ·exact hok r' h
  ·rw [aC.mp h]; exact hr
 ·rintro ys H' ⟨sm,rs,hrs,hlen,hok⟩ g H3 n3
  exact q g H3 ys rs (((s1.trans s2).trans sm).trans n3.same) n3.self (hrs.same n3.same) (by omega) hok
def picks(part:Str)(xs:List Str)(ys:List V):List V:=((xs.zip ys).filter λ x=>decide (x.1=part)).map (·.2)
theorem yW{part x:Str}{y:V}{xs:List Str}{ys:List V}(hx:xs[i]? = some x)(hy:ys[i]? = some y):picks part (xs.take (i + 1)) (ys.take (i + 1))=picks part (xs.take i) (ys.take i)++if x=part then [y] else []:=by
 have h1:i < xs.length:=(eU hx).1
 have h2:i < ys.length:=(eU hy).1
 unfold picks
 rw [bS,bS,hx,hy,List.zip_append (by rw [bQ,bQ]; omega),iH,bD]
 congr 1
 by_cases e:x=part
 ·simp [e]
 ·simp [e]
theorem vX(r:Row):picks "place" r.parts r.rest=r.ways.map V.int:=by cases r <;> rfl
theorem Aq(r:Row):r.rest.length=r.parts.length:=by cases r <;> rfl
theorem rS(r:Row):r.rest.length <= 6:=by cases r <;> simp [Row.rest]
theorem R4(x:V)(xs:List V):jv (x :: xs) (some 1) none=xs:=by
 unfold jv
 have e:HT.dP (x :: xs).length 0 (some 1)=1:=by
  rw [show (some (1:Int))=some ((1:Nat):Int) from rfl,HT.sL]
  simp
 rw [e,HT.C5]
 simp
theorem vY(T:Txt w K mg)(r:Row):∃ p,iw [(.inr "num", .ref T.dF.lD),(.inr "copy", .ref T.dF.lE),(.inr "op", .ref T.dF.lF),(.inr "out", .ref T.dF.lG),(.inr "fork", .ref T.dF.lH),(.inr "look", .ref T.dF.lI),(.inr "mark", .ref T.dF.lJ),(.inr "back", .ref T.dF.lK)] (.inr r.key:Key)=some (V.ref p) /\ e8 K p (r.parts.map V.str):=by
 cases r
 ·exact ⟨_,rfl,T.dF.vM⟩
 ·exact ⟨_,rfl,T.dF.vN⟩
 ·exact ⟨_,rfl,T.dF.vO⟩
 ·exact ⟨_,rfl,T.dF.vP⟩
 ·exact ⟨_,rfl,T.dF.vQ⟩
 ·exact ⟨_,rfl,T.dF.vR⟩
 ·exact ⟨_,rfl,T.dF.vS⟩
 ·exact ⟨_,rfl,T.dF.vU⟩
def BQ(K:az):Sp:=λ vs H Q _=>∃ (a:Addr) (r:Row) (part:Str),vs=[.ref a,.str part] /\ H a=some (.tup r.vals) /\ ∀ p H',aD H H'->H p=none->H' p=some (.lst (picks part r.parts r.rest))->Q (.ref p) H'
theorem ie(T:Txt w K mg):bN P w K mg base gJ 1 T.fh.f T.fh.d ["row", "part"] (BQ K):=by
 refine T.fh.F.ok qP (λ vs H Q E h=>?_) (λ cdv A outer s H vs Q E hr h=>?_)
 ·obtain ⟨a,r,part,rfl,_⟩:=h
  rfl
 obtain ⟨a,r,part,rfl,ha,q⟩:=h
 refine ⟨_,(av (aN (DO (gM.of (xs:=["own", "number"]) (bA.caps (x := "own") (fr:=["part"]) (ix:=[1]) (nm:=["part"]) rfl rfl (by decide +kernel) rfl (by decide +kernel) rfl (by decide +kernel) ⟨rfl,trivial⟩ rfl (by decide +kernel) rfl ⟨⟨rfl,rfl,rfl⟩,trivial⟩) (by decide +kernel)) (yg rfl T.E8 (aa (uO T.dF.tP (eG (v:=.ref T.dF.lC) rfl T.dF.tO rfl) (cz d8 (pv 0) ao (λ _ _=>rfl)) (λ _ _=>rfl)) (aa (gk C7 (pv 0) (iM ao) iL) ai))) (λ _ _ _ _=>(sW (K:=K) rfl (n:=2) rfl (bU (bu (i:=0) (show (["own", "number", "part"]:List Str).Nodup from by decide +kernel) rfl (aq rfl)) (bU (bu (i:=1) (show (["own", "number", "part"]:List Str).Nodup from by decide +kernel) rfl (aq rfl)) gG)))) (λ _ _ _ _=>(mH (aI eL (pv 0) (pv 2) (aY _)))) (λ _ _ _ _=>(pv 1))))),?_⟩
 obtain ⟨pp,hpp,cp⟩:=vY T r
 show (_:TS) (Ends.mk _ _ _ _) [_,_] H
 walk_at "start"
 walk_at "go"
 refine MS hpp ?_
 walk_at "go"
 rename_i t H1 n1
 have et:jv r.vals (some 1) none=r.rest:=R4 _ _
 rw [et] at n1 ⊢
 have hlen:=Aq r
 have hsm:=rS r
 refine DT (λ i zs τ H'=>aD H1 H' /\ zs=picks part (r.parts.take i) (r.rest.take i) /\ ∃ x y,τ=[x,y,some (.str part)]) ?_ ?_ ?_ ?_ ?_
 ·exact ⟨aD.refl _,by simp [picks],_,_,rfl⟩
 ·rintro i zs τ H' hi ⟨sm,rfl,x,y,rfl⟩
  refine ⟨e8.sq cp,fF.of (sm _ _ n1.self),?_⟩
  unfold picks
  rw [au]
  refine bq (gZ _ _) ?_
  rw [List.length_zip,bQ]
  omega
 ·rw [au]; omega
 ·rintro i x y p zs τ H' H2 hx hy ⟨sm,rfl,x0,y0,rfl⟩ n2
  rw [bh] at hx
  obtain ⟨x',hx',rfl⟩:=cO.mp hx
  have e:=yW (part:=part) hx' hy
  walk_at "go"
  ·rename_i he
   rw [if_pos he] at e
   exact ⟨by walk_at "same", e.symm,_,_,rfl⟩
  ·rename_i he
   rw [if_neg he,dY] at e
   exact ⟨by walk_at "same", e.symm,_,_,rfl⟩
 ·rintro zs τ H' ⟨sm,rfl,x,y,rfl⟩ p H2 n2
  refine q p H2 (by walk_at "same") (by walk_at "free") ?_
  rw [n2.self,au,hlen,Nat.min_self,ck,<- hlen,ck]
def NZ(K:az):Sp:=λ vs H Q _=>∃ (a:Addr) (r:Row),vs=[.ref a] /\ H a=some (.tup r.vals) /\ ∀ p H',aD H H'->H p=none->H' p=some (.lst (r.ways.map V.int))->Q (.ref p) H'
theorem qd(T:Txt w K mg):bN P w K mg base gJ 2 T.lM.f T.lM.d ["row"] (NZ K):=by
 refine T.lM.F.ok yR (λ vs H Q E h=>?_) (λ cdv A outer s H vs Q E hr h=>?_)
 ·obtain ⟨a,r,rfl,_⟩:=h
  rfl
 obtain ⟨a,r,rfl,ha,q⟩:=h
 refine ⟨_,(av (aN (aU T.fh (ie T) hr (aa (pv 0) (aa cP ai))))),?_⟩
 show (_:TS) (Ends.mk _ _ _ _) [_] H
 walk_at "start"
 walk_at "go"
 refine ⟨a,r, "place", rfl,ha,λ p H' sm hp e=>?_⟩
 rw [vX] at e
 exact q p H' sm hp e
end
def Row.i8(f:Int->Int):Row->Row
 | .num d k v q=>.num d k v (f q) | .copy d k i q=>.copy d k i (f q) | .op d s k i j q=>.op d s k i j (f q) | .out i q=>.out i (f q) | .fork i q p=>.fork i (f q) (f p) | .look i q=>.look i (f q) | .mark q=>.mark (f q) | .back i=>.back i
theorem Row.BR(f:Int->Int)(r:Row):(r.i8 f).key=r.key:=by cases r <;> rfl
theorem Row.BS(f:Int->Int)(r:Row):(r.i8 f).rest.length=r.rest.length:=by cases r <;> rfl
theorem BU(f:Int->Int)(r:Row):∀ (i:Nat) (x:Str) (y:V),r.parts[i]? = some x->r.rest[i]? = some y->(x = "place" /\ ∃ z∈r.ways,y=.int z /\ (r.i8 f).rest[i]? = some (.int (f z))) \/ (x ≠ "place" /\ (r.i8 f).rest[i]? = some y):=by
 intro i x y hx hy
 cases r <;> rcases i with _ | _ | _ | _ | _ | _ | i <;> simp only [Row.parts,Row.rest,List.getElem?_cons_zero,List.getElem?_cons_succ,List.getElem?_nil,Option.some.injEq,reduceCtorEq] at hx hy
 all_goals subst hx hy
 all_goals first
  | exact .inl ⟨rfl,_,by simp [Row.ways],rfl,rfl⟩
  | exact .inr ⟨by decide,rfl⟩
theorem IA{Q:VK}{te:TE}{us:List V}{τ:L2.St}(f:Row->Row)(hS:bK K H a us)(hrs:Rows H us rs)(hz:us.length <= 100000)
  (he:∀ r∈rs,∀ ra H1,aD H H1->H1 ra=some (.tup (Row.vals r))->∀ Q:VK,(∀ t H2,aD H1 H2->H2 t=some (.tup (f r).vals)->Q (.ref t) H2)->te (some (.ref ra) :: τ) H1 Q)
  (h:∀ us' p H1 H',aD H H1->eB H1 p (.lst us') H'->Rows H' us' (rs.map f)->Q (.ref p) H'):DN (Gg K a) LV te τ Q H:=by
 have CH:=hrs.length
 refine fP (xs:=us) (λ i ys H'=>aD H H' /\ Rows H' ys ((rs.take i).map f)) ⟨aD.refl _,.nil⟩ ?_ ?_ ?_
 ·rintro i ys H' hi ⟨sm,_⟩
  exact sm.seq hS
 ·rintro i x ys H' hx ⟨sm,hys⟩
  have hi:i < us.length:=(eU hx).1
  refine ⟨bP (by rw [hys.length,au,bQ]; omega),?_⟩
  refine J3 (LR ?_)
  obtain ⟨r,hr',⟨ra,rfl,N1⟩⟩:=aW hrs hx
  refine he r (fL hr') ra H' sm (sm _ _ N1) _ λ t H2 s2 ht=>⟨sm.trans s2,?_⟩
  rw [bS,hr',bD]
  exact cC (Rows.same s2 hys) ⟨t,rfl,ht⟩
 ·rintro ys H' ⟨sm,hys⟩ p H2 n2
  rw [CH,ck] at hys
  exact h ys p H' H2 sm n2 (hys.same n2.same)
section
variable {P:Program}{w:World}{K:az}{mg:Str->Option Value}{base:Heap}
def yX(K:az):Sp:=λ vs H Q _=>∃ (a m:Addr) (r:Row) (us:List V) (f:Int->Int),vs=[.ref a,.ref m] /\ H a=some (.tup r.vals) /\ H m=some (.lst us) /\ (∀ z∈r.ways,qF us z=some (.int (f z))) /\ ∀ t H',aD H H'->H' t=some (.tup (r.i8 f).vals)->Q (.ref t) H'
theorem tW(T:Txt w K mg):bN P w K mg base gJ 1 T.jU.f T.jU.d ["row", "moved"] (yX K):=by
 refine T.jU.F.ok lB (λ vs H Q E h=>?_) (λ cdv A outer s H vs Q E hr h=>?_)
 ·obtain ⟨a,m,r,us,f,rfl,_⟩:=h
  rfl
 obtain ⟨a,m,r,us,f,rfl,ha,hm,hf,q⟩:=h
 refine ⟨_,(ak (uP (i:=2) lB.nd rfl (aq rfl) (gM.of (xs:=["part", "number"]) (bA.caps (x := "part") (fr:=["moved"]) (ix:=[1]) (nm:=["moved"]) rfl rfl (by decide +kernel) rfl (by decide +kernel) rfl (by decide +kernel) ⟨rfl,trivial⟩ rfl (by decide +kernel) rfl ⟨⟨rfl,rfl,rfl⟩,trivial⟩) (by decide +kernel)) (yg rfl T.E8 (aa (uO T.dF.tP (eG (v:=.ref T.dF.lC) rfl T.dF.tO rfl) (cz d8 (pv 0) ao (λ _ _=>rfl)) (λ _ _=>rfl)) (aa (gk C7 (pv 0) (iM ao) iL) ai))) (λ _ _ _ _=>(sW (K:=K) rfl (n:=2) rfl (bU (bu (i:=0) (show (["part", "number", "moved"]:List Str).Nodup from by decide +kernel) rfl (aq rfl)) (bU (bu (i:=1) (show (["part", "number", "moved"]:List Str).Nodup from by decide +kernel) rfl (aq rfl)) gG)))) (λ _ _ _ _=>cZ) (λ _ _ _ _=>(fE (aI eL (pv 0) cP (aY _)) (cz (jy (K:=K) rfl) (pv 2) (pv 1) (λ _ _=>rfl)) (pv 1))))
 (av (aN (fY Bb rfl T.Ip BT.GP (aa (aJ xV (eZ (aa (cz d8 (pv 0) ao (λ _ _=>rfl)) ai)) (pv 2)) ai))))),?_⟩
 obtain ⟨pp,hpp,cp⟩:=vY T r
 show (_:TS) (Ends.mk _ _ _ _) [_,_,_] H
 walk_at "start"
 walk_at "go"
 refine MS hpp ?_
 walk_at "go"
 rename_i t H3 n3
 have et:jv r.vals (some 1) none=r.rest:=R4 _ _
 rw [et] at n3 ⊢
 have hlen:=Aq r
 have hsm:=rS r
 have hml:=Row.BS f r
 have hm3:=n3.keep hm
 refine DT (λ i zs τ H'=>aD H3 H' /\ zs=(r.i8 f).rest.take i /\ ∃ x y,τ=[x,y,some (.ref m)]) ?_ ?_ ?_ ?_ ?_
 ·exact ⟨aD.refl _,rfl,_,_,rfl⟩
 ·rintro i zs τ H' hi ⟨sm,rfl,x,y,rfl⟩
  refine ⟨e8.sq cp,fF.of (sm _ _ n3.self),?_⟩
  rw [bQ]
  omega
 ·rw [au]; omega
 ·rintro i x y p zs τ H' H4 hx hy ⟨sm,rfl,x0,y0,rfl⟩ n4
  rw [bh] at hx
  obtain ⟨x',hx',rfl⟩:=cO.mp hx
  have hm4:H4 m=some (.lst us):=n4.keep (sm _ _ hm3)
  rcases BU f r i x' y hx' hy with ⟨rfl,z,hz,rfl,e⟩ | ⟨hne,e⟩
  ·walk_at "go"
   refine iy (bK.of hm4) (hf z hz) ?_
   refine ⟨sm.trans n4.same,?_,_,_,rfl⟩
   rw [bS,e]
   rfl
  ·walk_at "go"
   refine ⟨sm.trans n4.same,?_,_,_,rfl⟩
   rw [bS,e]
   rfl
 ·rintro zs τ H' ⟨sm,rfl,x,y,rfl⟩ p H4 n4
  rw [au,hlen,Nat.min_self,<- hlen,<- hml,ck] at n4
  have ha4:H4 a=some (.tup r.vals):=n4.keep (sm _ _ (n3.keep ha))
  walk_at "go"
  rename_i l5 H5 n5 l6 H6 n6 l7 H7 n7
  refine q _ _ ((((n3.same.trans sm).trans n4.same).trans n5.same).trans (n6.same.trans n7.same)) ?_
  rw [n7.self]
  show _=some (HO.tup (.str (r.i8 f).key :: (r.i8 f).rest))
  rw [Row.BR]
  rfl
end
def Row.qe:Row->List Int
 | .num _ k _ _=>[k] | .copy _ k i _=>[k,i] | .op _ _ k i j _=>[k,i,j] | .out i _=>[i] | .fork i _ _=>[i] | .look i _=>[i] | .mark _=>[] | .back i=>[i]
def Row.j5:Row->Bool
 | .num ..=>true | .copy ..=>true | .op ..=>true | _=>false
def Row.sd:Row->Int
 | .num d _ _ _=>d | .copy d _ _ _=>d | .op d _ _ _ _ _=>d | _=>2
theorem rT(r:Row):picks "box" r.parts r.rest=r.qe.map V.int:=by cases r <;> rfl
theorem jE(h:r.ok n):∀ b∈r.qe,0 <= b /\ b < 8:=by
 cases r <;> simp only [Row.ok] at h <;> simp only [Row.qe,aG,eF,or_false] <;> intro b hb
 ·rw [hb]; exact h.2.1
 ·rcases hb with e | e <;> rw [e]
  ·exact h.2.1
  ·exact h.2.2.1
 ·rcases hb with e | e | e <;> rw [e]
  ·exact h.2.2.1
  ·exact h.2.2.2.1
  ·exact h.2.2.2.2.1
 ·rw [hb]; exact h.1
 ·rw [hb]; exact h.1
 ·rw [hb]; exact h.1
 ·exact hb.elim
 ·rw [hb]; exact h
theorem IB(r:Row):r.qe.length <= 3:=by cases r <;> simp [Row.qe]
abbrev br(H:Hp):List V->List (Int × Int)->Prop:=Paired λ v p=>∃ a,v=.ref a /\ H a=some (.tup [.int p.1,.int p.2])
theorem br.same(e:aD H H')(h:br H vs ps):br H' vs ps:=cH (λ _ _ ⟨a,h1,h2⟩=>⟨a,h1,e _ _ h2⟩) h
theorem br.lP(e:fJ H H')(h:br H vs ps):br H' vs ps:=cH (λ _ _ ⟨a,h1,h2⟩=>⟨a,h1,e _ _ h2⟩) h
def eS(r:Row)(s:Int):Bool:=!r.j5 || decide (r.sd=s) || decide (r.sd=2)
def iV(r:Row)(bs:List Int):List (Int × Int):=[0,1].flatMap λ s=>if eS r s then (SN.dB bs).map λ b=>(s,b) else []
theorem tX(r:Row):uu (.str r.key) [.str "num", .str "copy", .str "op"]=r.j5:=by
 have k:∀ x∈(["num", "copy", "op"]:List Str),uu (.str x) [.str "num", .str "copy", .str "op"]=true:=by decide +kernel
 have n:∀ x∈(["out", "fork", "look", "mark", "back"]:List Str),uu (.str x) [.str "num", .str "copy", .str "op"]=false:=by decide +kernel
 cases r <;> first | exact k _ (by simp [Row.key]) | exact n _ (by simp [Row.key])
theorem IC(h:r.j5=true):qF r.vals 1=some (.int r.sd):=by cases r <;> first | rfl | cases h
theorem ID(d s:Int):uu (.int d) [.int s,.int 2]=(decide (d=s) || decide (d=2)):=by
 simp only [uu,gU,List.any_nil,Bool.or_false,GJ]
 rw [show (s == d)=decide (d=s) from by rw [Bool.beq_comm]; rfl,show ((2:Int) == d)=decide (d=2) from by rw [Bool.beq_comm]; rfl]
theorem yY(r:Row)(bs:List Int)(h:([0,1]:List Int)[i]? = some s):(([0,1]:List Int).take (i + 1)).flatMap (λ s=>if eS r s then (SN.dB bs).map λ b=>(s,b) else [])=(([0,1]:List Int).take i).flatMap (λ s=>if eS r s then (SN.dB bs).map λ b=>(s,b) else [])++if eS r s then (SN.dB bs).map λ b=>(s,b) else []:=by
 rw [bS,h,List.flatMap_append]
 simp
theorem jX(ns:List Int):(SN.dB ns).length <= 8:=by
 unfold SN.dB
 rw [au]
 exact bq (gZ ..) (by simp)
theorem gw{α β:Type}{F:α->β->Prop}:∀ {xs:List α} {ys:List β} {xs':List α} {ys':List β},Paired F xs ys->Paired F xs' ys'->Paired F (xs++xs') (ys++ys')
 | _,_,_,_,.nil,h=>h
 | _,_,_,_,.cons a t,h=>.cons a (gw t h)
section
variable {P:Program}{w:World}{K:az}{mg:Str->Option Value}{base:Heap}
def Ar:Sp:=λ vs H Q _=>∃ (a b:Addr) (r:Row) (bs:List Int),vs=[.ref a,.ref b] /\ H a=some (.tup r.vals) /\ H b=some (.lst (bs.map V.int)) /\ (∀ n∈bs,0 <= n /\ n < 8) /\ bs.length <= 3 /\
 ∀ (l:Addr) (us:List V) (H':Hp),aD H H'->H l=none->H' l=some (.lst us)->br H' us (iV r bs)->Q (.ref l) H'
theorem vZ(T:Txt w K mg):bN P w K mg base gJ 1 T.vV.f T.vV.d ["row", "boxes"] Ar:=by
 refine T.vV.F.ok pV (λ vs H Q E h=>?_) (λ cdv A outer s H vs Q E hr h=>?_)
 ·obtain ⟨a,b,r,bs,rfl,_⟩:=h
  rfl
 obtain ⟨a,b,r,bs,rfl,ha,hb,Kv,R5,q⟩:=h
 refine ⟨_,(ak (aH (i:=2) pV.nd rfl (aq rfl) (eZ ai))
 (ak (eK b4 rfl (Lp (eG (v:=.ref T.E9.a) rfl T.E9.c rfl)) (bu (i:=3) pV.nd rfl (bH rfl))
 (av (cS (PW.pt (nc (aI sO (cz d8 (pv 0) ao (λ _ _=>rfl)) (eG (v:=.ref T.lO.a) rfl T.lO.c rfl) (by with_unfolding_all rfl)) (mq (aI fZ (cz d8 (pv 0) ao (λ _ _=>rfl)) (c9 (aa (pv 3) (aa (eG (v:=.int 2) rfl T.WC.c ⟨_,rfl⟩) ai))) (by with_unfolding_all rfl)))))
 (av (fS (ng fm nL nN jO (pv 2) (aa (cI (bA.caps (x := "box") (fr:=["side"]) (ix:=[3]) (nm:=["side"]) rfl rfl (by decide +kernel) rfl (by decide +kernel) rfl (by decide +kernel) ⟨rfl,trivial⟩ rfl (by decide +kernel) rfl ⟨⟨rfl,rfl,rfl⟩,trivial⟩) (b6 (bg (yp rfl) rfl T.pY BT.pL (aa (fY (Bm rfl) rfl T.Ks BT.Dr (aa (pv 1) ai)) ai))) (λ _ _ _ _=>cZ) (λ _ _ _ _=>(c9 (aa (pv 1) (aa (pv 0) ai))))) ai))))
 bC)))
 (av (aN (pv 2))))),?_⟩
 show (_:TS) (Ends.mk _ _ _ _) [_,_,_,_] H
 have cd:=T.lO.q
 have cs:=T.E9.q
 walk_at "start"
 walk_at "go"
 rename_i fo H1 n1
 have YG:=n1.1
 have R6:=n1.self
 have s1:=n1.same
 clear n1
 refine f_tup (xs:=[.int 0,.int 1]) (λ i σ' H'=>∃ x us,σ'=[some (.ref a),some (.ref b),some (.ref fo),x] /\ aD H H' /\ H' fo=some (.lst us) /\ br H' us ((([0,1]:List Int).take i).flatMap λ s=>if eS r s then (SN.dB bs).map λ b=>(s,b) else [])) ?_ ?_ ?_ ?_
 ·exact ⟨none,[],rfl,s1,R6,.nil⟩
 ·rintro i σ' H' _ ⟨x,us,rfl,s',_⟩
  exact e8.sq cs
 ·rintro i x σ' H2 hx ⟨x0,us,rfl,s2,Fd,mG⟩
  obtain ⟨s,hs,rfl⟩:∃ s,([0,1]:List Int)[i]? = some s /\ x=.int s:=by
   match i,hx with
   | 0,hx=>cases hx; exact ⟨0,rfl,rfl⟩
   | 1,hx=>cases hx; exact ⟨1,rfl,rfl⟩
  have step:=yY r bs hs
  have CH:us.length <= 16:=by
   have h1:=mG.length
   rw [h1]
   have h8:=jX bs
   match i,hs with
   | 0,_=>exact aO _
   | 1,_ =>
    show (([0]:List Int).flatMap _).length <= 16
    rw [List.flatMap_singleton]
    split
    ·rw [au]; omega
    ·exact aO _
  clear R6 s1
  refine QC ?_
  refine J8 ?_
  intro RX RY vE qO
  have hK:∀ H',aD H2 H'->H' fo=some (.lst us)->eS r s=true->RX H':=λ H3 s3 Fe R7=>by
   refine vE _ ?_
   clear vE qO
   rw [R7,if_pos rfl] at step
   have UH:=s3 _ _ (s2 _ _ hb)
   have BV:=mG.same s3
   walk_at "go"
   refine Nb (bK.of UH) Kv (by omega) ?_
   intro p4 H4 n4
   walk_at "go"
   refine Hw n4.self Kv ?_
   intro p5 H5 n5
   walk_at "go"
   refine fP (xs:=(SN.dB bs).map V.int) (λ j ys H'=>aD H5 H' /\ br H' ys (((SN.dB bs).take j).map λ b=>(s,b))) ⟨aD.refl _,.nil⟩ ?_ ?_ ?_
   ·rintro j ys H' _ ⟨s',_⟩
    exact bK.of (s' _ _ n5.self)
   ·rintro j x ys H6 hx ⟨s6,hys⟩
    rw [bh] at hx
    obtain ⟨y,hy,rfl⟩:=cO.mp hx
    have hyl:=hys.length
    rw [au,bQ] at hyl
    have h8:=jX bs
    refine ⟨bP (by omega),?_⟩
    walk_at "go"
    rename_i t7 H7 n7
    refine ⟨s6.trans n7.same,?_⟩
    rw [bS,hy,bD]
    exact cC (hys.same n7.same) ⟨t7,rfl,n7.self⟩
   rintro ys H6 ⟨s6,hys⟩ p7 H7 n7
   rw [au,ck] at hys
   have hyl:=hys.length
   rw [au] at hyl
   have h8:=jX bs
   have WE:=n7.keep (s6 _ _ (n5.keep (n4.keep Fe)))
   have WG:=((n4.same.trans n5.same).trans s6).trans n7.same
   have WH:=BV.same WG
   have N2:=hys.same n7.same
   have hp7:=n7.self
   have npf:fo ≠ p7:=bw (s6 _ _ (n5.keep (n4.keep Fe))) n7.1
   have s07:=(s2.trans s3).trans WG
   clear n4 n5 s6 n7 hys BV Fe UH WG
   walk_at "go"
   rename_i H8 p8
   have tt:fJ H7 H8:=λ b xs e=>p8.keep (qU e WE (by intro z; cases z)) e
   refine ⟨_,_,rfl,p8.same s07 YG,p8.self,?_⟩
   rw [step]
   exact gw (WH.lP tt) (N2.lP tt)
  clear vE
  have hN:∀ H',aD H2 H'->H' fo=some (.lst us)->eS r s=false->RY H':=λ H3 s3 Fe R7=>by
   refine qO _ ?_
   clear qO
   rw [R7] at step
   walk_at "go"
   refine ⟨_,_,rfl,s2.trans s3,Fe,?_⟩
   rw [step]
   simpa using mG.same s3
  clear qO mG step
  have ha2:=s2 _ _ ha
  have hdi:=tX r
  walk_at "go"
  rw [hdi]
  cases qB:r.j5 with
  | false =>
   simp only [Bool.not_false,if_true]
   exact hK H2 (aD.refl _) Fd (by unfold eS; rw [qB]; rfl)
  | true =>
   simp only [dG,aS,if_false]
   walk_at "go"
   refine uG (fF.of ha2) (IC qB) ?_
   walk_at "go"
   rename_i t4 H4 n4
   have esd:uu (.int r.sd) [.int s,.int 2]=eS r s:=by rw [ID]; unfold eS; rw [qB]; rfl
   rw [esd]
   cases YH:eS r s with
   | true=>rw [if_pos rfl]; exact hK H4 n4.same (n4.keep Fd) YH
   | false=>rw [if_neg (by decide)]; exact hN H4 n4.same (n4.keep Fd) YH
 ·rintro σ' H2 ⟨x0,us,rfl,s2,Fd,mG⟩
  walk_at "go"
  exact q fo us H2 s2 YG Fd mG
def Row.Ff(r:Row):List Int:=if r.j5 then r.qe.drop 1 else r.qe
def cB(r:Row):List (Int × Int):=iV r r.Ff
def aZ(r:Row):List (Int × Int):=if r.j5 then iV r (r.qe.take 1) else []
theorem oj:∀ b∈r.Ff,b∈r.qe:=λ b hb=>by
 unfold Row.Ff at hb
 split at hb
 ·exact List.mem_of_mem_drop hb
 ·exact hb
theorem IE(r:Row):r.Ff.length <= 3:=by
 have:=IB r
 unfold Row.Ff
 split
 ·rw [oY]; omega
 ·exact this
def IF:Sp:=λ vs H Q _=>∃ (a:Addr) (r:Row) (n:Int),vs=[.ref a] /\ H a=some (.tup r.vals) /\ r.ok n /\ ∀ (l:Addr) (us:List V) (H':Hp),aD H H'->H l=none->H' l=some (.lst us)->br H' us (cB r)->Q (.ref l) H'
theorem v5(T:Txt w K mg):bN P w K mg base gJ 2 T.reads.f T.reads.d ["row"] IF:=by
 refine T.reads.F.ok vJ (λ vs H Q E h=>?_) (λ cdv A outer s H vs Q E hr h=>?_)
 ·obtain ⟨a,r,n,rfl,_⟩:=h
  rfl
 obtain ⟨a,r,n,rfl,ha,hok,q⟩:=h
 refine ⟨_,(ak (aH (i:=1) vJ.nd rfl (aq rfl) (aU T.fh (ie T) hr (aa (pv 0) (aa cP ai))))
 (av (aN (aU T.vV (vZ T) hr (aa (pv 0) (aa (fE (aI fZ (cz d8 (pv 0) ao (λ _ _=>rfl)) (eG (v:=.ref T.lO.a) rfl T.lO.c rfl) (by with_unfolding_all rfl)) (gk kO (pv 1) (iM ao) iL) (pv 1)) ai)))))),?_⟩
 show (_:TS) (Ends.mk _ _ _ _) [_,_] H
 have cd:=T.lO.q
 have hdi:=tX r
 walk_at "start"
 walk_at "go"
 refine ⟨a,r, "box", rfl,ha,λ p H1 s1 fp hp=>?_⟩
 rw [rT] at hp
 have ha1:=s1 _ _ ha
 have fin:∀ (c:Addr) (H2:Hp),aD H H2->H2 a=some (.tup r.vals)->H2 c=some (.lst (r.Ff.map V.int))->Ar [.ref a,.ref c] H2 Q E0:=λ c H2 s2 ha2 hc=>⟨a,c,r,r.Ff,rfl,ha2,hc,λ b hb=>jE hok b (oj b hb),IE r,λ l us H3 s3 fl hl mG=>q l us H3 (s2.trans s3) (s2.free fl) hl mG⟩
 walk_at "go"
 rw [hdi]
 cases qB:r.j5 with
 | true =>
  rw [if_pos rfl]
  walk_at "go"
  rename_i c H2 n2
  have ec:jv (r.qe.map V.int) (some 1) none=r.Ff.map V.int:=by
   unfold Row.Ff
   rw [qB,if_pos rfl]
   cases r <;> first | rfl | cases qB
  rw [ec] at n2
  exact fin c H2 (s1.trans n2.same) (n2.keep ha1) n2.self
 | false =>
  rw [if_neg (by decide)]
  walk_at "go"
  exact fin p H1 s1 ha1 (by unfold Row.Ff; rw [qB]; exact hp)
def IG:Sp:=λ vs H Q _=>∃ (a:Addr) (r:Row) (n:Int),vs=[.ref a] /\ H a=some (.tup r.vals) /\ r.ok n /\ ∀ (l:Addr) (us:List V) (H':Hp),aD H H'->H l=none->H' l=some (.lst us)->br H' us (aZ r)->Q (.ref l) H'
theorem v7(T:Txt w K mg):bN P w K mg base gJ 2 T.gives.f T.gives.d ["row"] IG:=by
 refine T.gives.F.ok E5 (λ vs H Q E h=>?_) (λ cdv A outer s H vs Q E hr h=>?_)
 ·obtain ⟨a,r,n,rfl,_⟩:=h
  rfl
 obtain ⟨a,r,n,rfl,ha,hok,q⟩:=h
 refine ⟨_,(av (aN (fE (aI fZ (cz d8 (pv 0) ao (λ _ _=>rfl)) (eG (v:=.ref T.lO.a) rfl T.lO.c rfl) (by with_unfolding_all rfl)) (aU T.vV (vZ T) hr (aa (pv 0) (aa (gk kO (aU T.fh (ie T) hr (aa (pv 0) (aa cP ai))) iL (iM ao)) ai))) (eZ ai)))),?_⟩
 show (_:TS) (Ends.mk _ _ _ _) [_] H
 have cd:=T.lO.q
 have hdi:=tX r
 walk_at "start"
 walk_at "go"
 rw [hdi]
 cases qB:r.j5 with
 | true =>
  rw [if_pos rfl]
  walk_at "go"
  refine ⟨a,r, "box", rfl,ha,λ p H1 s1 fp hp=>?_⟩
  rw [rT] at hp
  have ha1:=s1 _ _ ha
  walk_at "go"
  rename_i c H2 n2
  have ec:jv (r.qe.map V.int) none (some 1)=(r.qe.take 1).map V.int:=by cases r <;> rfl
  rw [ec] at n2
  refine ⟨a,c,r,r.qe.take 1,rfl,n2.keep ha1,n2.self,λ b hb=>jE hok b (List.mem_of_mem_take hb),by rw [bQ]; omega,λ l us H3 s3 fl hl mG=>q l us H3 ((s1.trans n2.same).trans s3) ((s1.trans n2.same).free fl) hl ?_⟩
  unfold aZ
  rw [qB]
  exact mG
 | false =>
  rw [if_neg (by decide)]
  walk_at "go"
  rename_i l H1 n1
  refine q l [] H1 n1.same n1.1 n1.self ?_
  unfold aZ
  rw [qB]
  exact .nil
end
inductive c6 (rs:List Row) (p:Int × Int):Nat->Prop
 | here {k:Nat} {r:Row} (h:rs[k]? = some r) (m:p∈cB r):c6 rs p k
 | on {k q:Nat} {r:Row} (h:rs[k]? = some r) (m:p ∉ aZ r) (w:((q:Nat):Int)∈r.ways) (l:c6 rs p q):c6 rs p k
theorem c6.lt{rs:List Row}{p:Int × Int}{k:Nat}(h:c6 rs p k):k < rs.length:=by
 cases h with
 | here h _=>exact (eU h).1
 | on h _ _ _=>exact (eU h).1
theorem c6.read(h:c6 rs p k):∃ r∈rs,p∈cB r:=by
 induction h with
 | here h m=>exact ⟨_,fL h,m⟩
 | on _ _ _ _ ih=>exact ih
theorem nA{S:Nat->Prop}(h1:∀ k r,rs[k]? = some r->p∈cB r->S k)(h2:∀ (k q:Nat) r,rs[k]? = some r->p ∉ aZ r->((q:Nat):Int)∈r.ways->S q->S k):∀ k,c6 rs p k->S k:=by
 intro k h
 induction h with
 | here h m=>exact h1 _ _ h m
 | on h m w _ ih=>exact h2 _ _ _ h m w ih
def isLive(rs:List Row)(k:Nat)(p:Int × Int):Bool:=@decide (c6 rs p k) (Classical.propDecidable _)
theorem kI:isLive rs k p=true ↔ c6 rs p k:=by unfold isLive; exact @decide_eq_true_iff _ (Classical.propDecidable _)
def cN:List (Int × Int):=[(0,0),(0,1),(0,2),(0,3),(0,4),(0,5),(0,6),(0,7),(1,0),(1,1),(1,2),(1,3),(1,4),(1,5),(1,6),(1,7)]
def lQ(rs:List Row)(k:Nat):List (Int × Int):=cN.filter (isLive rs k)
theorem v8:cN.Pairwise (λ p q=>SN.rk p < SN.rk q):=by decide
theorem v9(h1:p.1=0 \/ p.1=1)(h2:0 <= p.2 /\ p.2 < 8):p∈cN:=by
 obtain ⟨a,b⟩:=p
 dsimp only at h1 h2
 have hb:b=0 \/ b=1 \/ b=2 \/ b=3 \/ b=4 \/ b=5 \/ b=6 \/ b=7:=by omega
 rcases h1 with rfl | rfl <;> rcases hb with rfl | rfl | rfl | rfl | rfl | rfl | rfl | rfl <;> decide
theorem wc{bs:List Int}(hb:∀ b∈bs,0 <= b /\ b < 8)(h:p∈iV r bs):p∈cN:=by
 unfold iV at h
 obtain ⟨s,hs,h⟩:=kj.mp h
 split at h
 ·obtain ⟨b,hb1,rfl⟩:=aF.mp h
  refine v9 ?_ (hb b ((SN.jR hb b).mp hb1))
  simp only [aG,eF,or_false] at hs
  exact hs
 ·exact nomatch h
theorem reads_in{n:Int}(h:r.ok n)(hp:p∈cB r):p∈cN:=wc (λ b hb=>jE h b (oj b hb)) hp
theorem As:∀ {xs ys:List (Int × Int)},xs.Pairwise (λ p q=>SN.rk p < SN.rk q)->ys.Pairwise (λ p q=>SN.rk p < SN.rk q)->(∀ p,p∈xs ↔ p∈ys)->xs=ys
 | [],[],_,_,_=>rfl
 | [],y :: ys,_,_,h=>absurd ((h y).mpr (by simp)) (by simp)
 | x :: xs,[],_,_,h=>absurd ((h x).mp (by simp)) (by simp)
 | x :: xs,y :: ys,hx,hy,h=>by
  rw [l9] at hx hy
  have e:x=y:=by
   rcases aG.mp ((h x).mp (by simp)) with e | h1
   ·exact e
   rcases aG.mp ((h y).mpr (by simp)) with e | h2
   ·exact e.symm
   have a1:=hy.1 x h1
   have a2:=hx.1 y h2
   omega
  subst e
  congr 1
  refine As hx.2 hy.2 λ p=>⟨λ hp=>?_,λ hp=>?_⟩
  ·rcases aG.mp ((h p).mp (by simp [hp])) with e | h1
   ·have:=hx.1 p hp
    rw [e] at this
    omega
   ·exact h1
  ·rcases aG.mp ((h p).mpr (by simp [hp])) with e | h1
   ·have:=hy.1 p hp
    rw [e] at this
    omega
   ·exact h1
theorem II{n:Int}(hok:∀ r∈rs,r.ok n){qs:List (Int × Int)}(hup:qs.Pairwise (λ p q=>SN.rk p < SN.rk q))(hm:∀ p,p∈qs ↔ ∃ r∈rs,p∈cB r)(k:Nat):qs.filter (isLive rs k)=lQ rs k:=by
 refine As (hup.sublist List.filter_sublist) (v8.sublist List.filter_sublist) λ p=>?_
 rw [eW]
 unfold lQ
 rw [eW]
 refine ⟨λ ⟨h1,h2⟩=>⟨?_,h2⟩,λ ⟨h1,h2⟩=>⟨(hm p).mpr (kI.mp h2).read,h2⟩⟩
 obtain ⟨r,hr,hp⟩:=(hm p).mp h1
 exact reads_in (hok r hr) hp
theorem we(rs:List Row)(k:Nat):(lQ rs k).length <= 16:=bq (gZ _ _) (by decide)
theorem i9{α:Type}[DecidableEq α]:∀ {xs ys:List α},xs.Nodup->(∀ x∈xs,x∈ys)->xs.length <= ys.length
 | [],_,_,_=>aO _
 | x :: xs,ys,h,q=>by
  rw [gf] at h
  have hx:=q x (by simp)
  have:=i9 (ys:=ys.erase x) h.2 λ y hy=>(List.mem_erase_of_ne (λ (e:y=x)=>h.1 (by rw [<- e]; exact hy))).mpr (q y (by simp [hy]))
  rw [List.length_erase_of_mem hx] at this
  have hp:=List.length_pos_of_mem hx
  rw [dZ]
  omega
theorem R8{q:Int × Int}(h:SN.rk p < SN.rk q):p ≠ q:=λ e=>by rw [e] at h; omega
theorem Fg(p:Int × Int):putK (ps.map λ p=>(qC p,V.bl true)) (qC p) (.bl true)=(if p∈ps then ps else ps++[p]).map λ p=>(qC p,V.bl true):=by
 have hany:((ps.map λ p=>(qC p,V.bl true)).any λ kv=>decide (kv.1=qC p))=decide (p∈ps):=by
  induction ps with
  | nil=>rfl
  | cons x ps ih =>
   rw [bR,gU,ih]
   by_cases e:x=p
   ·simp [e]
   ·have e1:¬ qC x=qC p:=λ z=>e (Hz z)
    have e2:¬ p=x:=λ z=>e z.symm
    simp [e1,e2]
 unfold putK
 rw [hany]
 by_cases h:p∈ps
 ·rw [if_pos (decide_eq_true h),if_pos h,eV]
  refine List.map_congr_left λ x _=>?_
  show (if qC x=qC p then (qC x,V.bl true) else (qC x,V.bl true))=_
  split <;> rfl
 ·rw [if_neg (by simpa using h),if_neg h,bD]
  rfl
def Led(rs:List Row)(i j:Nat)(x:Int):Prop:=∃ k r,k < i /\ x=((k:Nat):Int) /\ rs[k]? = some r /\ ((j:Nat):Int)∈r.ways
theorem Led.succ(h:rs[i]? = some r):Led rs (i + 1) j x ↔ Led rs i j x \/ (x=((i:Nat):Int) /\ ((j:Nat):Int)∈r.ways):=by
 constructor
 ·rintro ⟨k,r',h1,h2,h3,h4⟩
  by_cases e:k=i
  ·subst e
   rw [h] at h3
   cases h3
   exact .inr ⟨h2,h4⟩
  ·exact .inl ⟨k,r',by omega,h2,h3,h4⟩
 ·rintro (⟨k,r',h1,h2,h3,h4⟩ | ⟨h1,h2⟩)
  ·exact ⟨k,r',by omega,h2,h3,h4⟩
  ·exact ⟨i,r,by omega,h1,h,h2⟩
def tY(H:Hp)(rs:List Row)(as:List Addr):Prop:=∀ (j:Nat) a,as[j]? = some a->∃ l:List Int,H a=some (.lst (l.map V.int)) /\ l.length <= 2 * rs.length /\ ∀ x,x∈l ↔ Led rs rs.length j x
theorem tY.same{as:List Addr}(e:aD H H')(h:tY H rs as):tY H' rs as:=λ j a ha=>by
 obtain ⟨l,h1,h2⟩:=h j a ha
 exact ⟨l,e _ _ h1,h2⟩
section
variable {P:Program}{w:World}{K:az}{mg:Str->Option Value}{base:Heap}
def N3(K:az):Sp:=λ vs H Q _=>∃ (p:Addr) (us:List V) (rs:List Row),vs=[.ref p] /\ H p=some (.lst us) /\ Rows H us rs /\ (∀ r∈rs,r.ok rs.length) /\ rs.length <= 1000 /\
 ∀ f H' (as:List Addr),aD H H'->H' f=some (.lst (as.map V.ref))->as.length=rs.length->tY H' rs as->Q (.ref f) H'
theorem yZ(T:Txt w K mg):bN P w K mg base gJ 3 T.leading.f T.leading.d ["code"] (N3 K):=by
 refine T.leading.F.ok gq (λ vs H Q E h=>?_) (λ cdv A outer s H vs Q E hr h=>?_)
 ·obtain ⟨p,us,rs,rfl,_⟩:=h
  rfl
 obtain ⟨p,us,rs,rfl,hp,hrs,hok,hl,q⟩:=h
 refine ⟨_,(ak (kT (i:=1) gq.nd rfl (aq rfl) (bA.plain rfl (by decide +kernel) (by decide +kernel) rfl (by decide +kernel) rfl) (b6 (pv 0)) (λ _ _ _ _=>cZ) (λ _ _ _ _=>(eZ ai)))
 (ak (eK b4 rfl (nS rfl T.gP (aa (pv 0) ai)) (o9 (n:=2) rfl (bU (bu (i:=2) gq.nd rfl (aq rfl)) (bU (bu (i:=3) gq.nd rfl (aq rfl)) gG)))
 (av (eK b4 rfl (b6 (aU T.lM (qd T) hr (aa (pv 3) ai))) (bu (i:=4) gq.nd rfl (aq rfl))
 (av (fS (ng fm nK nM jN (cz gI (pv 1) (pv 4) (λ _ _=>rfl)) (aa (pv 2) ai)))))))
 (av (aN (pv 1))))),?_⟩
 have CH:=hrs.length
 show (_:TS) (Ends.mk _ _ _ _) [_,_,_,_,_] H
 walk_at "start"
 walk_at "go"
 refine fP (xs:=us) (λ i ys H'=>aD H H' /\ ∃ as:List Addr,ys=as.map V.ref /\ as.length=i /\ as.Nodup /\ ∀ a∈as,H a=none /\ H' a=some (.lst [])) ?_ ?_ ?_ ?_
 ·exact ⟨aD.refl _,[],rfl,rfl,iI,λ a h=>nomatch h⟩
 ·rintro i ys H' hi ⟨sm,as,rfl,_⟩
  exact bK.of (sm _ _ hp)
 ·rintro i x ys H' hx ⟨sm,as,rfl,ha,hn,hh⟩
  have hi:i < us.length:=(eU hx).1
  refine ⟨bP (by rw [au]; omega),?_⟩
  walk_at "go"
  rename_i b H2 n2
  refine ⟨sm.trans n2.same,as++[b],by simp,by simp [ha],?_,λ a h=>?_⟩
  ·rw [d7]
   refine ⟨hn,by simp,λ a h c hc=>?_⟩
   rw [aC.mp hc]
   intro e
   rw [e] at h
   have:=(hh b h).2
   rw [n2.1] at this
   cases this
  ·rcases aK.mp h with h | h
   ·exact ⟨(hh a h).1,n2.keep (hh a h).2⟩
   ·rw [aC.mp h]
    exact ⟨sm.free n2.1,n2.self⟩
 rintro ys H1 ⟨YI,as,rfl,hal,hnd,has⟩ f H2 n2
 walk_at "go"
 have WI:f ∉ as:=λ h=>by
  have:=(has f h).2
  rw [n2.1] at this
  cases this
 have hHf:H f=none:=YI.free n2.1
 refine yh (xs:=us) (λ i σ' H'=>aD H H' /\ H' f=some (.lst (as.map V.ref)) /\ (∃ x y z,σ'=[some (.ref p),some (.ref f),x,y,z]) /\ ∀ (j:Nat) a,as[j]? = some a->∃ l:List Int,H' a=some (.lst (l.map V.int)) /\ l.length <= 2 * i /\ ∀ x,x∈l ↔ Led rs i j x) ?_ ?_ ?_ ?_
 ·refine ⟨YI.trans n2.same,n2.self,⟨_,_,_,rfl⟩,λ j a h=>⟨[],n2.keep (has a (fL h)).2,aO _,λ x=>⟨λ h=>(nomatch h),λ ⟨k,_,hk,_⟩=>absurd hk (by omega)⟩⟩⟩
 ·rintro i σ' H' hi ⟨sm,_⟩
  exact bK.of (sm _ _ hp)
 ·rintro i x t σ' H' H3 hx ⟨sm,hf,⟨x0,y0,z0,rfl⟩,hL⟩ n3
  have hi:i < us.length:=(eU hx).1
  obtain ⟨r,hr',⟨ra,rfl,N1⟩⟩:=aW hrs hx
  have WJ:H3 ra=some (.tup r.vals):=n3.keep (sm _ _ N1)
  walk_at "go"
  refine ⟨ra,r,rfl,WJ,λ pw H4 s4 YJ e4=>?_⟩
  walk_at "go"
  have R9:=Row.iU (hok r (fL hr'))
  have hwl:=Row.qa r
  refine f_list (xs:=r.ways.map V.int) (λ k σ' H'=>aD H H' /\ H' pw=some (.lst (r.ways.map V.int)) /\ H' f=some (.lst (as.map V.ref)) /\ (∃ z,σ'=[some (.ref p),some (.ref f),some (.int i),some (.ref ra),z]) /\
   ∀ (j:Nat) a,as[j]? = some a->∃ l:List Int,H' a=some (.lst (l.map V.int)) /\ l.length <= 2 * i + k /\ ∀ x,x∈l ↔ Led rs i j x \/ (x=((i:Nat):Int) /\ ((j:Nat):Int)∈r.ways.take k)) ?_ ?_ ?_ ?_
  ·refine ⟨(sm.trans n3.same).trans s4,e4,s4 _ _ (n3.keep hf),⟨_,rfl⟩,λ j a h=>?_⟩
   obtain ⟨l,e,hl,hm⟩:=hL j a h
   exact ⟨l,s4 _ _ (n3.keep e),by omega,λ x=>by rw [hm x]; simp⟩
  ·rintro k σ' H' hk ⟨_,e,_⟩
   exact bK.of e
  ·rintro k x σ' H5 hx ⟨WK,YK,Fi,⟨z1,rfl⟩,UI⟩
   have hk:k < (r.ways.map V.int).length:=(eU hx).1
   rw [au] at hk
   rw [bh] at hx
   obtain ⟨y,hy,rfl⟩:=cO.mp hx
   have hyb:=R9 y (fL hy)
   have ey:y=((y.toNat:Nat):Int):=by omega
   have hj:y.toNat < as.length:=by omega
   have y9:as[y.toNat]? = some as[y.toNat]:=by simp [hj]
   generalize as[y.toNat]'hj=a at y9
   obtain ⟨l,el,hll,hm⟩:=UI _ a y9
   walk_at "go"
   refine iy (bK.of Fi) (v:=.ref a) (by rw [ey]; exact fq (by rw [bh,y9]; rfl)) ?_
   have hml:(l.map V.int).length=l.length:=au _
   walk_at "go"
   rename_i H6 n6
   have WL:pw ≠ a:=λ e=>by
    rw [e] at YJ
    have h2:H3 a=none:=YJ
    obtain ⟨l',e',_⟩:=hL _ a y9
    rw [n3.keep e'] at h2
    cases h2
   have WM:f ≠ a:=λ e=>WI (e ▸ fL y9)
   refine ⟨n6.same WK (has a (fL y9)).1,n6.keep WL YK,n6.keep WM Fi,⟨_,rfl⟩,λ j b hb=>?_⟩
   rw [bS,hy]
   by_cases e:j=y.toNat
   ·subst e
    rw [y9] at hb
    cases hb
    refine ⟨l++[((i:Nat):Int)],by rw [bD]; exact n6.self,by rw [aX]; simp; omega,λ x=>?_⟩
    rw [aK,hm x,aC,aK,<- ey]
    simp only [jI,aC,or_true,and_true]
    constructor
    ·rintro ((h | h) | h)
     ·exact .inl h
     ·exact .inr h.1
     ·exact .inr h
    ·rintro (h | h)
     ·exact .inl (.inl h)
     ·exact .inr h
   ·obtain ⟨l',e',hl',hm'⟩:=UI j b hb
    have hba:b ≠ a:=λ eb=>by
     subst eb
     exact e (rR hnd hb y9)
    refine ⟨l',n6.keep hba e',by omega,λ x=>?_⟩
    have hne:¬ ((j:Nat):Int)=y:=by omega
    rw [hm' x,aK]
    simp only [jI,aC,hne,or_false]
  ·rintro σ' H5 ⟨WK,YK,Fi,⟨z1,rfl⟩,UI⟩
   refine ⟨WK,Fi,⟨_,_,_,rfl⟩,λ j a h=>?_⟩
   obtain ⟨l,e,hl,hm⟩:=UI j a h
   rw [au] at hl
   refine ⟨l,e,by omega,λ x=>?_⟩
   rw [hm x,Led.succ hr',au,ck]
 ·rintro σ' H' ⟨sm,hf,⟨x0,y0,z0,rfl⟩,hL⟩
  walk_at "go"
  refine q f H' as sm hf (by omega) λ j a h=>?_
  obtain ⟨l,e,hl,hm⟩:=hL j a h
  rw [CH] at hl hm
  exact ⟨l,e,hl,hm⟩
end
abbrev jF(H:Hp):List V->List (List (Int × Int))->Prop:=Paired λ v ps=>∃ a us,v=.ref a /\ H a=some (.lst us) /\ br H us ps
theorem jF.same{Gk:List (List (Int × Int))}(e:aD H H')(h:jF H vs Gk):jF H' vs Gk:=cH (λ _ _ ⟨a,us,h1,h2,h3⟩=>⟨a,us,h1,e _ _ h2,h3.same e⟩) h
section
variable {P:Program}{w:World}{K:az}{mg:Str->Option Value}{base:Heap}
def N4:Sp:=λ vs H Q _=>∃ (p:Addr) (zs:List V) (Gk:List (List (Int × Int))),vs=[.ref p] /\ H p=some (.lst zs) /\ jF H zs Gk /\ (∀ ps∈Gk,∀ q∈ps,q∈cN) /\
 ∀ (l:Addr) (us:List V) (qs:List (Int × Int)) (H':Hp),aD H H'->H l=none->H' l=some (.lst us)->br H' us qs->qs.Pairwise (λ p q=>SN.rk p < SN.rk q)->(∀ q,q∈qs ↔ ∃ ps∈Gk,q∈ps)->Q (.ref l) H'
theorem tZ(T:Txt w K mg):bN P w K mg base gJ 1 T.jV.f T.jV.d ["lists"] N4:=by
 refine T.jV.F.ok fW (λ vs H Q E h=>?_) (λ cdv A outer s H vs Q E hr h=>?_)
 ·obtain ⟨p,zs,Gk,rfl,_⟩:=h
  rfl
 obtain ⟨p,zs,Gk,rfl,hp,hzs,hin,q⟩:=h
 refine ⟨_,(ak (aH (i:=1) fW.nd rfl (aq rfl) Dk)
 (ak (eK b4 rfl (b6 (pv 0)) (bu (i:=2) fW.nd rfl (aq rfl))
 (av (eK b4 rfl (b6 (pv 2)) (bu (i:=3) fW.nd rfl (aq rfl))
 (av (zF (Dm hr) (pv 1) (pv 3) qV rfl)))))
 (av (aN (bg (yy rfl) rfl T.pY BT.pL (aa (pv 1) ai)))))),?_⟩
 show (_:TS) (Ends.mk _ _ _ _) [_,_,_,_] H
 walk_at "start"
 walk_at "go"
 rename_i d H1 n1
 have fd:=n1.1
 have s1:=n1.same
 have hd1:=n1.self
 clear n1
 refine f_list (xs:=zs) (λ i σ' H'=>(∃ x y,σ'=[some (.ref p),some (.ref d),x,y]) /\ aD H H' /\ ∃ ps:List (Int × Int),H' d=some (.dT (ps.map λ p=>(qC p,V.bl true))) /\ ps.Nodup /\ (∀ q∈ps,q∈cN) /\ ∀ q,q∈ps ↔ ∃ qs∈Gk.take i,q∈qs) ?_ ?_ ?_ ?_
 ·exact ⟨⟨_,_,rfl⟩,s1,[],hd1,iI,(λ q h=>nomatch h),λ q=>by simp⟩
 ·rintro i σ' H' _ ⟨_,s',_⟩
  exact bK.of (s' _ _ hp)
 ·rintro i x σ' H2 hx ⟨⟨x0,y0,rfl⟩,s2,ps,hd2,nd,hall,hmem⟩
  obtain ⟨qs,O0,a,us,rfl,ha,mG⟩:=aW hzs hx
  have ha2:=s2 _ _ ha
  have Sa:=mG.same s2
  have hqa:=hin qs (fL O0)
  walk_at "go"
  refine f_list (xs:=us) (λ j σ' H'=>(∃ y,σ'=[some (.ref p),some (.ref d),some (.ref a),y]) /\ aD H H' /\ ∃ ps:List (Int × Int),H' d=some (.dT (ps.map λ p=>(qC p,V.bl true))) /\ ps.Nodup /\ (∀ q∈ps,q∈cN) /\ ∀ q,q∈ps ↔ (∃ qs∈Gk.take i,q∈qs) \/ q∈qs.take j) ?_ ?_ ?_ ?_
  ·exact ⟨⟨_,rfl⟩,s2,ps,hd2,nd,hall,λ q=>by rw [hmem q]; simp⟩
  ·rintro j σ' H' _ ⟨_,s',_⟩
   exact bK.of (s' _ _ ha)
  ·rintro j x σ' H3 hx ⟨⟨y0,rfl⟩,s3,ps,Kw,nd,hall,hmem⟩
   obtain ⟨t,htj,b,rfl,hb⟩:=aW mG hx
   have UH:=s3 _ _ hb
   have hpl:ps.length <= 16:=i9 nd hall
   walk_at "go"
   refine Rb (k:=qC t) Kw UH (by rw [au]; omega) ?_
   intro H4 p4
   rw [Fg] at p4
   walk_at "go"
   refine ⟨⟨_,rfl⟩,p4.same s3 fd,_,p4.self,?_,?_,λ q=>?_⟩
   ·by_cases h:t∈ps
    ·rw [if_pos h]; exact nd
    ·rw [if_neg h,d7]
     exact ⟨nd,by simp,λ x hx y hy e=>h (by rw [<- aC.mp hy,<- e]; exact hx)⟩
   ·intro q hq
    by_cases h:t∈ps
    ·rw [if_pos h] at hq; exact hall q hq
    ·rw [if_neg h] at hq
     rcases aK.mp hq with hq | hq
     ·exact hall q hq
     ·rw [aC.mp hq]; exact hqa t (fL htj)
   ·rw [bS,htj,aK]
    simp only [jI,aC]
    by_cases h:t∈ps
    ·rw [if_pos h,hmem q]
     constructor
     ·rintro (h1 | h1)
      ·exact .inl h1
      ·exact .inr (.inl h1)
     ·rintro (h1 | h1 | h1)
      ·exact .inl h1
      ·exact .inr h1
      ·rw [h1]; exact (hmem t).mp h
    ·rw [if_neg h,aK,hmem q,aC,or_assoc]
  ·rintro σ' H3 ⟨⟨y0,rfl⟩,s3,ps,Kw,nd,hall,hmem⟩
   refine ⟨⟨_,_,rfl⟩,s3,ps,Kw,nd,hall,λ q=>?_⟩
   rw [hmem q,mG.length,ck,bS,O0]
   simp only [aK,jI,aC]
   constructor
   ·rintro (⟨WN,h1,h2⟩ | h1)
    ·exact ⟨WN,.inl h1,h2⟩
    ·exact ⟨qs,.inr rfl,h1⟩
   ·rintro ⟨WN,h1 | h1,h2⟩
    ·exact .inl ⟨WN,h1,h2⟩
    ·subst h1; exact .inr h2
 ·rintro σ' H2 ⟨⟨x0,y0,rfl⟩,s2,ps,hd2,nd,hall,hmem⟩
  have hpl:ps.length <= 16:=i9 nd hall
  walk_at "go"
  refine HA (f:=λ _=>.bl true) hd2 (λ q hq=>?_) (by omega) λ l us qs H3 n3 mG zR hup=>?_
  ·have all:∀ q∈cN,0 <= q.2 /\ q.2 < 1000:=by decide
   exact all q (hall q hq)
  ·refine q l us qs H3 (s2.trans n3.same) (s2.free n3.1) n3.self (br.same n3.same mG) hup λ q=>?_
   rw [zR.mem_iff,hmem q,hzs.length,ck]
end
theorem qf(x:Int):∀ ss:List Int,(iw (ss.map λ k=>((.inl k:Key),V.bl true)) (.inl x)).isSome=decide (x∈ss):=λ ss=>by
 rw [<- kQ]
 induction ss with
 | nil=>rfl
 | cons y ss ih =>
  rw [bR,gU,ih]
  by_cases e:y=x
  ·simp [e]
  ·have e1:¬ (Sum.inl y:Key)=Sum.inl x:=λ z=>e (Sum.inl.inj z)
   have e2:¬ x=y:=λ z=>e z.symm
   simp [e1,e2]
theorem Fj{ss:List Int}(h:x ∉ ss):putK (ss.map λ k=>((.inl k:Key),V.bl true)) (.inl x) (.bl true)=(ss++[x]).map λ k=>((.inl k:Key),V.bl true):=by
 unfold putK
 rw [kQ,qf,decide_eq_false h,if_neg (by decide),bD]
 rfl
structure Apart (H5:Hp) (f l cm sn:Addr) (as:List Addr):Prop where
 c5:H5 cm=none
 n5:H5 sn=none
 a5:∀ a∈as,H5 a=none
 fc:f ≠ cm
 fs:f ≠ sn
 lc:l ≠ cm
 ls:l ≠ sn
 cs:cm ≠ sn
 ca:cm ∉ as
 sa:sn ∉ as
 fa:f ∉ as
 la:l ∉ as
 nd:as.Nodup
structure uv (H5 H6:Hp) (f l cm sn:Addr) (as:List Addr) (us:List V) (cs ss:List Int) (g:Nat->List (Int × Int)) (H:Hp):Prop where
 s5:aD H5 H
 t6:fJ H6 H
 hf:H f=some (.lst (as.map V.ref))
 hl:H l=some (.lst us)
 hc:H cm=some (.lst (cs.map V.int))
 hs:H sn=some (.dK (ss.map λ k=>(.inl k,.bl true)))
 ha:∀ (k:Nat) a,as[k]? = some a->∃ vs,H a=some (.lst vs) /\ br H vs (g k)
section
variable {H5 H6 H H':Hp}{f l cm sn:Addr}{as:List Addr}{us:List V}{cs cs' ss:List Int}{g g':Nat->List (Int × Int)}
theorem uv.new{p:Addr}(x:uv H5 H6 f l cm sn as us cs ss g H)(n:eB H p o H'):uv H5 H6 f l cm sn as us cs ss g H' :=
 ⟨x.s5.trans n.same,x.t6.trans (sT n.same),n.keep x.hf,n.keep x.hl,n.keep x.hc,n.keep x.hs,λ k a e=>let ⟨vs,h1,h2⟩:=x.ha k a e; ⟨vs,n.keep h1,h2.same n.same⟩⟩
theorem uv.same(x:uv H5 H6 f l cm sn as us cs ss g H)(n:aD H H'):uv H5 H6 f l cm sn as us cs ss g H' :=
 ⟨x.s5.trans n,x.t6.trans (sT n),n _ _ x.hf,n _ _ x.hl,n _ _ x.hc,n _ _ x.hs,λ k a e=>let ⟨vs,h1,h2⟩:=x.ha k a e; ⟨vs,n _ _ h1,h2.same n⟩⟩
theorem uv.Sb(A:Apart H5 f l cm sn as)(x:uv H5 H6 f l cm sn as us cs ss g H)(p:lX H cm (.lst (cs'.map V.int)) H'):uv H5 H6 f l cm sn as us cs' ss g H':=by
 have tt:fJ H H':=λ b xs e=>p.keep (qU e x.hc (by intro z; cases z)) e
 exact ⟨p.same x.s5 A.c5,x.t6.trans tt,p.keep A.fc x.hf,p.keep A.lc x.hl,p.self,p.keep A.cs.symm x.hs,λ k a e=>let ⟨vs,h1,h2⟩:=x.ha k a e; ⟨vs,p.keep (λ z=>A.ca (by rw [<- z]; exact fL e)) h1,h2.lP tt⟩⟩
theorem uv.WO(A:Apart H5 f l cm sn as){ss':List Int}(x:uv H5 H6 f l cm sn as us cs ss g H)(p:lX H sn (.dK (ss'.map λ k=>(.inl k,.bl true))) H'):uv H5 H6 f l cm sn as us cs ss' g H':=by
 have tt:fJ H H':=λ b xs e=>p.keep (qU e x.hs (by intro z; cases z)) e
 exact ⟨p.same x.s5 A.n5,x.t6.trans tt,p.keep A.fs x.hf,p.keep A.ls x.hl,p.keep A.cs x.hc,p.self,λ k a e=>let ⟨vs,h1,h2⟩:=x.ha k a e; ⟨vs,p.keep (λ z=>A.sa (by rw [<- z]; exact fL e)) h1,h2.lP tt⟩⟩
theorem uv.WQ(A:Apart H5 f l cm sn as){aj:Addr}{vj:List V}(x:uv H5 H6 f l cm sn as us cs ss g H)(hj:as[j]? = some aj){w:List V}(hold:H aj=some (.lst w))(p:lX H aj (.lst vj) H')(hv:br H vj (g' j))(hg:∀ k,k ≠ j->k < as.length->g' k=g k):uv H5 H6 f l cm sn as us cs ss g' H':=by
 have mj:=fL hj
 have tt:fJ H H':=λ b xs e=>p.keep (qU e hold (by intro z; cases z)) e
 refine ⟨p.same x.s5 (A.a5 aj mj),x.t6.trans tt,p.keep (λ z=>A.fa (by rw [z]; exact mj)) x.hf,p.keep (λ z=>A.la (by rw [z]; exact mj)) x.hl,p.keep (λ z=>A.ca (by rw [z]; exact mj)) x.hc,p.keep (λ z=>A.sa (by rw [z]; exact mj)) x.hs,λ k a e=>?_⟩
 by_cases ek:k=j
 ·subst ek
  rw [hj] at e
  cases e
  exact ⟨vj,p.self,hv.lP tt⟩
 ·obtain ⟨vs,h1,h2⟩:=x.ha k a e
  refine ⟨vs,p.keep (λ z=>ek (rR A.nd e (by rw [z]; exact hj))) h1,?_⟩
  rw [hg k ek (eU e).1]
  exact h2.lP tt
end
structure Au (rs:List Row) (t:Int × Int) (cs ss:List Int):Prop where
 c1:∀ x∈cs,∃ k:Nat,x=((k:Nat):Int) /\ c6 rs t k
 s1:∀ x∈ss,∃ k:Nat,x=((k:Nat):Int) /\ c6 rs t k
 nd:ss.Nodup
 rd:∀ (k:Nat) r,rs[k]? = some r->t∈cB r->((k:Nat):Int)∈ss \/ ((k:Nat):Int)∈cs
 cl:∀ (k q:Nat) r,rs[k]? = some r->t ∉ aZ r->((q:Nat):Int)∈r.ways->((q:Nat):Int)∈ss->((k:Nat):Int)∈ss \/ ((k:Nat):Int)∈cs
 ln:cs.length <= rs.length + ss.length * (2 * rs.length)
section
variable {rs:List Row}{t:Int × Int}{cs ss:List Int}
theorem BW{ss:List Int}(nd:ss.Nodup){n:Nat}(h:∀ x∈ss,∃ k:Nat,x=((k:Nat):Int) /\ k < n):ss.length <= n:=by
 have:=i9 nd (ys:=(List.range n).map λ k:Nat=>(k:Int)) λ x hx=>by
  obtain ⟨k,rfl,hk⟩:=h x hx
  exact aF.mpr ⟨k,fN.mpr hk,rfl⟩
 rw [au,oZ] at this
 exact this
theorem Au.few(d:Au rs t cs ss):ss.length <= rs.length:=BW d.nd λ x hx=>by
 obtain ⟨k,e,h⟩:=d.s1 x hx
 exact ⟨k,e,h.lt⟩
theorem Au.short(d:Au rs t cs ss)(h:rs.length <= 200):cs.length <= 81000:=by
 have h1:=d.few
 have h2:=d.ln
 have h3:ss.length * (2 * rs.length) <= 200 * 400:=Nat.mul_le_mul (by omega) (by omega)
 omega
theorem Au.skip(d:Au rs t (cs++[x]) ss)(h:x∈ss):Au rs t cs ss where
 c1:=λ y hy=>d.c1 y (by simp [hy])
 s1:=d.s1
 nd:=d.nd
 rd:=λ k r h1 h2=>by
  rcases d.rd k r h1 h2 with a | a
  ·exact .inl a
  ·rcases aK.mp a with a | a
   ·exact .inr a
   ·rw [aC.mp a]; exact .inl h
 cl:=λ k q r h1 h2 h3 h4=>by
  rcases d.cl k q r h1 h2 h3 h4 with a | a
  ·exact .inl a
  ·rcases aK.mp a with a | a
   ·exact .inr a
   ·rw [aC.mp a]; exact .inl h
 ln:=by have:=d.ln; rw [aX] at this; simp at this; omega
theorem Au.step{es:List Int}(d:Au rs t (cs++[x]) ss)(h:x ∉ ss)(h1:∀ y,y∈es ↔ ∃ (k j:Nat) (r:Row),y=((k:Nat):Int) /\ x=((j:Nat):Int) /\ rs[k]? = some r /\ ((j:Nat):Int)∈r.ways /\ t ∉ aZ r)(h2:es.length <= 2 * rs.length):Au rs t (cs++es) (ss++[x]) where
 c1:=λ y hy=>by
  rcases aK.mp hy with a | a
  ·exact d.c1 y (by simp [a])
  ·obtain ⟨k,j,r,rfl,ej,hr,hw,hg⟩:=(h1 y).mp a
   obtain ⟨j',ej',hj⟩:=d.c1 x (by simp)
   have e:j=j':=by omega
   subst e
   exact ⟨k,rfl,.on hr hg hw hj⟩
 s1:=λ y hy=>by
  rcases aK.mp hy with a | a
  ·exact d.s1 y a
  ·rw [aC.mp a]; exact d.c1 x (by simp)
 nd:=by
  rw [d7]
  exact ⟨d.nd,by simp,λ a ha b hb e=>h (by rw [<- aC.mp hb,<- e]; exact ha)⟩
 rd:=λ k r a b=>by
  rcases d.rd k r a b with c | c
  ·exact .inl (by simp [c])
  ·rcases aK.mp c with c | c
   ·exact .inr (by simp [c])
   ·exact .inl (by simp [aC.mp c])
 cl:=λ k q r a b c e=>by
  rcases aK.mp e with e | e
  ·rcases d.cl k q r a b c e with z | z
   ·exact .inl (by simp [z])
   ·rcases aK.mp z with z | z
    ·exact .inr (by simp [z])
    ·exact .inl (by simp [aC.mp z])
  ·have e:=aC.mp e
   exact .inr (aK.mpr (.inr ((h1 _).mpr ⟨k,q,r,rfl,e.symm,a,c,b⟩)))
 ln:=by
  have:=d.ln
  rw [aX] at this
  simp only [aX,g6] at this ⊢
  rw [Nat.add_mul]
  omega
theorem Au.done(d:Au rs t [] ss)(k:Nat):((k:Nat):Int)∈ss ↔ c6 rs t k:=by
 constructor
 ·intro h
  obtain ⟨j,e,hj⟩:=d.s1 _ h
  have:k=j:=by omega
  rw [this]
  exact hj
 ·intro h
  refine nA (S:=λ k=>((k:Nat):Int)∈ss) (λ k r a b=>?_) (λ k q r a b c e=>?_) k h
  ·rcases d.rd k r a b with z | z
   ·exact z
   ·exact nomatch z
  ·rcases d.cl k q r a b c e with z | z
   ·exact z
   ·exact nomatch z
def Sd(n s c:Nat):Nat:=(n - s) * (2 * n + 1) + c
theorem N5{n s c e:Nat}(hs:s < n)(he:e <= 2 * n):Sd n (s + 1) (c + e) < Sd n s (c + 1):=by
 unfold Sd
 obtain ⟨d,hd⟩:∃ d,n - s=d + 1:=⟨n - s - 1,by omega⟩
 have h2:n - (s + 1)=d:=by omega
 rw [hd,h2,Nat.add_mul]
 omega
theorem BX{qs:List (Int × Int)}{t:Int × Int}(hi:qs[i]? = some t){ss:List Int}(h:((k:Nat):Int)∈ss ↔ c6 rs t k):(qs.take (i + 1)).filter (isLive rs k)=(qs.take i).filter (isLive rs k)++if ((k:Nat):Int)∈ss then [t] else []:=by
 rw [bS,hi,iH]
 congr 1
 show [t].filter (isLive rs k)=_
 by_cases e:c6 rs t k
 ·rw [if_pos (h.mpr e),oR (kI.mpr e)]
  rfl
 ·rw [if_neg (λ z=>e (h.mp z)),oQ (λ z=>e (kI.mp z))]
  rfl
end
def wg(H:Hp)(as:List Addr)(rs:List Row):Prop:=∀ (k:Nat) a,as[k]? = some a->∃ us,H a=some (.lst us) /\ br H us (lQ rs k)
theorem jF.at{H:Hp}{vs:List V}{rs:List Row}{f:Row->List (Int × Int)}(h:jF H vs (rs.map f)){k:Nat}{r:Row}(e:rs[k]? = some r):∃ a us,vs[k]? = some (.ref a) /\ H a=some (.lst us) /\ br H us (f r):=by
 have hl:=h.length
 rw [au] at hl
 have hk:k < vs.length:=by rw [hl]; exact (eU e).1
 have hv:vs[k]? = some vs[k]:=fM hk
 obtain ⟨ps,h1,a,us,h2,h3,h4⟩:=aW h hv
 rw [bh,e] at h1
 cases h1
 exact ⟨a,us,by rw [hv,h2],h3,h4⟩
section
variable {P:Program}{w:World}{K:az}{mg:Str->Option Value}{base:Heap}
def N6:Sp:=λ vs H Q _=>∃ (p:Addr) (us:List V) (rs:List Row),vs=[.ref p] /\ H p=some (.lst us) /\ Rows H us rs /\ (∀ r∈rs,r.ok rs.length) /\ rs.length <= 200 /\
 ∀ (f:Addr) (as:List Addr) (H':Hp),aD H H'->H f=none->H' f=some (.lst (as.map V.ref))->as.length=rs.length->as.Nodup->(∀ a∈as,H a=none)->f ∉ as->wg H' as rs->Q (.ref f) H'
theorem IJ(T:Txt w K mg):bN P w K mg base gJ 4 T.live.f T.live.d ["code"] N6:=by
 refine T.live.F.ok fV (λ vs H Q E h=>?_) (λ cdv A outer s H vs Q E hr h=>?_)
 ·obtain ⟨p,us,rs,rfl,_⟩:=h
  rfl
 obtain ⟨p,us,rs,rfl,hp,hrs,hok,hn,q⟩:=h
 refine ⟨_,(ak (kT (i:=1) fV.nd rfl (aq rfl) (bA.plain rfl (by decide +kernel) (by decide +kernel) rfl (by decide +kernel) rfl) (b6 (pv 0)) (λ _ _ _ _=>cZ) (λ _ _ _ _=>(aU T.reads (v5 T) hr (aa (pv 0) ai))))
 (ak (aH (i:=2) fV.nd rfl (bH rfl) (cI (bA.plain rfl (by decide +kernel) (by decide +kernel) rfl (by decide +kernel) rfl) (b6 (pv 0)) (λ _ _ _ _=>cZ) (λ _ _ _ _=>(aU T.gives (v7 T) hr (aa (pv 0) ai)))))
 (ak (aH (i:=3) fV.nd rfl (aq rfl) (aU T.leading (yZ T) hr (aa (pv 0) ai)))
 (ak (kT (i:=4) fV.nd rfl (aq rfl) (bA.plain rfl (by decide +kernel) (by decide +kernel) rfl (by decide +kernel) rfl) (b6 (pv 0)) (λ _ _ _ _=>cZ) (λ _ _ _ _=>(eZ ai)))
 (ak (eK b4 rfl (b6 (aU T.jV (tZ T) hr (aa (pv 1) ai))) (bu (i:=5) fV.nd rfl (bH rfl))
 (ak (uP (i:=6) fV.nd rfl (aq rfl) (gM.of (xs:=["place", "some"]) (bA.caps (x := "place") (fr:=["spot"]) (ix:=[5]) (nm:=["spot"]) rfl rfl (by decide +kernel) rfl (by decide +kernel) rfl (by decide +kernel) ⟨rfl,trivial⟩ rfl (by decide +kernel) rfl ⟨⟨rfl,rfl,rfl⟩,trivial⟩) (by decide +kernel)) (nS rfl T.gP (aa (pv 1) ai)) (λ _ _ _ _=>(sW (K:=K) rfl (n:=2) rfl (bU (bu (i:=0) (show (["place", "some", "spot"]:List Str).Nodup from by decide +kernel) rfl (aq rfl)) (bU (bu (i:=1) (show (["place", "some", "spot"]:List Str).Nodup from by decide +kernel) rfl (aq rfl)) gG)))) (λ _ _ _ _=>(mH (aI ((zY (K:=K) rfl) hr.units) (pv 2) (pv 1) (by with_unfolding_all rfl)))) (λ _ _ _ _=>(pv 0)))
 (ak (aH (i:=7) fV.nd rfl (aq rfl) Dj)
 (av (jr b4 (mK (pv 6) (λ _=>rfl))
 (ak (aH (i:=8) fV.nd rfl (aq rfl) (Dc fm PySem.F.slot_list_pop PySem.F.type_list_pop De (pv 6)))
 (av (cS (Lg (A3 (Dm hr) (pv 8) (pv 7)))
 (ak (zF (Dm hr) (pv 7) (pv 8) qV rfl)
 (ak (fS (ng fm nK nM jN (cz gI (pv 4) (pv 8) (λ _ _=>rfl)) (aa (pv 5) ai)))
 (av (fS (ng fm nL nN jO (pv 6) (aa (cI (bA.caps (x := "other") (fr:=["giving", "spot"]) (ix:=[2,5]) (nm:=["spot", "giving"]) rfl rfl (by decide +kernel) rfl (by decide +kernel) rfl (by decide +kernel) ⟨rfl,⟨rfl,trivial⟩⟩ rfl (by decide +kernel) rfl ⟨⟨rfl,rfl,rfl⟩,⟨⟨rfl,rfl,rfl⟩,trivial⟩⟩) (b6 (cz gI (pv 3) (pv 8) (λ _ _=>rfl))) (λ _ _ _ _=>(mH (aI ((yx (K:=K) rfl) hr.units) (pv 2) (cz (jy (K:=K) rfl) (pv 1) (pv 0) (λ _ _=>rfl)) (by with_unfolding_all rfl)))) (λ _ _ _ _=>(pv 0))) ai))))))
 bC))))))))
 (av (aN (pv 4)))))))),?_⟩
 have CH:=hrs.length
 show (_:TS) (Ends.mk _ _ _ _) [_,_,_,_,_,_,_,_,_] H
 walk_at "start"
 walk_at "go"
 refine fP (xs:=us) (λ i ys H'=>aD H H' /\ jF H' ys ((rs.take i).map cB)) ⟨aD.refl _,.nil⟩ ?_ ?_ ?_
 ·rintro i ys H' _ ⟨s',_⟩
  exact bK.of (s' _ _ hp)
 ·rintro i x ys H1 hx ⟨s1,hys⟩
  obtain ⟨r,IK,a,rfl,ha⟩:=aW hrs hx
  have hyl:=hys.length
  rw [au,bQ] at hyl
  refine ⟨bP (by omega),?_⟩
  walk_at "go"
  refine ⟨a,r,rs.length,rfl,s1 _ _ ha,hok r (fL IK),λ l ws H2 s2 _ hl hws=>⟨s1.trans s2,?_⟩⟩
  rw [bS,IK,bD]
  exact cC (hys.same s2) ⟨l,ws,rfl,hl,hws⟩
 rintro rzs H1 ⟨s1,WR⟩ rd H2 n2
 rw [CH,ck] at WR
 have Se:=n2.self
 have Sf:=WR.same n2.same
 have s2:=s1.trans n2.same
 clear n2 s1 WR
 have hp2:=s2 _ _ hp
 have N7:=hrs.same s2
 walk_at "go"
 refine fP (xs:=us) (λ i ys H'=>aD H2 H' /\ jF H' ys ((rs.take i).map aZ)) ⟨aD.refl _,.nil⟩ ?_ ?_ ?_
 ·rintro i ys H' _ ⟨s',_⟩
  exact bK.of (s' _ _ hp2)
 ·rintro i x ys H3 hx ⟨s3,hys⟩
  obtain ⟨r,IK,a,rfl,ha⟩:=aW N7 hx
  have hyl:=hys.length
  rw [au,bQ] at hyl
  refine ⟨bP (by omega),?_⟩
  walk_at "go"
  refine ⟨a,r,rs.length,rfl,s3 _ _ ha,hok r (fL IK),λ l ws H4 s4 _ hl hws=>⟨s3.trans s4,?_⟩⟩
  rw [bS,IK,bD]
  exact cC (hys.same s4) ⟨l,ws,rfl,hl,hws⟩
 rintro gzs H3 ⟨s3,WS⟩ gv H4 n4
 rw [CH,ck] at WS
 have Sg:=n4.self
 have Si:=WS.same n4.same
 have IL:=s3.trans n4.same
 clear n4 s3 WS
 have WT:=IL _ _ hp2
 have Sj:=N7.same IL
 have Sk:=IL _ _ Se
 have Sl:=Sf.same IL
 have s4:=s2.trans IL
 clear IL hp2 N7 Se Sf s2
 walk_at "go"
 refine ⟨p,us,rs,rfl,WT,Sj,hok,by omega,λ ah H5 UJ N8 N9 hal WU=>?_⟩
 have hp5:=N8 _ _ WT
 have Sm:=N8 _ _ Sk
 have Sn:=Sl.same N8
 have WV:=N8 _ _ Sg
 have WW:=Si.same N8
 have s5:=s4.trans N8
 clear N8 WT Sj Sk Sl Sg Si s4
 walk_at "go"
 refine fP (xs:=us) (λ i ys H'=>aD H5 H' /\ ∃ as:List Addr,ys=as.map V.ref /\ as.length=i /\ as.Nodup /\ ∀ a∈as,H5 a=none /\ H' a=some (.lst [])) ⟨aD.refl _,[],rfl,rfl,iI,λ a h=>nomatch h⟩ ?_ ?_ ?_
 ·rintro i ys H' _ ⟨s',_⟩
  exact bK.of (s' _ _ hp5)
 ·rintro i x ys H6 hx ⟨s6,as,rfl,ha,nd,hh⟩
  have hi:i < us.length:=(eU hx).1
  refine ⟨bP (by rw [au]; omega),?_⟩
  walk_at "go"
  rename_i b H7 n7
  refine ⟨s6.trans n7.same,as++[b],by simp,by simp [ha],?_,λ a h=>?_⟩
  ·rw [d7]
   refine ⟨nd,by simp,λ a h c hc e=>?_⟩
   rw [aC.mp hc] at e
   subst e
   have:=(hh a h).2
   rw [n7.1] at this
   cases this
  ·rcases aK.mp h with h | h
   ·exact ⟨(hh a h).1,n7.keep (hh a h).2⟩
   ·rw [aC.mp h]
    exact ⟨s6.free n7.1,n7.self⟩
 rintro ys H6 ⟨Kx,as,rfl,u9,nd,has⟩ f H7 n7
 have Ku:=n7.self
 have f5:H5 f=none:=Kx.free n7.1
 have fa:f ∉ as:=λ h=>by
  have:=(has f h).2
  rw [n7.1] at this
  cases this
 have IM:∀ a∈as,H5 a=none /\ H7 a=some (.lst []):=λ a h=>⟨(has a h).1,n7.keep (has a h).2⟩
 have UK:=Kx.trans n7.same
 clear n7 Kx has
 have IP:=UK _ _ Sm
 have So:=Sn.same UK
 walk_at "go"
 refine ⟨rd,rzs,rs.map cB,rfl,IP,So,?_,λ l ws qs H8 UL fl hl8 Sq hup hmem=>?_⟩
 ·intro ps hps t ht
  obtain ⟨r,hr,rfl⟩:=aF.mp hps
  exact reads_in (hok r hr) ht
 have Ss:=UL _ _ Ku
 have s58:=UK.trans UL
 have la:l ∉ as:=λ h=>by
  have:=(IM l h).2
  rw [fl] at this
  cases this
 have lf:l ≠ f:=λ e=>by rw [e,Ku] at fl; cases fl
 have ZQ:qs.length <= 16:=i9 (hup.imp λ h=>R8 h) (ys:=cN) λ t ht=>by
  obtain ⟨ps,hps,hq⟩:=(hmem t).mp ht
  obtain ⟨r,hr,rfl⟩:=aF.mp hps
  exact reads_in (hok r hr) hq
 have Oa:∀ a∈as,H5 a=none /\ H8 a=some (.lst []):=λ a h=>⟨(IM a h).1,UL _ _ (IM a h).2⟩
 clear UL Ku IP So IM fl UK
 walk_at "go"
 refine f_list (xs:=ws) (λ i σ' H'=>(∃ x y z u,σ'=[some (.ref p),some (.ref rd),some (.ref gv),some (.ref ah),some (.ref f),x,y,z,u]) /\ aD H5 H' /\ fJ H8 H' /\ H' f=some (.lst (as.map V.ref)) /\ H' l=some (.lst ws) /\ ∀ (k:Nat) a,as[k]? = some a->∃ vs,H' a=some (.lst vs) /\ br H' vs ((qs.take i).filter (isLive rs k))) ?_ ?_ ?_ ?_
 ·exact ⟨⟨_,_,_,_,rfl⟩,s58,fJ.refl _,Ss,hl8,λ k a e=>⟨[],(Oa a (fL e)).2,.nil⟩⟩
 ·rintro i σ' H' _ ⟨_,_,_,_,h,_⟩
  exact bK.of h
 ·rintro i x σ' H9 hx ⟨⟨x5,x6,x7,x8,rfl⟩,s9,t9,Gm,Su,Ob⟩
  obtain ⟨t,hti,b,rfl,Kv⟩:=aW Sq hx
  have YL:=t9 _ _ Kv
  have Fl:=s9 _ _ Sm
  have Oc:=Sn.same s9
  walk_at "go"
  have hrl:=Oc.length
  rw [au] at hrl
  refine Hi (λ j zs τ H'=>aD H9 H' /\ (∃ ns:List Int,zs=ns.map V.int /\ ns.length <= j /\ ∀ y,y∈ns ↔ ∃ (k:Nat) (r:Row),k < j /\ y=((k:Nat):Int) /\ rs[k]? = some r /\ t∈cB r) /\ ∃ x y,τ=[x,y,some (.ref b)]) ?_ ?_ ?_ ?_ ?_
  ·exact ⟨aD.refl _,⟨[],rfl,aO _,λ y=>⟨λ h=>(nomatch h),λ ⟨k,_,h,_⟩=>absurd h (by omega)⟩⟩,_,_,rfl⟩
  ·rintro j zs τ H' _ ⟨s',⟨ns,rfl,hl,_⟩,_⟩
   exact ⟨bK.of (s' _ _ Fl),by rw [au]; exact hl⟩
  ·omega
  ·rintro j x pp zs τ Od Sv hx ⟨qg,⟨ns,rfl,hnl,hns⟩,x0,y0,rfl⟩ qD
   obtain ⟨ps,hps,a,vs,rfl,ha,hvs⟩:=aW Oc hx
   rw [bh] at hps
   obtain ⟨r,YM,rfl⟩:=cO.mp hps
   have Ky:=qg.trans qD.same
   have WX:=Ky _ _ ha
   have Av:=hvs.same Ky
   have WY:=Ky _ _ YL
   have hpp:=qD.self
   clear qD qg
   walk_at "go"
   refine zZ WY (bK.of WX) Av ?_
   have split:∀ y,(∃ (k:Nat) (r:Row),k < j + 1 /\ y=((k:Nat):Int) /\ rs[k]? = some r /\ t∈cB r) ↔ (∃ (k:Nat) (r:Row),k < j /\ y=((k:Nat):Int) /\ rs[k]? = some r /\ t∈cB r) \/ (y=((j:Nat):Int) /\ t∈cB r):=λ y=>by
    constructor
    ·rintro ⟨k,r',h1,h2,h3,h4⟩
     by_cases e:k=j
     ·subst e
      rw [YM] at h3
      cases h3
      exact .inr ⟨h2,h4⟩
     ·exact .inl ⟨k,r',by omega,h2,h3,h4⟩
    ·rintro (⟨k,r',h1,h2,h3,h4⟩ | ⟨h1,h2⟩)
     ·exact ⟨k,r',by omega,h2,h3,h4⟩
     ·exact ⟨j,r,by omega,h1,YM,h2⟩
   by_cases hm:t∈cB r
   ·rw [decide_eq_true hm]
    walk_at "go"
    refine ⟨Ky,⟨ns++[((j:Nat):Int)],by simp,by simp; omega,λ y=>?_⟩,_,_,rfl⟩
    rw [aK,hns y,aC,split y]
    simp only [hm,and_true]
   ·rw [decide_eq_false hm]
    walk_at "go"
    refine ⟨Ky,⟨ns,rfl,by omega,λ y=>?_⟩,_,_,rfl⟩
    rw [hns y,split y]
    simp only [hm,and_false,or_false]
  rintro zs τ Od ⟨qg,⟨ns,rfl,hnl,hns⟩,x0,y0,rfl⟩ cm Sv qD
  rw [hrl] at hnl hns
  walk_at "go"
  rename_i sn Sw Fo
  have Oe:∀ (k:Nat) a,as[k]? = some a->∃ vs,Sw a=some (.lst vs) /\ br Sw vs ((qs.take i).filter (isLive rs k)) /\ Od a=some (.lst vs) /\ Sv a=some (.lst vs):=λ k a e=>by
   obtain ⟨vs,h1,h2⟩:=Ob k a e
   exact ⟨vs,Fo.keep (qD.keep (qg _ _ h1)),h2.same ((qg.trans qD.same).trans Fo.same),qg _ _ h1,qD.keep (qg _ _ h1)⟩
  have s12:=(qg.trans qD.same).trans Fo.same
  have AP:Apart H5 f l cm sn as:=by
   have UM:∀ a∈as,∃ vs,Od a=some (HO.lst vs) /\ Sv a=some (HO.lst vs):=λ a h=>by
    obtain ⟨k,hk⟩:=eX.mp h
    obtain ⟨vs,_,_,h1,h2⟩:=Oe k a hk
    exact ⟨vs,h1,h2⟩
   refine ⟨s9.free (qg.free qD.1),s9.free (qg.free (qD.same.free Fo.1)),λ a h=>(Oa a h).1,bw (qg _ _ Gm) qD.1,bw (qD.keep (qg _ _ Gm)) Fo.1,bw (qg _ _ Su) qD.1,bw (qD.keep (qg _ _ Su)) Fo.1,bw qD.self Fo.1,λ h=>?_,λ h=>?_,fa,la,nd⟩
   ·obtain ⟨vs,h1,_⟩:=UM cm h
    rw [qD.1] at h1
    cases h1
   ·obtain ⟨vs,_,h1⟩:=UM sn h
    rw [Fo.1] at h1
    cases h1
  have L0:uv H5 H8 f l cm sn as ws ns [] (λ k=>(qs.take i).filter (isLive rs k)++if ((k:Nat):Int)∈([]:List Int) then [t] else []) Sw :=
   ⟨s9.trans s12,t9.trans (sT s12),s12 _ _ Gm,s12 _ _ Su,Fo.keep qD.self,Fo.self,λ k a e=>by
    obtain ⟨vs,h1,h2,_⟩:=Oe k a e
    exact ⟨vs,h1,by simpa using h2⟩⟩
  have D0:Au rs t ns []:=by
   refine ⟨λ x hx=>?_,(λ x h=>nomatch h),iI,λ k r h1 h2=>.inr ((hns _).mpr ⟨k,r,(eU h1).1,rfl,h1,h2⟩),(λ k q r _ _ _ h=>nomatch h),by simp; omega⟩
   obtain ⟨k,r,_,rfl,h1,h2⟩:=(hns x).mp hx
   exact ⟨k,rfl,.here h1 h2⟩
  clear qD Fo qg s12 hns hnl Ob Oe Gm Su s9 t9 Fl Oc YL
  refine nQ (λ m σ' H'=>∃ (cs ss:List Int) (x:Option V),σ'=[some (.ref p),some (.ref rd),some (.ref gv),some (.ref ah),some (.ref f),some (.ref b),some (.ref cm),some (.ref sn),x] /\ uv H5 H8 f l cm sn as ws cs ss (λ k=>(qs.take i).filter (isLive rs k)++if ((k:Nat):Int)∈ss then [t] else []) H' /\ Au rs t cs ss /\ m=Sd rs.length ss.length cs.length) ⟨_,ns,[],_,rfl,L0,D0,rfl⟩ ?_
  clear L0 D0
  rintro m σ' YN ⟨cs,ss,x,rfl,L,D,rfl⟩
  have Sx:=L.hc
  walk_at "go"
  rcases List.eq_nil_or_concat cs with e | ⟨cs',y,e⟩
  ·subst e
   rw [if_neg (by decide)]
   walk_at "nxd"
   refine ⟨⟨_,_,_,_,rfl⟩,L.s5,L.t6,L.hf,L.hl,λ k a e=>?_⟩
   obtain ⟨vs,h1,h2⟩:=L.ha k a e
   refine ⟨vs,h1,?_⟩
   rw [BX hti (D.done k)]
   exact h2
  rw [List.concat_eq_append] at e
  subst e
  rw [if_pos (by simp)]
  obtain ⟨ky,O1,YO⟩:=D.c1 y (by simp)
  have hss:=D.few
  have hsh:=D.short hn
  rw [aX,g6] at hsh
  walk_at "go"
  refine s_pop Sx (y:=.int y) (by simp) ?_
  intro H14 Gn
  have ed:(List.map V.int (cs'++[y])).dropLast=cs'.map V.int:=by simp
  rw [ed] at Gn
  have Sy:=L.Sb AP Gn
  clear Gn Sx L ed
  have WZ:=Sy.hs
  by_cases hy:y∈ss
  ·have hv:(!(iw (ss.map λ k=>((.inl k:Key),V.bl true)) (.inl y)).isSome)=false:=by rw [qf,decide_eq_true hy]; rfl
   walk_at "go"
   rw [hv,if_neg (by decide)]
   walk_at "go"
   refine ⟨_,?_,cs',ss,_,rfl,Sy,D.skip hy,rfl⟩
   rw [aX,g6]
   unfold Sd
   omega
  have hv:(!(iw (ss.map λ k=>((.inl k:Key),V.bl true)) (.inl y)).isSome)=true:=by rw [qf,decide_eq_false hy]; rfl
  have hsl:(ss.map λ k=>((.inl k:Key),V.bl true)).length <= 200:=by rw [au]; omega
  have ey:=Fj hy
  have IQ:=Sy.hf
  have P7:=AP.fs
  walk_at "go"
  rw [hv,if_pos rfl]
  walk_at "go"
  rename_i YQ IS
  rw [ey] at IS
  have Of:=Sy.WO AP IS
  clear IS Sy WZ ey hv IQ P7
  have Iv:ky < as.length:=by have:=YO.lt; omega
  have y9:as[ky]? = some as[ky]:=fM Iv
  generalize as[ky]'Iv=a at y9
  obtain ⟨vs,hvs,hps⟩:=Of.ha ky a y9
  have hyk:¬ ((ky:Nat):Int)∈ss:=by rw [<- O1]; exact hy
  rw [if_neg hyk,dY] at hps
  have hvl:vs.length <= 16:=by
   rw [hps.length]
   refine bq (gZ _ _) ?_
   rw [bQ]
   omega
  have W2:=Of.hc
  have hca:cm ≠ a:=λ z=>AP.ca (by rw [z]; exact fL y9)
  have Sz:=Of.s5 _ _ N9
  have haa:ah ≠ a:=bw N9 (AP.a5 a (fL y9))
  refine iy (bK.of Of.hf) (v:=.ref a) (by rw [O1]; exact fq (by rw [bh,y9]; rfl)) ?_
  walk_at "go"
  rename_i YR YS
  have Og:uv H5 H8 f l cm sn as ws cs' (ss++[y]) (λ k=>(qs.take i).filter (isLive rs k)++if ((k:Nat):Int)∈ss++[y] then [t] else []) YR:=by
   have x:=Of.WQ AP (g':=λ k=>(qs.take i).filter (isLive rs k)++if ((k:Nat):Int)∈ss++[y] then [t] else []) y9 hvs YS ?_ λ k hk _=>?_
   ·exact x
   ·show br YQ _ ((qs.take i).filter (isLive rs ky)++if ((ky:Nat):Int)∈ss++[y] then [t] else [])
    rw [if_pos (by rw [<- O1]; simp)]
    exact cC hps ⟨b,rfl,Of.t6 _ _ Kv⟩
   ·have hne:¬ ((k:Nat):Int)=y:=by omega
    simp only [aK,aC,hne,or_false]
  clear YS Of hvs hps W2 Sz
  have Kz:=Og.s5 _ _ N9
  have KA:=Og.s5 _ _ WV
  have KC:=WW.same Og.s5
  have SA:=Og.t6 _ _ Kv
  have SD:ky < UJ.length:=by have:=YO.lt; omega
  have Oh:UJ[ky]? = some UJ[ky]:=fM SD
  generalize UJ[ky]'SD=al at Oh
  obtain ⟨le,hle,aaQ,Fp⟩:=WU.same Og.s5 ky al Oh
  refine iy (bK.of Kz) (v:=.ref al) (by rw [O1]; exact fq (by rw [bh,Oh]; rfl)) ?_
  walk_at "go"
  refine fP (xs:=le.map V.int) (λ j ys H'=>aD YR H' /\ ∃ es:List Int,ys=es.map V.int /\ es.length <= j /\ ∀ z,z∈es ↔ ∃ (k:Nat) (r:Row),z=((k:Nat):Int) /\ z∈le.take j /\ rs[k]? = some r /\ t ∉ aZ r) ⟨aD.refl _,[],rfl,aO _,λ z=>⟨λ h=>(nomatch h),λ ⟨k,r,_,h,_⟩=>by simp at h⟩⟩ ?_ ?_ ?_
  ·rintro j ys H' _ ⟨s',_⟩
   exact bK.of (s' _ _ hle)
  ·rintro j x ys H17 hx ⟨KD,es,rfl,hel,hes⟩
   have hjl:j < (le.map V.int).length:=(eU hx).1
   rw [au] at hjl
   rw [bh] at hx
   obtain ⟨z,hz,rfl⟩:=cO.mp hx
   obtain ⟨k,r,hk,ez,hr,hw⟩:=(Fp z).mp (fL hz)
   obtain ⟨ga,gus,hga,YT,hgp⟩:=(KC.same KD).at hr
   refine ⟨bP (by rw [au]; omega),?_⟩
   have SE:=KD _ _ KA
   have W3:=KD _ _ SA
   walk_at "go"
   refine iy (bK.of SE) (v:=.ref ga) (by rw [ez]; exact fq hga) ?_
   walk_at "go"
   refine Ed W3 (bK.of YT) hgp ?_
   have split:∀ y,(∃ (k:Nat) (r:Row),y=((k:Nat):Int) /\ y∈le.take (j + 1) /\ rs[k]? = some r /\ t ∉ aZ r) ↔ (∃ (k:Nat) (r:Row),y=((k:Nat):Int) /\ y∈le.take j /\ rs[k]? = some r /\ t ∉ aZ r) \/ (y=z /\ t ∉ aZ r):=λ y=>by
    rw [bS,hz]
    simp only [jI,aK,aC]
    constructor
    ·rintro ⟨k',r',h1,h2 | h2,h3,h4⟩
     ·exact .inl ⟨k',r',h1,h2,h3,h4⟩
     ·have e:k'=k:=by omega
      subst e
      rw [hr] at h3
      cases h3
      exact .inr ⟨h2,h4⟩
    ·rintro (⟨k',r',h1,h2,h3,h4⟩ | ⟨h1,h2⟩)
     ·exact ⟨k',r',h1,.inl h2,h3,h4⟩
     ·exact ⟨k,r,by rw [h1,ez],.inr h1,hr,h2⟩
   by_cases hm:t∈aZ r
   ·rw [decide_eq_true hm]
    walk_at "go"
    refine ⟨KD,es,rfl,by omega,λ y=>?_⟩
    rw [hes y,split y]
    simp only [hm,not_true,and_false,or_false]
   ·rw [decide_eq_false hm]
    walk_at "go"
    refine ⟨KD,es++[z],by simp,by simp; omega,λ y=>?_⟩
    rw [aK,hes y,aC,split y]
    simp only [hm,not_false_eq_true,and_true]
  rintro ys H17 ⟨KD,es,rfl,hel,hes⟩ ex H18 W4
  rw [au] at hel hes
  rw [ck] at hes
  have YU:=(Og.same KD).new W4
  have hex:=W4.self
  have aaT:=YU.hc
  have hcl:(cs'.map V.int).length <= 81000:=by rw [au]; omega
  have aaU:(es.map V.int).length <= 400:=by rw [au]; omega
  clear W4 KD Og Kz KA KC SA hle
  walk_at "go"
  rename_i H19 YV
  rw [<- bD] at YV
  have L19:=YU.Sb AP YV
  refine ⟨_,?_,cs'++es,ss++[y],_,rfl,L19,D.step hy (λ z=>?_) (by omega),rfl⟩
  ·have hlt:ss.length < rs.length:=by
    have d2:=(D.step (es:=es) hy (λ z=>?_) (by omega)).few
    ·rw [aX] at d2
     simp at d2
     omega
    ·rw [hes z]
     constructor
     ·rintro ⟨k,r,h1,h2,h3,h4⟩
      obtain ⟨k',r',_,e1,e2,e3⟩:=(Fp z).mp h2
      have e:k'=k:=by omega
      subst e
      rw [h3] at e2
      cases e2
      exact ⟨k',ky,r,h1,O1,h3,e3,h4⟩
     ·rintro ⟨k,j,r,h1,h2,h3,h4,h5⟩
      have e:j=ky:=by omega
      subst e
      exact ⟨k,r,h1,(Fp z).mpr ⟨k,r,(eU h3).1,h1,h3,h4⟩,h3,h5⟩
   rw [aX,aX,aX,g6]
   exact N5 hlt (by omega)
  ·rw [hes z]
   constructor
   ·rintro ⟨k,r,h1,h2,h3,h4⟩
    obtain ⟨k',r',_,e1,e2,e3⟩:=(Fp z).mp h2
    have e:k'=k:=by omega
    subst e
    rw [h3] at e2
    cases e2
    exact ⟨k',ky,r,h1,O1,h3,e3,h4⟩
   ·rintro ⟨k,j,r,h1,h2,h3,h4,h5⟩
    have e:j=ky:=by omega
    subst e
    exact ⟨k,r,h1,(Fp z).mpr ⟨k,r,(eU h3).1,h1,h3,h4⟩,h3,h5⟩
 ·rintro σ' H9 ⟨⟨x5,x6,x7,x8,rfl⟩,s9,t9,Gm,Su,Ob⟩
  walk_at "go"
  refine q f as H9 (s5.trans s9) (s5.free f5) Gm (by omega) nd (λ a h=>s5.free (Oa a h).1) fa λ k a e=>?_
  obtain ⟨vs,h1,h2⟩:=Ob k a e
  refine ⟨vs,h1,?_⟩
  rw [Sq.length,ck,II hok hup (λ q=>?_) k] at h2
  ·exact h2
  ·rw [hmem q]
   constructor
   ·rintro ⟨ps,hps,hq⟩
    obtain ⟨r,hr,rfl⟩:=aF.mp hps
    exact ⟨r,hr,hq⟩
   ·rintro ⟨r,hr,hq⟩
    exact ⟨_,aF.mpr ⟨r,hr,rfl⟩,hq⟩
end
def Row.gv(r:Row)(s:Int):Int:=if r.j5 && (decide (r.sd=s) || decide (r.sd=2)) then r.qe.headD 0 else -1
def Row.rd(r:Row)(s:Int):List Int:=if r.j5 && !(decide (r.sd=s) || decide (r.sd=2)) then [] else r.Ff
theorem rV{bs:List Int}(hb:∀ b∈bs,0 <= b /\ b < 8)(hs:s=0 \/ s=1):(s,b)∈iV r bs ↔ eS r s=true /\ b∈bs:=by
 unfold iV
 rw [kj]
 constructor
 ·rintro ⟨s',_,h⟩
  split at h
  ·rename_i R7
   obtain ⟨b',hb1,e⟩:=aF.mp h
   cases e
   exact ⟨R7,(SN.jR hb b).mp hb1⟩
  ·exact nomatch h
 ·rintro ⟨h1,h2⟩
  refine ⟨s,by simpa using hs,?_⟩
  rw [if_pos h1]
  exact aF.mpr ⟨b,(SN.jR hb b).mpr h2,rfl⟩
theorem mY{n:Int}(h:r.ok n)(hs:s=0 \/ s=1):(s,b)∈cB r ↔ b∈r.rd s:=by
 unfold cB Row.rd
 rw [rV (λ b hb=>jE h b (oj b hb)) hs]
 unfold eS
 cases r.j5 <;> cases decide (r.sd=s) <;> cases decide (r.sd=2) <;> simp
theorem qh(h:r.j5=true):r.qe.take 1=[r.qe.headD 0]:=by cases r <;> first | rfl | cases h
theorem iC{n:Int}(h:r.ok n)(hs:s=0 \/ s=1)(hb:0 <= b):(s,b)∈aZ r ↔ r.gv s=b:=by
 unfold aZ Row.gv
 by_cases hd:r.j5=true
 ·rw [if_pos hd,rV (λ b hb=>jE h b (o5 _ _ hb)) hs,qh hd,aC]
  unfold eS
  rw [hd]
  cases decide (r.sd=s) <;> cases decide (r.sd=2) <;> simp <;> first | omega | exact ⟨λ e=>e.symm,λ e=>e.symm⟩
 ·rw [if_neg hd]
  have:r.j5=false:=by simpa using hd
  rw [this]
  simp
  omega
theorem KH{n:Int}(h:r.ok n)(s:Int):r.gv s < 8:=by
 unfold Row.gv
 split
 ·rename_i e
  have hd:r.j5=true:=by cases hr:r.j5 <;> simp [hr] at e ⊢
  exact (jE h (r.qe.headD 0) (o5 1 _ (by rw [qh hd]; simp))).2
 ·omega
theorem KI{n:Int}(h:r.ok n)(s:Int):∀ b∈r.rd s,0 <= b /\ b < 8:=λ b hb=>by
 unfold Row.rd at hb
 split at hb
 ·exact nomatch hb
 ·exact jE h b (oj b hb)
def SH(ms:List Nat)(r:Row):Nat:=r.ways.foldl (λ m q=>m ||| ms.getD q.toNat 0) 0
def za(m:Nat)(g:Int):Nat:=if 0 <= g then m &&& (255 - 2 ^ g.toNat) else m
def fQ(ms:List Nat)(r:Row)(s:Int):Nat:=(r.rd s).foldl (λ m b=>m ||| 2 ^ b.toNat) (za (SH ms r) (r.gv s))
theorem om{α:Type}(f:α->Nat)(b:Nat):∀ (l:List α) (m0:Nat),(l.foldl (λ m x=>m ||| f x) m0).testBit b=(m0.testBit b || l.any λ x=>(f x).testBit b)
 | [],m0=>by simp
 | x :: l,m0=>by
  rw [List.foldl_cons,om f b l,Nat.testBit_or,gU,Bool.or_assoc]
theorem Aw(ms:List Nat)(r:Row)(b:Nat):(SH ms r).testBit b=r.ways.any λ q=>(ms.getD q.toNat 0).testBit b:=by
 unfold SH
 rw [om]
 simp
theorem Fq:∀ (g b:Fin 8),(255 - 2 ^ g.val:Nat).testBit b.val = !decide (b=g):=by decide
theorem Ft{g:Int}(hg:g < 8){b:Nat}(hb:b < 8):(za m g).testBit b=(m.testBit b && !decide ((b:Int)=g)):=by
 unfold za
 split
 ·rename_i h0
  have:=Fq ⟨g.toNat,by omega⟩ ⟨b,hb⟩
  rw [Nat.testBit_and]
  dsimp only at this
  rw [this]
  congr 2
  simp only [Fin.mk.injEq,decide_eq_decide]
  omega
 ·rw [decide_eq_false (show ¬ (b:Int)=g by omega)]
  simp
theorem IT(m:Nat)(g:Int)(b:Nat)(h:(za m g).testBit b=true):m.testBit b=true:=by
 unfold za at h
 split at h
 ·rw [Nat.testBit_and] at h
  simp only [fB] at h
  exact h.1
 ·exact h
theorem f6{ms:List Nat}{n:Int}(h:r.ok n){b:Nat}(hb:b < 8):(fQ ms r s).testBit b=true ↔ (b:Int)∈r.rd s \/ (¬ r.gv s=b /\ ∃ q∈r.ways,(ms.getD q.toNat 0).testBit b=true):=by
 unfold fQ
 rw [om,Ft (KH h s) hb,Aw]
 simp only [Bool.or_eq_true,fB,List.any_eq_true,Bool.not_eq_true',decide_eq_false_iff_not]
 constructor
 ·rintro (⟨h1,h2⟩ | ⟨x,hx,h3⟩)
  ·exact .inr ⟨λ e=>h2 e.symm,h1⟩
  ·rw [Nat.testBit_two_pow] at h3
   have:=KI h s x hx
   have e:(b:Int)=x:=by
    have:=of_decide_eq_true h3
    omega
   rw [e]
   exact .inl hx
 ·rintro (h1 | ⟨h1,h2⟩)
  ·exact .inr ⟨_,h1,by rw [Nat.testBit_two_pow]; exact decide_eq_true (by omega)⟩
  ·exact .inl ⟨h2,λ e=>h1 e.symm⟩
theorem Fv{ms:List Nat}(hm:∀ m∈ms,m < 256){n:Int}(h:r.ok n)(s:Int):fQ ms r s < 256:=by
 refine Nat.lt_pow_two_of_testBit (n:=8) _ λ i hi=>?_
 unfold fQ
 rw [om]
 have e1:(za (SH ms r) (r.gv s)).testBit i=false:=by
  cases e:(za (SH ms r) (r.gv s)).testBit i with
  | false=>rfl
  | true =>
   have:=IT _ _ _ e
   rw [Aw,List.any_eq_true] at this
   obtain ⟨q,_,hq⟩:=this
   have hl:ms.getD q.toNat 0 < 2 ^ 8:=by
    rw [kg]
    cases e2:ms[q.toNat]? with
    | none=>simp
    | some m=>exact hm m (fL e2)
   rw [Nat.testBit_lt_two_pow (bz hl (Nat.pow_le_pow_right (by decide) hi))] at hq
   cases hq
 rw [e1,Bool.false_or,List.any_eq_false]
 intro x hx
 have:=KI h s x hx
 rw [Nat.testBit_two_pow]
 simp
 omega
structure qi (rs:List Row) (s:Int) (ms:List Nat):Prop where
 len:ms.length=rs.length
 lt:∀ m∈ms,m < 256
 snd:∀ (k:Nat) (m:Nat) (b:Nat),ms[k]? = some m->b < 8->m.testBit b=true->c6 rs (s,(b:Int)) k
 inc:∀ (k:Nat) (m:Nat) (r:Row),ms[k]? = some m->rs[k]? = some r->∀ b,b < 8->m.testBit b=true->(fQ ms r s).testBit b=true
theorem qi.zero(rs:List Row)(s:Int):qi rs s (List.replicate rs.length 0) where
 len:=by simp
 lt:=λ m hm=>by rw [(List.mem_replicate.mp hm).2]; decide
 snd:=λ k m b e _ h=>by
  rw [(List.mem_replicate.mp (fL e)).2] at h
  simp at h
 inc:=λ k m r e _ b _ h=>by
  rw [(List.mem_replicate.mp (fL e)).2] at h
  simp at h
theorem getD_at{α:Type}{l:List α}{x d:α}(h:l[k]? = some x):l.getD k d=x:=by rw [kg,h]; rfl
section
variable {rs:List Row}{s:Int}{ms:List Nat}(hs:s=0 \/ s=1)(hok:∀ r∈rs,r.ok rs.length)
include hs hok
theorem qi.sound(I:qi rs s ms)(hr:rs[k]? = some r){b:Nat}(hb:b < 8)(h:(fQ ms r s).testBit b=true):c6 rs (s,(b:Int)) k:=by
 have ho:=hok r (fL hr)
 rcases (f6 ho hb).mp h with h1 | ⟨h1,q,hq,h2⟩
 ·exact .here hr ((mY ho hs).mpr h1)
 ·have W5:=Row.iU ho q hq
  have hqn:q.toNat < ms.length:=by rw [I.len]; omega
  have e1:ms[q.toNat]? = some ms[q.toNat]:=fM hqn
  rw [getD_at e1] at h2
  have hl:=I.snd q.toNat _ b e1 hb h2
  refine .on (q:=q.toNat) hr (λ hg=>h1 ((iC ho hs (by omega)).mp hg)) ?_ hl
  rw [Int.toNat_of_nonneg W5.1]
  exact hq
theorem qi.set(I:qi rs s ms){m:Nat}(hm:ms[k]? = some m)(hr:rs[k]? = some r):qi rs s (ms.set k (fQ ms r s)):=by
 have hk:k < ms.length:=(eU hm).1
 have get:∀ (j:Nat) (x:Nat),(ms.set k (fQ ms r s))[j]? = some x->(j=k /\ x=fQ ms r s) \/ (j ≠ k /\ ms[j]? = some x):=λ j x e=>by
  rw [List.getElem?_set] at e
  split at e
  ·rename_i e1
   exact .inl ⟨e1.symm,(Option.some.inj e).symm⟩
  ·rename_i e1
   exact .inr ⟨λ z=>e1 z.symm,e⟩
 have mono:∀ (r':Row),r'∈rs->∀ b,b < 8->(fQ ms r' s).testBit b=true->(fQ (ms.set k (fQ ms r s)) r' s).testBit b=true:=λ r' hr' b hb h=>by
  have ho:=hok r' hr'
  rcases (f6 ho hb).mp h with h1 | ⟨h1,q,hq,h2⟩
  ·exact (f6 ho hb).mpr (.inl h1)
  ·refine (f6 ho hb).mpr (.inr ⟨h1,q,hq,?_⟩)
   have W5:=Row.iU ho q hq
   by_cases e:k=q.toNat
   ·rw [kg,List.getElem?_set,if_pos e,if_pos hk]
    rw [<- e,getD_at hm] at h2
    exact I.inc k m r hm hr b hb h2
   ·rw [kg,List.getElem?_set,if_neg e,<- kg]
    exact h2
 refine ⟨by rw [List.length_set]; exact I.len,λ x hx=>?_,λ j x b e hb h=>?_,λ j x r' e hr' b hb h=>?_⟩
 ·obtain ⟨j,hj⟩:=eX.mp hx
  rcases get j x hj with ⟨_,rfl⟩ | ⟨_,e⟩
  ·exact Fv I.lt (hok r (fL hr)) s
  ·exact I.lt x (fL e)
 ·rcases get j x e with ⟨rfl,rfl⟩ | ⟨_,e⟩
  ·exact I.sound hs hok hr hb h
  ·exact I.snd j x b e hb h
 ·rcases get j x e with ⟨rfl,rfl⟩ | ⟨_,e⟩
  ·rw [hr] at hr'
   cases hr'
   exact mono r (fL hr) b hb h
  ·exact mono r' (fL hr') b hb (I.inc j x r' e hr' b hb h)
theorem qi.up(I:qi rs s ms)(hm:ms[k]? = some m)(hr:rs[k]? = some r):m <= fQ ms r s:=by
 have e:m ||| fQ ms r s=fQ ms r s:=by
  refine Nat.eq_of_testBit_eq λ i=>?_
  rw [Nat.testBit_or]
  cases h:m.testBit i with
  | false=>rw [Bool.false_or]
  | true =>
   have hi:i < 8:=by
    rcases bX i 8 with hl | hg
    ·exact hl
    ·rw [Nat.testBit_lt_two_pow (bz (show m < 2 ^ 8 from I.lt m (fL hm)) (Nat.pow_le_pow_right (by decide) hg))] at h
     cases h
   rw [I.inc k m r hm hr i hi h]
   rfl
 rw [<- e]
 exact Nat.left_le_or
theorem qi.done(I:qi rs s ms)(fx:∀ (k:Nat) (r:Row) (m:Nat),rs[k]? = some r->ms[k]? = some m->fQ ms r s=m){b:Nat}(hm:ms[k]? = some m)(hb:b < 8):m.testBit b=true ↔ c6 rs (s,(b:Int)) k:=by
 refine ⟨I.snd k m b hm hb,λ h=>?_⟩
 have all:=nA (rs:=rs) (p:=(s,(b:Int))) (S:=λ k=>∀ m,ms[k]? = some m->m.testBit b=true) (λ k r hr hp m hm=>?_) (λ k q r hr hg hw ih m hm=>?_) k h
 ·exact all m hm
 ·have ho:=hok r (fL hr)
  rw [<- fx k r m hr hm]
  exact (f6 ho hb).mpr (.inl ((mY ho hs).mp hp))
 ·have ho:=hok r (fL hr)
  rw [<- fx k r m hr hm]
  refine (f6 ho hb).mpr (.inr ⟨λ e=>hg ((iC ho hs (by omega)).mpr e),_,hw,?_⟩)
  have W5:=Row.iU ho _ hw
  have hqn:q < ms.length:=by rw [I.len]; omega
  have e1:ms[q]? = some ms[q]:=fM hqn
  rw [gT,getD_at e1]
  exact ih _ e1
end
open HM in
def Row.ends(r:Row):dD->Bool
 | none=>uu (.str r.key) [.str "mark", .str "out", .str "back"]
 | some p=>uu (.str r.key) [.str "look", .str "out", .str "back"] && decide (r.qe.headD 0=p.2)
open HM in
def LeftOf(r:Row):dD->dD->Prop
 | none,u=>r.ends none=false /\ u=none
 | some p,u=>r.ends (some p)=false /\ ((u=some p /\ r.gv p.1 ≠ p.2) \/ (u=some (p.1,r.gv p.1) /\ 0 <= r.gv p.1 /\ p.2∈r.rd p.1))
open HM in
def dD.lv(rs:List Row)(k:Nat):dD->Prop
 | none=>True
 | some p=>p∈lQ rs k
open HM in
def IU(rs:List Row)(r:Row)(t:dD)(z:bf):Prop:=z.1∈r.ways /\ LeftOf r t z.2 /\ dD.lv rs z.1.toNat z.2
open HM in
def Gp:dD->Prop
 | none=>True
 | some p=>(p.1=0 \/ p.1=1) /\ 0 <= p.2 /\ p.2 < 8
theorem LeftOf.ok{n:Int}(h:r.ok n){u:HM.dD}(ht:Gp t)(l:LeftOf r t u):Gp u /\ u.isSome=t.isSome:=by
 cases t with
 | none=>rw [l.2]; exact ⟨trivial,rfl⟩
 | some p =>
  rcases l.2 with ⟨rfl,_⟩ | ⟨rfl,h0,_⟩
  ·exact ⟨ht,rfl⟩
  ·exact ⟨⟨ht.1,h0,KH h _⟩,rfl⟩
theorem Ax{α:Type}(f:α->Int):∀ {xs ys:List α},xs.Pairwise (λ p q=>f p < f q)->ys.Pairwise (λ p q=>f p < f q)->(∀ p,p∈xs ↔ p∈ys)->xs=ys
 | [],[],_,_,_=>rfl
 | [],y :: ys,_,_,h=>absurd ((h y).mpr (by simp)) (by simp)
 | x :: xs,[],_,_,h=>absurd ((h x).mp (by simp)) (by simp)
 | x :: xs,y :: ys,hx,hy,h=>by
  have h1:=l9.mp hx
  have h2:=l9.mp hy
  have e:x=y:=by
   rcases aG.mp ((h x).mp (by simp)) with e | e
   ·exact e
   ·rcases aG.mp ((h y).mpr (by simp)) with e' | e'
    ·exact e'.symm
    ·have:=h1.1 _ e'; have:=h2.1 _ e; omega
  subst e
  rw [Ax f h1.2 h2.2 λ p=>?_]
  constructor
  ·intro hp
   rcases aG.mp ((h p).mp (cX _ hp)) with e | e
   ·rw [e] at hp; have:=h1.1 _ hp; omega
   ·exact e
  ·intro hp
   rcases aG.mp ((h p).mpr (cX _ hp)) with e | e
   ·rw [e] at hp; have:=h2.1 _ hp; omega
   ·exact e
def cJ(r:Row):HM.dD->List HM.dD
 | none=>if r.ends none then [] else [none]
 | some p=>if r.ends (some p) then [] else (if p∈aZ r then [] else [some p])++if p∈cB r then ((aZ r).filter λ q=>decide (q.1=p.1)).map some else []
theorem BY(b:Int):(SN.dB [b]).length <= 1:=by
 have h1:=SN.uX [b]
 have h2:∀ n∈SN.dB [b],n=b:=λ n hn=>by
  unfold SN.dB at hn
  obtain ⟨k,hk,rfl⟩:=aF.mp hn
  have:=(eW.mp hk).2
  simpa using this
 match h:SN.dB [b] with
 | []=>simp
 | [_]=>simp
 | x :: y :: l =>
  rw [h] at h1 h2
  have e1:=h2 x (by simp)
  have e2:=h2 y (by simp)
  have:=(l9.mp h1).1 y (by simp)
  omega
theorem zb(r:Row)(hs:s=0 \/ s=1):((aZ r).filter λ q=>decide (q.1=s)).length <= 1:=by
 unfold aZ
 split
 ·rename_i hd
  have e:=qh hd
  rw [e]
  unfold iV
  have l1:=BY (r.qe.headD 0)
  generalize r.qe.headD 0=hd0 at l1 ⊢
  have all:∀ (s':Int),(((SN.dB [hd0]).map λ b=>(s',b)).filter λ q=>decide (q.1=s))=if s'=s then (SN.dB [hd0]).map λ b=>(s',b) else []:=λ s'=>by
   split
   ·rename_i e
    rw [List.filter_eq_self]
    intro x hx
    obtain ⟨b,_,rfl⟩:=aF.mp hx
    simpa using e
   ·rename_i e
    rw [List.filter_eq_nil_iff]
    intro x hx
    obtain ⟨b,_,rfl⟩:=aF.mp hx
    simpa using e
  simp only [oS,List.flatMap_nil,dY,iH,aX]
  rcases hs with rfl | rfl
  ·have a0:=all 0
   have a1:=all 1
   cases h0:eS r 0 <;> cases h1:eS r 1 <;> simp only [if_true,aS,if_false,a0,a1,List.filter_nil,List.length_nil] <;> simp <;> omega
  ·have a0:=all 0
   have a1:=all 1
   cases h0:eS r 0 <;> cases h1:eS r 1 <;> simp only [if_true,aS,if_false,a0,a1,List.filter_nil,List.length_nil] <;> simp <;> omega
 ·simp
theorem BZ(r:Row):(aZ r).length <= 16:=by
 unfold aZ
 split
 ·unfold iV
  have h:=jX (r.qe.take 1)
  simp only [oS,List.flatMap_nil,dY,aX]
  have e:∀ s:Int,(if eS r s=true then (SN.dB (r.qe.take 1)).map λ b=>(s,b) else []).length <= 8:=λ s=>by split <;> simp [h]
  have h0:=e 0
  have h1:=e 1
  omega
 ·simp
theorem qj(r:Row)(ht:Gp t):(cJ r t).length <= 2:=by
 cases t with
 | none=>unfold cJ; dsimp only; split <;> simp
 | some p =>
  unfold cJ
  dsimp only
  have:=zb r (s:=p.1) ht.1
  split
  ·simp
  ·rw [aX]
   have h1:(if p∈aZ r then ([]:List HM.dD) else [some p]).length <= 1:=by split <;> simp
   have h2:(if p∈cB r then ((aZ r).filter λ q=>decide (q.1=p.1)).map some else ([]:List HM.dD)).length <= 1:=by
    split
    ·rw [au]; exact this
    ·simp
   omega
theorem B0{n:Int}(h:r.ok n)(hg:(s,b)∈aZ r):0 <= b:=by
 unfold aZ at hg
 split at hg
 ·have:=wc (λ b hb=>jE h b (o5 _ _ hb)) hg
  have all:∀ q∈cN,0 <= q.2:=by decide
  exact all _ this
 ·exact nomatch hg
theorem gz{n:Int}(h:r.ok n)(ht:Gp t)(u:HM.dD):u∈cJ r t ↔ LeftOf r t u:=by
 cases t with
 | none =>
  unfold cJ LeftOf
  dsimp only
  cases r.ends none <;> simp
 | some p =>
  obtain ⟨hs,hb0,Kv⟩:=ht
  obtain ⟨s,b⟩:=p
  dsimp only at hs hb0 Kv
  unfold cJ LeftOf
  dsimp only
  cases r.ends (some (s,b)) with
  | true=>simp
  | false =>
   simp only [aS,if_false,true_and]
   rw [aK]
   have e1:u∈(if (s,b)∈aZ r then ([]:List HM.dD) else [some (s,b)]) ↔ (u=some (s,b) /\ r.gv s ≠ b):=by
    have mg:=iC h hs hb0
    split
    ·rename_i e; simp [mg.mp e]
    ·rename_i e; simp [show ¬ r.gv s=b from λ z=>e (mg.mpr z)]
   have e2:u∈(if (s,b)∈cB r then ((aZ r).filter λ q=>decide (q.1=s)).map some else ([]:List HM.dD)) ↔ (u=some (s,r.gv s) /\ 0 <= r.gv s /\ b∈r.rd s):=by
    have mr:=mY h hs (b:=b)
    split
    ·rename_i e
     replace e:=mr.mp e
     rw [aF]
     constructor
     ·rintro ⟨⟨s',b'⟩,hq,rfl⟩
      obtain ⟨hg,hq2⟩:=eW.mp hq
      have hq2:s'=s:=by simpa using hq2
      subst hq2
      have hb':0 <= b':=B0 h hg
      have:=(iC h hs hb').mp hg
      rw [this]
      exact ⟨rfl,hb',e⟩
     ·rintro ⟨rfl,h0,_⟩
      exact ⟨(s,r.gv s),eW.mpr ⟨(iC h hs h0).mpr rfl,by simp⟩,rfl⟩
    ·rename_i e
     simp [show ¬ b∈r.rd s from λ z=>e (mr.mpr z)]
   rw [e1,e2]
def W6(rs:List Row)(k:Nat):HM.dD->Bool
 | none=>true
 | some p=>decide (p∈lQ rs k)
theorem Ay:W6 rs k t=true ↔ dD.lv rs k t:=by cases t <;> simp [W6,dD.lv]
theorem IV(h:uu (.str r.key) [.str "look", .str "out", .str "back"]=true):qF r.vals 1=some (.int (r.qe.headD 0)):=by
 cases r <;> first | rfl | (exact absurd (show uu (.str "num") [.str "look", .str "out", .str "back"]=true from h) (by decide)) | (exact absurd (show uu (.str "copy") [.str "look", .str "out", .str "back"]=true from h) (by decide)) | (exact absurd (show uu (.str "op") [.str "look", .str "out", .str "back"]=true from h) (by decide)) | (exact absurd (show uu (.str "mark") [.str "look", .str "out", .str "back"]=true from h) (by decide))
abbrev iD(H:Hp):List V->List HM.dD->Prop:=Paired λ x t=>cU H t x
theorem iD.same{ts:List HM.dD}(h:iD H vs ts)(e:aD H H'):iD H' vs ts:=cH (λ _ _ x=>cU.same x e) h
section
variable {P:Program}{w:World}{K:az}{mg:Str->Option Value}{base:Heap}
def Fw:Sp:=λ vs H Q _=>∃ (a tk gv:Addr) (x:V) (r:Row) (n:Int) (t:HM.dD) (us ws:List V),vs=[.ref a,x,.ref tk,.ref gv] /\ H a=some (.tup r.vals) /\ r.ok n /\ cU H t x /\ Gp t /\ H tk=some (.lst us) /\ br H us (cB r) /\ H gv=some (.lst ws) /\ br H ws (aZ r) /\
 ∀ (l:Addr) (xs:List V) (H':Hp),aD H H'->H l=none->H' l=some (.lst xs)->iD H' xs (cJ r t)->Q (.ref l) H'
theorem mZ(T:Txt w K mg):bN P w K mg base gJ 1 T.fu.f T.fu.d ["row", "thing", "taken", "given"] Fw:=by
 refine T.fu.F.ok iB (λ vs H Q E h=>?_) (λ cdv A outer s H vs Q E hr h=>?_)
 ·obtain ⟨a,tk,gv,x,r,n,t,us,ws,rfl,_⟩:=h
  rfl
 obtain ⟨a,tk,gv,x,r,n,t,us,ws,rfl,ha,hok,hx,ht,htk,mG,SI,hws,q⟩:=h
 have cm:=T.ia.q
 have cs:=T.ic.q
 refine ⟨_,(ak (cS (aI (DR hr.units) (pv 1) cP (aY _))
 (av (aN (fE (aI fZ (cz d8 (pv 0) ao (λ _ _=>rfl)) (eG (v:=.ref T.ia.a) rfl T.ia.c rfl) (by with_unfolding_all rfl)) (eZ ai) (eZ (aa cP ai)))))
 bC)
 (ak (cS (PW.pt (mw (aI fZ (cz d8 (pv 0) ao (λ _ _=>rfl)) (eG (v:=.ref T.ic.a) rfl T.ic.c rfl) (by with_unfolding_all rfl)) (jL (aI eL (cz d8 (pv 0) ao (λ _ _=>rfl)) (cz d8 (pv 1) ao (λ _ _=>rfl)) (aY _)))))
 (av (aN (eZ ai)))
 bC)
 (ak (aH (i:=4) iB.nd rfl (aq rfl) (fE (aI (yw hr.units) (pv 1) (pv 3) (by with_unfolding_all rfl)) (eZ ai) (eZ (aa (pv 1) ai))))
 (ak (cS (aI (yw hr.units) (pv 1) (pv 2) (by with_unfolding_all rfl))
 (av (fS (ng fm nL nN jO (pv 4) (aa (cI (bA.caps (x := "spot") (fr:=["thing"]) (ix:=[1]) (nm:=["thing"]) rfl rfl (by decide +kernel) rfl (by decide +kernel) rfl (by decide +kernel) ⟨rfl,trivial⟩ rfl (by decide +kernel) rfl ⟨⟨rfl,rfl,rfl⟩,trivial⟩) (b6 (pv 3)) (λ _ _ _ _=>(mH (aI eL (cz (sV (K:=K) rfl) (pv 0) ao (λ _ _=>rfl)) (cz (sV (K:=K) rfl) (pv 1) ao (λ _ _=>rfl)) (aY _)))) (λ _ _ _ _=>(pv 0))) ai))))
 bC)
 (av (aN (pv 4))))))),?_⟩
 show (_:TS) (Ends.mk _ _ _ _) [_,_,_,_,_] H
 walk_at "start"
 walk_at "go"
 refine Kf hx ?_
 cases t with
 | none =>
  show qI _ (.bl true) H
  walk_at "go"
  split
  ·rename_i he
   walk_at "go"
   rename_i l H1 n1
   refine q l [] H1 n1.same n1.1 n1.self ?_
   unfold cJ
   dsimp only
   rw [if_pos (show r.ends none=true from he)]
   exact .nil
  ·rename_i he
   walk_at "go"
   rename_i l H1 n1
   refine q l _ H1 n1.same n1.1 n1.self ?_
   unfold cJ
   dsimp only
   rw [if_neg (show ¬ r.ends none=true from he)]
   exact .cons rfl .nil
 | some p =>
  show qI _ (.bl false) H
  obtain ⟨b,rfl,hb⟩:=hx
  have hwl:=hws.length
  have YT:(aZ r).length <= 16:=BZ r
  walk_at "go"
  have rest:r.ends (some p)=false->YC [some (.ref a),some (.ref b),some (.ref tk),some (.ref gv),none] H:=by
   intro he
   have em:cJ r (some p)=(if p∈aZ r then [] else [some p])++if p∈cB r then ((aZ r).filter λ q=>decide (q.1=p.1)).map some else []:=by
    unfold cJ
    dsimp only
    rw [he]
    rfl
   refine EY _ _ ?_
   walk_at "go"
   refine zZ hb (bK.of SI) hws ?_
   by_cases hg:p∈aZ r
   case' pos =>
    rw [decide_eq_true hg]
    show qI _ (.bl true) H
    walk_at "go"
    rename_i f H1 n1
    have bs:∃ vs,H1 f=some (.lst vs) /\ iD H1 vs (if p∈aZ r then [] else [some p]) /\ vs.length <= 1:=⟨[],n1.self,by rw [if_pos hg]; exact .nil,aO _⟩
   case' neg =>
    rw [decide_eq_false hg]
    show qI _ (.bl false) H
    walk_at "go"
    rename_i f H1 n1
    have bs:∃ vs,H1 f=some (.lst vs) /\ iD H1 vs (if p∈aZ r then [] else [some p]) /\ vs.length <= 1:=⟨[.ref b],n1.self,by rw [if_neg hg]; exact .cons ⟨b,rfl,n1.keep hb⟩ .nil,ay _⟩
   all_goals
    have s1:=n1.same
    have ff:=n1.1
    clear n1
    obtain ⟨vs,hf1,hvs,hvl⟩:=bs
    have hb1:=s1 _ _ hb
    have W7:=s1 _ _ htk
    have W8:=s1 _ _ SI
    have W9:=br.same s1 mG
    have Xa:=br.same s1 hws
    refine zZ hb1 (bK.of W7) W9 ?_
    by_cases hr:p∈cB r
    ·rw [decide_eq_true hr]
     show qI _ (.bl true) H1
     walk_at "go"
     refine fP (xs:=ws) (λ k zs H'=>H'=H1 /\ iD H1 zs ((((aZ r).take k).filter λ q=>decide (q.1=p.1)).map some)) ⟨rfl,.nil⟩ ?_ ?_ ?_
     ·rintro k zs H' _ ⟨rfl,_⟩
      exact bK.of W8
     ·rintro k y zs H' hy ⟨rfl,hz⟩
      obtain ⟨t,Oi,c,rfl,hc⟩:=aW Xa hy
      have SJ:=hz.length
      rw [au] at SJ
      have hle:=gZ (λ q:Int × Int=>decide (q.1=p.1)) ((aZ r).take k)
      rw [bQ] at hle
      refine ⟨bP (by omega),?_⟩
      have et:(aZ r).take (k + 1)=(aZ r).take k++[t]:=by rw [bS,Oi]; rfl
      walk_at "go"
      ·rename_i e
       refine ⟨rfl,?_⟩
       rw [et,iH,bD,oR (by simpa using e)]
       exact cC hz ⟨c,rfl,hc⟩
      ·rename_i e
       refine ⟨rfl,?_⟩
       rw [et,iH,bD,oQ (by simpa using e)]
       simpa using hz
     ·rintro zs H' ⟨rfl,hz⟩ l H2 n2
      rw [hwl,ck] at hz
      have SJ:=hz.length
      rw [au] at SJ
      have hle:=gZ (λ q:Int × Int=>decide (q.1=p.1)) (aZ r)
      have hf2:=n2.keep hf1
      have hl2:=n2.self
      have s2:=n2.same
      clear n2
      walk_at "go"
      rename_i H3 p3
      have s3:=p3.same (s1.trans s2) ff
      have kp:∀ {ys:List V} {ts:List HM.dD},iD H' ys ts->iD H3 ys ts:=λ h=>cH (λ v t x=>by
       cases t with
       | none=>exact x
       | some u=>obtain ⟨c,e1,e2⟩:=x; exact ⟨c,e1,p3.keep (by intro z; subst z; rw [hf1] at e2; cases e2) (s2 _ _ e2)⟩) h
      refine q f _ H3 s3 ff p3.self ?_
      rw [em,if_pos hr]
      exact gw (kp hvs) (kp hz)
    ·rw [decide_eq_false hr]
     show qI _ (.bl false) H1
     walk_at "go"
     refine q f vs H1 s1 ff hf1 ?_
     rw [em,if_neg hr,dY]
     exact hvs
  clear EY
  cases he:uu (.str r.key) [.str "look", .str "out", .str "back"]
  ·rw [if_neg (by decide),if_neg (by decide)]
   refine qO _ (rest ?_)
   unfold Row.ends
   dsimp only
   rw [he]
   rfl
  ·rw [if_pos rfl]
   walk_at "go"
   refine uG (fF.of ha) (IV he) ?_
   walk_at "go"
   ·rename_i e l H1 n1
    refine q l [] H1 n1.same n1.1 n1.self ?_
    have:r.ends (some p)=true:=by
     unfold Row.ends
     dsimp only
     rw [he,decide_eq_true e]
     rfl
    unfold cJ
    dsimp only
    rw [this]
    exact .nil
   ·rename_i e
    refine rest ?_
    unfold Row.ends
    dsimp only
    rw [he,decide_eq_false e]
    rfl
def ja(rs:List Row)(r:Row)(t:HM.dD)(ks:List HM.bf):Prop:=ks.Pairwise (λ x y=>HM.mR x < HM.mR y) /\ ∀ z,z∈ks ↔ IU rs r t z
def Fx:Sp:=λ vs H Q _=>∃ (o th lv:Addr) (ws:List Int) (xs:List V) (ts:List HM.dD) (as:List Addr) (rs:List Row),vs=[.ref o,.ref th,.ref lv] /\ H o=some (.lst (ws.map V.int)) /\ ws.length <= 2 /\ (∀ q∈ws,0 <= q /\ q < rs.length) /\ H th=some (.lst xs) /\ iD H xs ts /\ ts.length <= 2 /\ (∀ t∈ts,Gp t) /\ (∀ t∈ts,∀ u∈ts,t.isSome=u.isSome) /\ H lv=some (.lst (as.map V.ref)) /\ as.length=rs.length /\ wg H as rs /\
 ∀ (l:Addr) (vs:List V) (ks:List HM.bf) (H':Hp),aD H H'->H l=none->H' l=some (.lst vs)->bx H' vs ks->ks.Pairwise (λ x y=>HM.mR x < HM.mR y)->(∀ z,z∈ks ↔ z.1∈ws /\ z.2∈ts /\ dD.lv rs z.1.toNat z.2)->Q (.ref l) H'
theorem zc(T:Txt w K mg):bN P w K mg base gJ 1 T.nY.f T.nY.d ["onward", "things", "lively"] Fx:=by
 refine T.nY.F.ok kG (λ vs H Q E h=>?_) (λ cdv A outer s H vs Q E hr h=>?_)
 ·obtain ⟨o,th,lv,ws,xs,ts,as,rs,rfl,_⟩:=h
  rfl
 obtain ⟨o,th,lv,ws,xs,ts,as,rs,rfl,ho,hw2,hw,J7,hxs,Oj,htk,hal,CF,u9,hL,q⟩:=h
 refine ⟨_,(ak (aH (i:=3) kG.nd rfl (aq rfl) (eZ ai))
 (ak (eK b4 rfl (b6 (pv 0)) (bu (i:=4) kG.nd rfl (bH rfl))
 (av (fS (ng fm nL nN jO (pv 3) (aa (cI (bA.caps (x := "thing") (fr:=["lively", "way"]) (ix:=[2,4]) (nm:=["way", "lively"]) rfl rfl (by decide +kernel) rfl (by decide +kernel) rfl (by decide +kernel) ⟨rfl,⟨rfl,trivial⟩⟩ rfl (by decide +kernel) rfl ⟨⟨rfl,rfl,rfl⟩,⟨⟨rfl,rfl,rfl⟩,trivial⟩⟩) (b6 (pv 1)) (λ _ _ _ _=>(mH (PW.pt (nc (aI ((Hl (K:=K) rfl) hr.units) (pv 0) cP (aY _)) (mq (aI ((zY (K:=K) rfl) hr.units) (pv 0) (cz (jy (K:=K) rfl) (pv 1) (pv 2) (λ _ _=>rfl)) (by with_unfolding_all rfl))))))) (λ _ _ _ _=>(c9 (aa (pv 2) (aa (pv 0) ai))))) ai)))))
 (av (aN (bg (yG hr.units rfl) rfl T.pY BT.pL (aa (fY (By hr.units rfl) rfl T.Ks BT.Dr (aa (pv 3) ai)) ai)))))),?_⟩
 show (_:TS) (Ends.mk _ _ _ _) [_,_,_,_,_] H
 walk_at "start"
 walk_at "go"
 rename_i f H1 n1
 have ff:=n1.1
 have s1:=n1.same
 have hf1:=n1.self
 clear n1
 refine f_list (xs:=ws.map V.int) (λ i σ' H'=>(∃ y,σ'=[some (.ref o),some (.ref th),some (.ref lv),some (.ref f),y]) /\ aD H H' /\ ∃ (vs:List V) (ks:List HM.bf),H' f=some (.lst vs) /\ bx H' vs ks /\ ks.length <= 2 * i /\ ∀ z,z∈ks ↔ z.1∈ws.take i /\ z.2∈ts /\ dD.lv rs z.1.toNat z.2) ?_ ?_ ?_ ?_
 ·exact ⟨⟨_,rfl⟩,s1,[],[],hf1,.nil,aO _,λ z=>by simp⟩
 ·rintro i σ' H' _ ⟨_,s',_⟩
  exact bK.of (s' _ _ ho)
 ·rintro i x σ' H2 hx ⟨⟨y0,rfl⟩,s2,vs,ks,hf2,hks,Iv,hmem⟩
  rw [bh] at hx
  obtain ⟨q0,O0,rfl⟩:=cO.mp hx
  obtain ⟨hq0,hq1⟩:=hw q0 (fL O0)
  have hil:=(eU O0).1
  obtain ⟨j,rfl⟩:∃ j:Nat,q0=(j:Int):=⟨q0.toNat,by omega⟩
  obtain ⟨a,ha⟩:∃ a,as[j]? = some a:=⟨_,fM (by omega)⟩
  obtain ⟨us,mG,hps⟩:=hL j a ha
  have Sa:=s2 _ _ mG
  have Xb:=hps.same s2
  have Ol:=s2 _ _ J7
  have Om:=hxs.same s2
  have SK:=s2 _ _ CF
  have Nx:=hxs.length
  have hnf:∀ {b:Addr} {o:HO},H b=some o->b ≠ f:=λ e z=>by rw [z,ff] at e; cases e
  walk_at "go"
  refine fP (xs:=xs) (λ k zs H'=>aD H2 H' /\ ∃ xB:List HM.bf,bx H' zs xB /\ xB.length <= k /\ ∀ z,z∈xB ↔ z.1=(j:Int) /\ z.2∈ts.take k /\ dD.lv rs j z.2) ⟨aD.refl _,[],.nil,aO _,λ z=>by simp⟩ ?_ ?_ ?_
  ·rintro k zs H' _ ⟨s',_⟩
   exact bK.of (s' _ _ Ol)
  ·rintro k y zs H3 hy ⟨s3,xB,hk2,Xc,hm2⟩
   obtain ⟨t,Oi,hyt⟩:=aW Om hy
   have Oo:=cU.same hyt s3
   have hkb:=(eU hy).1
   have SJ:=hk2.length
   refine ⟨bP (by omega),?_⟩
   walk_at "go"
   refine Kf Oo ?_
   have step:∀ b:Bool,W6 rs j t=b->(b=true->∀ (u:Addr) (H4:Hp),eB H3 u (.tup [.int (j:Int),y]) H4->aD H2 H4 /\ ∃ xB:List HM.bf,bx H4 (zs++[.ref u]) xB /\ xB.length <= k + 1 /\ ∀ z,z∈xB ↔ z.1=(j:Int) /\ z.2∈ts.take (k + 1) /\ dD.lv rs j z.2) /\ (b=false->aD H2 H3 /\ ∃ xB:List HM.bf,bx H3 zs xB /\ xB.length <= k + 1 /\ ∀ z,z∈xB ↔ z.1=(j:Int) /\ z.2∈ts.take (k + 1) /\ dD.lv rs j z.2):=by
    intro b hb
    have et:ts.take (k + 1)=ts.take k++[t]:=by rw [bS,Oi]; rfl
    refine ⟨λ e u H4 n4=>⟨s3.trans n4.same,xB++[((j:Int),t)],cC (bx.same hk2 n4.same) ⟨u,y,rfl,n4.self,cU.same Oo n4.same⟩,by simp; omega,λ z=>?_⟩,λ e=>⟨s3,xB,hk2,by omega,λ z=>?_⟩⟩
    ·rw [e] at hb
     rw [aK,hm2 z,et,aK,aC,aC]
     constructor
     ·rintro (⟨h1,h2,h3⟩ | rfl)
      ·exact ⟨h1,.inl h2,h3⟩
      ·exact ⟨rfl,.inr rfl,Ay.mp hb⟩
     ·rintro ⟨h1,h2 | h2,h3⟩
      ·exact .inl ⟨h1,h2,h3⟩
      ·exact .inr (Prod.ext h1 h2)
    ·rw [e] at hb
     rw [hm2 z,et,aK,aC]
     constructor
     ·rintro ⟨h1,h2,h3⟩
      exact ⟨h1,.inl h2,h3⟩
     ·rintro ⟨h1,h2 | h2,h3⟩
      ·exact ⟨h1,h2,h3⟩
      ·rw [h2] at h3
       rw [Ay.mpr h3] at hb
       cases hb
   cases t with
   | none =>
    show qI _ (.bl true) H3
    walk_at "go"
    rename_i u H4 n4
    exact (step true rfl).1 rfl u H4 n4
   | some p =>
    show qI _ (.bl false) H3
    obtain ⟨b,rfl,hb⟩:=Oo
    have Oq:=s3 _ _ SK
    have BV:=s3 _ _ Sa
    walk_at "go"
    refine iy (bK.of Oq) (v:=.ref a) (fq (by rw [bh,ha]; rfl)) ?_
    walk_at "go"
    refine zZ hb (bK.of BV) (br.same s3 Xb) ?_
    by_cases hm:p∈lQ rs j
    ·rw [decide_eq_true hm]
     show qI _ (.bl true) H3
     walk_at "go"
     rename_i u H4 n4
     exact (step true (decide_eq_true hm)).1 rfl u H4 n4
    ·rw [decide_eq_false hm]
     show qI _ (.bl false) H3
     walk_at "go"
     exact (step false (decide_eq_false hm)).2 rfl
  ·rintro zs H3 ⟨s3,xB,hk2,Xc,hm2⟩ l H4 n4
   have O2:=n4.keep (s3 _ _ hf2)
   have Xd:=bx.same (bx.same hks s3) n4.same
   have SJ:=hk2.length
   have hvl:=hks.length
   have hl4:=n4.self
   have UN:=bx.same hk2 n4.same
   have s04:=(s2.trans s3).trans n4.same
   clear n4
   walk_at "go"
   rename_i H5 p5
   have s5:=p5.same s04 ff
   have sp:∀ (v:V) (k:HM.bf),aQ H4 v k->aQ H5 v k:=λ v k ⟨a1,u,e1,e2,e3⟩=>⟨a1,u,e1,p5.keep (by intro z; subst z; rw [O2] at e2; cases e2) e2,by
    revert e3
    generalize k.2=k2
    intro e3
    cases k2 with
    | none=>exact e3
    | some p=>obtain ⟨b,e4,e5⟩:=e3; exact ⟨b,e4,p5.keep (by intro z; subst z; rw [O2] at e5; cases e5) e5⟩⟩
   refine ⟨⟨_,rfl⟩,s5,_,ks++xB,p5.self,gw (cH sp Xd) (cH sp UN),by simp; omega,λ z=>?_⟩
   rw [aK,hmem z,hm2 z,bS,O0,aK,Nx,ck]
   simp only [jI,aC]
   constructor
   ·rintro (⟨h1,h2,h3⟩ | ⟨h1,h2,h3⟩)
    ·exact ⟨.inl h1,h2,h3⟩
    ·exact ⟨.inr h1,h2,by rw [h1]; exact h3⟩
   ·rintro ⟨h1 | h1,h2,h3⟩
    ·exact .inl ⟨h1,h2,h3⟩
    ·exact .inr ⟨h1,h2,by rw [h1] at h3; exact h3⟩
 ·rintro σ' H2 ⟨⟨y0,rfl⟩,s2,vs,ks,hf2,hks,Iv,hmem⟩
  rw [au] at Iv hmem
  walk_at "go"
  refine Nq (bK.of hf2) hks (by omega) ?_
  intro p H3 zs n3 hz YW
  walk_at "go"
  have hin:∀ z∈zs,z.1.2∈ts:=λ z hz'=>((hmem z.1).mp ((YW _).mp (aF.mpr ⟨z,hz',rfl⟩))).2.1
  refine HH n3.self (λ z hz'=>(hz z hz').same n3.same) (λ z hz' p hp=>?_) (λ z hz' y hy=>hal _ (hin z hz') _ (hin y hy)) ?_
  ·have:=htk _ (hin z hz')
   rw [hp] at this
   obtain ⟨h1,h2,h3⟩:=this
   omega
  ·intro l H4 vs4 ks4 n4 h4 m4 u4
   exact q l vs4 ks4 H4 ((s2.trans n3.same).trans n4.same) ((s2.trans n3.same).free n4.1) n4.self (bx.same h4 n4.same) u4 λ z=>by
    rw [m4,YW,hmem,ck]
end
theorem IW{us:List V}{rs:List Row}(h:Rows H us rs){p:Nat}(hr:rs[p]? = some r):∃ a,qF us (p:Int)=some (.ref a) /\ H a=some (.tup r.vals):=by
 have hp:p < rs.length:=(eU hr).1
 have hl:=h.length
 obtain ⟨y,hy,a,e,ha⟩:=aW h (i:=p) (x:=us[p]'(by omega)) (by simp [show p < us.length by omega])
 rw [hr] at hy
 cases hy
 exact ⟨a,fq (by rw [<- e]; simp [show p < us.length by omega]),ha⟩
def Fy(H0 H:Hp)(rs:List Row)(r:Row)(bs:List Addr)(ts:List HM.dD):Prop:=bs.length=ts.length /\ ∀ (i:Nat) (b:Addr) (t:HM.dD),bs[i]? = some b->ts[i]? = some t->H0 b=none /\ ∃ vs ks,H b=some (.lst vs) /\ bx H vs ks /\ ja rs r t ks
section
variable {P:Program}{w:World}{K:az}{mg:Str->Option Value}{base:Heap}
def B3:Sp:=λ vs H Q _=>∃ (a th lv:Addr) (r:Row) (xs:List V) (ts:List HM.dD) (as:List Addr) (rs:List Row),vs=[.ref a,.ref th,.ref lv] /\ H a=some (.tup r.vals) /\ r.ok rs.length /\ H th=some (.lst xs) /\ iD H xs ts /\ ts.length <= 20 /\ (∀ t∈ts,Gp t) /\ H lv=some (.lst (as.map V.ref)) /\ as.length=rs.length /\ wg H as rs /\
 ∀ (l:Addr) (bs:List Addr) (H':Hp),aD H H'->H l=none->H' l=some (.lst (bs.map V.ref))->Fy H H' rs r bs ts->Q (.ref l) H'
theorem wj(T:Txt w K mg):bN P w K mg base gJ 4 T.lN.f T.lN.d ["row", "things", "lively"] B3:=by
 refine T.lN.F.ok gO (λ vs H Q E h=>?_) (λ cdv A outer s H vs Q E hr h=>?_)
 ·obtain ⟨a,th,lv,r,xs,ts,as,rs,rfl,_⟩:=h
  rfl
 obtain ⟨a,th,lv,r,xs,ts,as,rs,rfl,ha,hok,J7,hxs,YX,hts,CF,u9,hL,q⟩:=h
 refine ⟨_,(ak (aH (i:=3) gO.nd rfl (bH rfl) (aU T.reads (v5 T) hr (aa (pv 0) ai)))
 (ak (aH (i:=4) gO.nd rfl (bH rfl) (aU T.gives (v7 T) hr (aa (pv 0) ai)))
 (ak (aH (i:=5) gO.nd rfl (bH rfl) (aU T.lM (qd T) hr (aa (pv 0) ai)))
 (av (aN (cI (bA.caps (x := "thing") (fr:=["row", "lively", "taken", "given", "onward"]) (ix:=[0,2,3,4,5]) (nm:=["taken", "row", "onward", "lively", "given"]) rfl rfl (by decide +kernel) rfl (by decide +kernel) rfl (by decide +kernel) ⟨rfl,⟨rfl,⟨rfl,⟨rfl,⟨rfl,trivial⟩⟩⟩⟩⟩ rfl (by decide +kernel) rfl ⟨⟨rfl,rfl,rfl⟩,⟨⟨rfl,rfl,rfl⟩,⟨⟨rfl,rfl,rfl⟩,⟨⟨rfl,rfl,rfl⟩,⟨⟨rfl,rfl,rfl⟩,trivial⟩⟩⟩⟩⟩) (b6 (pv 1)) (λ _ _ _ _=>cZ) (λ _ _ _ _=>(aU T.nY (zc T) hr (aa (pv 5) (aa (aU T.fu (mZ T) hr (aa (pv 1) (aa (pv 0) (aa (pv 3) (aa (pv 4) ai))))) (aa (pv 2) ai))))))))))),?_⟩
 show (_:TS) (Ends.mk _ _ _ _) [_,_,_,_,_,_] H
 walk_at "start"
 walk_at "go"
 refine ⟨a,r,rs.length,rfl,ha,hok,λ tk us H1 s1 _ htk mG=>?_⟩
 walk_at "go"
 refine ⟨a,r,rs.length,rfl,s1 _ _ ha,hok,λ gv ws H2 s2 _ SI hws=>?_⟩
 walk_at "go"
 refine ⟨a,r,rfl,s2 _ _ (s1 _ _ ha),λ wy H3 s3 _ hwy=>?_⟩
 have Gq:=s2.trans s3
 have IY:=s1.trans Gq
 have Xe:=Gq _ _ htk
 have BV:=mG.same Gq
 have Xf:=s3 _ _ SI
 have Xg:=hws.same s3
 have ha3:=IY _ _ ha
 have Xh:=IY _ _ J7
 have SM:=hxs.same IY
 have Oq:=IY _ _ CF
 have hL3:wg H3 as rs:=λ k a e=>let ⟨vs,h1,h2⟩:=hL k a e; ⟨vs,IY _ _ h1,h2.same IY⟩
 clear s1 s2 s3 Gq htk mG SI hws ha J7 hxs CF hL
 have Nx:=SM.length
 walk_at "go"
 refine fP (xs:=xs) (λ i ys H'=>aD H3 H' /\ ∃ bs:List Addr,ys=bs.map V.ref /\ Fy H H' rs r bs (ts.take i)) ⟨aD.refl _,[],rfl,by simp,λ i b t h=>by simp at h⟩ ?_ ?_ ?_
 ·rintro i ys H' _ ⟨s',_⟩
  exact bK.of (s' _ _ Xh)
 ·rintro i x ys H4 hx ⟨s4,bs,rfl,R5,zd⟩
  obtain ⟨t,hti,Xi⟩:=aW SM hx
  have hil:=(eU hx).1
  rw [bQ] at R5
  refine ⟨bP (by rw [au]; omega),?_⟩
  have xy:=hts t (fL hti)
  walk_at "go"
  refine ⟨a,tk,gv,x,r,rs.length,t,us,ws,rfl,s4 _ _ ha3,hok,cU.same Xi s4,xy,s4 _ _ Xe,BV.same s4,s4 _ _ Xf,Xg.same s4,λ Rf xs2 H5 s5 _ Ol Om=>?_⟩
  walk_at "go"
  have KJ:=s4.trans s5
  refine ⟨wy,Rf,lv,r.ways,xs2,cJ r t,as,rs,rfl,KJ _ _ hwy,Row.qa r,λ q hq=>?_,Ol,Om,qj r xy,λ u hu=>((gz hok xy u).mp hu |>.ok hok xy).1,λ u hu v hv=>?_,KJ _ _ Oq,u9,λ k a e=>let ⟨vs,h1,h2⟩:=hL3 k a e; ⟨vs,KJ _ _ h1,h2.same KJ⟩,λ l vs6 ks6 H6 s6 fl hl6 Xj u6 m6=>?_⟩
  ·exact Row.iU hok q hq
  ·rw [((gz hok xy u).mp hu |>.ok hok xy).2,((gz hok xy v).mp hv |>.ok hok xy).2]
  ·have s36:=KJ.trans s6
   refine ⟨s36,bs++[l],by simp,by simp; omega,λ j b t' hb ht'=>?_⟩
   rcases bX j bs.length with hlt | hge
   ·rw [List.getElem?_append_left hlt] at hb
    have hj:j < i:=by omega
    rw [oU (by omega)] at ht'
    obtain ⟨h0,vs,ks,h1,h2,h3⟩:=zd j b t' hb (by rw [oU hj]; exact ht')
    exact ⟨h0,vs,ks,(s5.trans s6) _ _ h1,bx.same h2 (s5.trans s6),h3⟩
   ·rw [sD hge] at hb
    have hj:j=i:=by
     have:=(eU hb).1
     simp at this
     omega
    subst hj
    rw [oU (by omega),hti] at ht'
    cases ht'
    rw [show j - bs.length=0 by omega] at hb
    cases hb
    refine ⟨(IY.trans KJ).free fl,vs6,ks6,hl6,Xj,u6,λ z=>?_⟩
    rw [m6 z,gz hok xy]
    rfl
 ·rintro ys H4 ⟨s4,bs,rfl,zd⟩ l H5 n5
  rw [Nx,ck] at zd
  refine q l bs H5 ((IY.trans s4).trans n5.same) ((IY.trans s4).free n5.1) n5.self ⟨zd.1,λ i b t hb ht=>?_⟩
  obtain ⟨h0,vs,ks,h1,h2,h3⟩:=zd.2 i b t hb ht
  exact ⟨h0,vs,ks,n5.keep h1,bx.same h2 n5.same,h3⟩
end
def cK(H:Hp)(rs:List Row)(kvs:dJ):Prop:=∀ x∈kvs,∃ (a:Addr) (vs:List V) (ks:List HM.bf) (k:Nat) (r:Row),x.2.2=.ref a /\ H a=some (.lst vs) /\ bx H vs ks /\ x.1.1=(k:Int) /\ rs[k]? = some r /\ ja rs r x.1.2 ks
def b8(rs:List Row)(k:Nat):List HM.dD:=(lQ rs k).map some++[none]
def bM(rs:List Row)(n:Nat):List HM.bf:=(List.range n).flatMap λ k=>(b8 rs k).map λ t=>((k:Int),t)
theorem cU.uc(h:cU H t v)(hf:H f=some (.ext φ))(p:lX H f o H'):cU H' t v:=by
 cases t with
 | none=>exact h
 | some p2=>obtain ⟨b,e1,e2⟩:=h; exact ⟨b,e1,p.keep (by intro z; subst z; rw [hf] at e2; cases e2) e2⟩
theorem aQ.uc{k:HM.bf}(h:aQ H v k)(hf:H f=some (.ext φ))(p:lX H f o H'):aQ H' v k:=by
 obtain ⟨a,u,e,h1,h2⟩:=h
 exact ⟨a,u,e,p.keep (by intro z; subst z; rw [hf] at h1; cases h1) h1,cU.uc h2 hf p⟩
theorem cK.same(h:cK H rs kvs)(s:aD H H'):cK H' rs kvs:=λ x hx=>by
 obtain ⟨a,vs,ks,k,r,h1,h2,h3,h4⟩:=h x hx
 exact ⟨a,vs,ks,k,r,h1,s _ _ h2,bx.same h3 s,h4⟩
theorem cK.uc(h:cK H rs kvs)(hf:H f=some (.ext φ))(p:lX H f o H'):cK H' rs kvs:=λ x hx=>by
 obtain ⟨a,vs,ks,k,r,h1,h2,h3,h4⟩:=h x hx
 exact ⟨a,vs,ks,k,r,h1,p.keep (by intro z; subst z; rw [hf] at h2; cases h2) h2,cH (λ _ _ x=>aQ.uc x hf p) h3,h4⟩
theorem ze(h:br H vs ps):iD H vs (ps.map some):=by
 induction h with
 | nil=>exact .nil
 | cons h _ ih=>exact .cons h ih
theorem iW(rs:List Row)(k:Nat):(b8 rs k).length <= 17:=by
 have:=we rs k
 unfold b8
 simp
 omega
theorem rW(rs:List Row)(k:Nat):∀ t∈b8 rs k,Gp t:=λ t ht=>by
 unfold b8 at ht
 rcases aK.mp ht with ht | ht
 ·obtain ⟨p,hp,rfl⟩:=aF.mp ht
  have all:∀ t∈cN,(t.1=0 \/ t.1=1) /\ 0 <= t.2 /\ t.2 < 8:=by decide
  exact all p (eW.mp hp).1
 ·rw [aC.mp ht]; trivial
theorem iX(rs:List Row)(n:Nat):bM rs (n + 1)=bM rs n++(b8 rs n).map λ t=>((n:Int),t):=by
 unfold bM
 rw [List.range_succ,List.flatMap_append]
 simp
theorem lR(rs:List Row):∀ n,(bM rs n).length <= 17 * n
 | 0=>by simp [bM]
 | n + 1=>by
  have:=lR rs n
  have h:=iW rs n
  rw [iX,aX,au]
  omega
theorem rX(rs:List Row)(k:Nat):(b8 rs k).Nodup:=by
 unfold b8
 rw [d7]
 refine ⟨?_,by simp,λ x hx y hy e=>?_⟩
 ·have h:(lQ rs k).Nodup:=(List.Pairwise.filter _ (show cN.Pairwise (· ≠ ·) by decide))
  exact ko.mpr (h.imp λ h e=>h (Option.some.inj e))
 ·obtain ⟨p,_,rfl⟩:=aF.mp hx
  rw [aC.mp hy] at e
  cases e
theorem Fz(h:(b8 rs i)[j]? = some t):((i:Int),t) ∉ bM rs i++((b8 rs i).take j).map (λ t=>((i:Int),t)):=by
 intro hm
 rcases aK.mp hm with hm | hm
 ·unfold bM at hm
  obtain ⟨k,hk,hz⟩:=kj.mp hm
  obtain ⟨u,_,e⟩:=aF.mp hz
  have e1:(k:Int)=(i:Int):=congrArg Prod.fst e
  have:=fN.mp hk
  omega
 ·obtain ⟨u,hu,e⟩:=aF.mp hm
  have e2:u=t:=congrArg Prod.snd e
  subst e2
  obtain ⟨m,hm,e3⟩:=List.mem_take_iff_getElem.mp hu
  have hj:=(eU h)
  obtain ⟨hjl,hje⟩:=hj
  have:=(oW (rX rs i)).mp (e3.trans hje.symm)
  omega
section
variable {P:Program}{w:World}{K:az}{mg:Str->Option Value}{base:Heap}
def B4(P:Program)(w:World):Sp:=λ vs H Q _=>∃ (c:Addr) (us:List V) (rs:List Row),vs=[.ref c] /\ H c=some (.lst us) /\ Rows H us rs /\ (∀ r∈rs,r.ok rs.length) /\ rs.length <= 200 /\
 ∀ (d:Addr) (ep:Nat) (kvs:dJ) (H':Hp),aD H H'->H d=none->H' d=some (.ext (cA P w d ep kvs))->bJ H' kvs->kvs.map (·.1)=bM rs rs.length->cK H' rs kvs->Q (.ref d) H'
theorem zf(T:Txt w K mg):bN P w K mg base gJ 5 T.nZ.f T.nZ.d ["code"] (B4 P w):=by
 refine T.nZ.F.ok di (λ vs H Q E h=>?_) (λ cdv A outer s H vs Q E hr h=>?_)
 ·obtain ⟨c,us,rs,rfl,_⟩:=h
  rfl
 obtain ⟨c,us,rs,rfl,hc,hrs,hok,hn,q⟩:=h
 refine ⟨_,(ak (aH (i:=1) di.nd rfl (aq rfl) (aU T.live (IJ T) hr (aa (pv 0) ai)))
 (ak (aH (i:=2) di.nd rfl (aq rfl) vo)
 (ak (eK b4 rfl (nS rfl T.gP (aa (pv 0) ai)) (o9 (n:=2) rfl (bU (bu (i:=3) di.nd rfl (aq rfl)) (bU (bu (i:=4) di.nd rfl (aq rfl)) gG)))
 (ak (aH (i:=5) di.nd rfl (aq rfl) (aJ xV (cz gI (pv 1) (pv 3) (λ _ _=>rfl)) (eZ (aa cP ai))))
 (av (eK b4 rfl (yg rfl T.E8 (aa (pv 5) (aa (aU T.lN (wj T) hr (aa (pv 4) (aa (pv 5) (aa (pv 1) ai)))) ai))) (o9 (n:=2) rfl (bU (bu (i:=6) di.nd rfl (aq rfl)) (bU (bu (i:=7) di.nd rfl (aq rfl)) gG)))
 (av (vp hr.units (pv 2) (c9 (aa (pv 3) (aa (pv 6) ai))) (pv 7) rfl))))))
 (av (aN (pv 2)))))),?_⟩
 show (_:TS) (Ends.mk _ _ _ _) [_,_,_,_,_,_,_,_] H
 walk_at "start"
 walk_at "go"
 refine ⟨c,us,rs,rfl,hc,hrs,hok,hn,λ lv as H1 s1 _ CF u9 _ _ _ hL=>?_⟩
 walk_at "go"
 rename_i d ep H2 n2
 have fd:=(show H d=none from s1.free n2.1)
 have s2:=s1.trans n2.same
 have hd2:=n2.self
 have SK:=n2.keep CF
 have Yj:wg H2 as rs:=λ k a e=>let ⟨vs,h1,h2⟩:=hL k a e; ⟨vs,n2.keep h1,h2.same n2.same⟩
 have fd1:=n2.1
 have s12:=n2.same
 clear n2
 have CH:=hrs.length
 refine yh (xs:=us) (λ i σ' H'=>(∃ y3 y4 y5 y6 y7,σ'=[some (.ref c),some (.ref lv),some (.ref d),y3,y4,y5,y6,y7]) /\ aD H1 H' /\ ∃ ep kvs,H' d=some (.ext (cA P w d ep kvs)) /\ bJ H' kvs /\ kvs.map (·.1)=bM rs i /\ cK H' rs kvs) ?_ ?_ ?_ ?_
 ·exact ⟨⟨_,_,_,_,_,rfl⟩,s12,ep,[],hd2,(λ x hx=>nomatch hx),rfl,λ x hx=>nomatch hx⟩
 ·rintro i σ' H' _ ⟨_,s',_⟩
  exact bK.of (s' _ _ (s1 _ _ hc))
 ·rintro i x p σ' H3 H4 hx ⟨⟨y3,y4,y5,y6,y7,rfl⟩,s3,Xk,kvs,Kw,OX,em,hla⟩ n4
  obtain ⟨r,IK,a,rfl,ha⟩:=aW hrs hx
  have IZ:=hok r (fL IK)
  have O3:aD H1 H4:=s3.trans n4.same
  have YY:=n4.keep Kw
  have UN:=OX.same n4.same
  have SO:=cK.same hla n4.same
  walk_at "go"
  have hil:=(eU IK).1
  obtain ⟨al,hal⟩:∃ a,as[i]? = some a:=⟨_,fM (by omega)⟩
  obtain ⟨ws,hws,hps⟩:=hL i al hal
  have Xl:=O3 _ _ hws
  have hwl:=hps.length
  have hll:=we rs i
  clear n4 Kw OX hla
  refine iy (bK.of (O3 _ _ CF)) (v:=.ref al) (fq (by rw [bh,hal]; rfl)) ?_
  walk_at "go"
  rename_i mk H5 n5 tg H6 n6
  have SQ:=n5.same.trans n6.same
  have O4:=O3.trans SQ
  have UO:=n6.self
  have hts:iD H6 (ws++[.str "mark"]) (b8 rs i):=gw (ze (hps.same O4)) (.cons rfl .nil)
  have Xm:=SQ _ _ YY
  have Xj:=UN.same SQ
  have Xn:=cK.same SO SQ
  clear n5 n6 SQ YY UN SO Xl
  refine ⟨a,tg,lv,r,_,b8 rs i,as,rs,rfl,O4 _ _ (s1 _ _ ha),IZ,UO,hts,bq (iW rs i) (by decide),rW rs i,O4 _ _ CF,u9,λ k a e=>let ⟨vs,h1,h2⟩:=hL k a e; ⟨vs,O4 _ _ h1,h2.same O4⟩,λ l bs H7 s7 _ hl zd=>?_⟩
  walk_at "go"
  have Xo:=s7 _ _ Xm
  have hk7:=Xj.same s7
  have Xp:=cK.same Xn s7
  have Xq:=hts.same s7
  have Xr:=s7 _ _ UO
  have R5:=zd.1
  have YX:=hts.length
  have Iv:kvs.length <= 17 * rs.length:=by
   have h1:=congrArg List.length em
   rw [au] at h1
   have h2:=lR rs i
   have h3:17 * i <= 17 * rs.length:=Nat.mul_le_mul_left _ (by omega)
   omega
  have hld:l ≠ d:=λ z=>by rw [z,Xo] at hl; cases hl
  have htd:tg ≠ d:=λ z=>by rw [z,Xm] at UO; cases UO
  have SR:=iW rs i
  refine QW (t1:=false) (t2:=false) (λ j σ' H'=>(∃ y6 y7,σ'=[some (.ref c),some (.ref lv),some (.ref d),some (.int (i:Int)),some (.ref a),some (.ref tg),y6,y7]) /\ (∀ b o,b ≠ d->H7 b=some o->H' b=some o) /\ ∃ ep kvs',H' d=some (.ext (cA P w d ep kvs')) /\ bJ H' kvs' /\ kvs'.map (·.1)=bM rs i++((b8 rs i).take j).map (λ t=>((i:Int),t)) /\ cK H' rs kvs') ?_ ?_ ?_ ?_
  ·exact ⟨⟨_,_,rfl⟩,λ b o _ e=>e,Xk,kvs,Xo,hk7,by simpa using em,Xp⟩
  ·rintro j σ' H' _ ⟨_,k',_⟩
   exact ⟨bK.of (k' _ _ htd Xr),bK.of (k' _ _ hld hl)⟩
  ·rintro j x y p σ' H8 H9 hx hy ⟨⟨y6,y7,rfl⟩,k8,YZ,I0,Xs,UP,O5,Ot⟩ n9
   obtain ⟨t,htj,Xi⟩:=aW Xq hx
   rw [bh] at hy
   obtain ⟨b,hbj,rfl⟩:=cO.mp hy
   obtain ⟨Y0,bvs,bks,hb7,Xu,Xv⟩:=zd.2 j b t hbj htj
   walk_at "go"
   rename_i tu Od Y3
   have hbd:b ≠ d:=λ z=>by rw [z,Xm] at Y0; cases Y0
   have Y4:∀ {c:Addr} {zs:List V},H7 c=some (.tup zs)->c ≠ d:=λ e z=>by rw [z,Xo] at e; cases e
   have t8:∀ {v:V} {u:HM.dD},cU H7 u v->cU H8 u v:=λ {v u} h=>by
    cases u with
    | none=>exact h
    | some q=>obtain ⟨c,e1,e2⟩:=h; exact ⟨c,e1,k8 _ _ (Y4 e2) e2⟩
   have h8:∀ (v:V) (k:HM.bf),aQ H7 v k->aQ H8 v k:=λ v k ⟨c,u,e1,e2,e3⟩=>⟨c,u,e1,k8 _ _ (Y4 e2) e2,t8 e3⟩
   have wk:=n9.same.trans Y3.same
   have FA:=wk _ _ Xs
   have hkey:aQ Od (.ref tu) ((i:Int),t):=⟨tu,x,rfl,Y3.self,cU.same (t8 Xi) wk⟩
   have Y5:I0.length <= 17 * i + 17:=by
    have h1:=congrArg List.length O5
    rw [au,aX,au,bQ] at h1
    have h2:=lR rs i
    omega
   refine EC FA (UP.same wk) hkey (by omega) ?_
   intro m9 Sv KL
   have hnew:((i:Int),t) ∉ I0.map (·.1):=by
    rw [O5]
    exact Fz htj
   rw [pR hnew] at KL
   refine ⟨⟨_,_,rfl⟩,λ b o hb e=>KL.keep hb (wk _ _ (k8 b o hb e)),m9,_,KL.self,λ z hz=>?_,?_,λ z hz=>?_⟩
   ·rcases aK.mp hz with hz | hz
    ·exact aQ.uc ((UP.same wk) z hz) FA KL
    ·rw [aC.mp hz]; exact aQ.uc hkey FA KL
   ·rw [bD,O5,bS,htj,bD,List.append_assoc]
    rfl
   ·rcases aK.mp hz with hz | hz
    ·exact cK.uc (cK.same Ot wk) FA KL z hz
    ·rw [aC.mp hz]
     exact ⟨b,bvs,bks,i,r,rfl,KL.keep hbd (wk _ _ (k8 _ _ hbd hb7)),cH (λ v k h=>aQ.uc (aQ.same (h8 v k h) wk) FA KL) Xu,rfl,IK,Xv⟩
  ·rintro σ' H8 ⟨⟨y6,y7,rfl⟩,k8,YZ,I0,Xs,UP,O5,Ot⟩
   rw [au,R5,YX,Nat.min_self,ck,<- iX] at O5
   refine Im _ _ ?_
   exact ⟨⟨_,_,_,_,_,rfl⟩,λ b o e=>k8 b o (λ z=>by subst z; rw [fd1] at e; cases e) (s7 _ _ (O4 _ _ e)),YZ,I0,Xs,UP,O5,Ot⟩
 ·rintro σ' H3 ⟨⟨y3,y4,y5,y6,y7,rfl⟩,s3,Xk,kvs,Kw,OX,em,hla⟩
  rw [CH] at em
  walk_at "go"
  exact q d Xk kvs H3 (s1.trans s3) fd Kw OX em hla
end
section
variable {α:Type} [DecidableEq α]
def cu(L:α->List α)(ks:List α)(o:α):List α:=ks.flatMap λ x=>((L x).filter λ z=>decide (z=o)).map λ _=>x
def FD(L:α->List α)(F:List (α × Int)):Prop:=∀ x∈F,1 <= x.2 /\ (∀ o∈L x.1,∃ m,(o,m)∈F /\ m < x.2) /\ (x.2=1 /\ L x.1=[] \/ ∃ o∈L x.1,(o,x.2 - 1)∈F)
structure rY (ks:List α) (L:α->List α) (F:List (α × Int)):Prop where
 nd:(F.map (·.1)).Nodup
 sub:∀ x∈F,x.1∈ks
 fin:FD L F
 out:∀ h∈ks,h ∉ F.map (·.1)->∃ o∈L h,o ∉ F.map (·.1)
def j9(L:α->List α)(G:List α)(h:α):Nat:=((L h).filter λ o=>decide (o ∉ G)).length
structure fz (ks:List α) (L:α->List α) (F:List (α × Int)) (w:α->Int) (R:List α):Prop where
 nd:(F.map (·.1)).Nodup
 sub:∀ x∈F,x.1∈ks
 fin:FD L F
 cnt:∀ h∈ks,w h=j9 L (F.map (·.1)) h
 Ou:R.Nodup
 Gr:∀ h,h∈R ↔ h∈ks /\ h ∉ F.map (·.1) /\ w h=0
theorem B5{L:α->List α}{G:List α}{h:α}(e:j9 L G h=0):∀ o∈L h,o∈G:=λ o ho=>oM λ n=>by
 have:o∈(L h).filter λ o=>decide (o ∉ G):=eW.mpr ⟨ho,decide_eq_true n⟩
 rw [j9] at e
 rw [List.length_eq_zero_iff.mp e] at this
 exact nomatch this
theorem fz.done{ks:List α}{L:α->List α}{F:List (α × Int)}{w:α->Int}(v:fz ks L F w []):rY ks L F:=by
 refine ⟨v.nd,v.sub,v.fin,λ h hk hf=>oM λ n=>?_⟩
 have:h∈([]:List α):=(v.Gr h).mpr ⟨hk,hf,by
  rw [v.cnt h hk]
  have:(L h).filter (λ o=>decide (o ∉ F.map (·.1)))=[]:=List.filter_eq_nil_iff.mpr λ o ho e=>n ⟨o,ho,of_decide_eq_true e⟩
  rw [j9,this]; rfl⟩
 exact nomatch this
theorem fz.start{ks:List α}{L:α->List α}(nd:ks.Nodup):fz ks L [] (λ h=>((L h).length:Int)) (ks.filter λ h=>decide (((L h).length:Int)=0)):=by
 refine ⟨.nil,(λ x hx=>nomatch hx),(λ x hx=>nomatch hx),λ h _=>?_,List.Pairwise.filter _ nd,λ h=>?_⟩
 ·have:(L h).filter (λ o=>decide (o ∉ List.map (·.1) ([]:List (α × Int))))=L h:=List.filter_eq_self.mpr λ o _=>by simp
  rw [j9,this]
 ·rw [eW]
  simp
theorem FE{L:α->List α}{o x:α}:∀ {ks:List α},ks.Nodup->x∈ks->(cu L ks o).count x=(L x).count o:=by
 intro ks
 have each:∀ y,(((L y).filter λ z=>decide (z=o)).map λ _=>y).count x=if y=x then (L x).count o else 0:=λ y=>by
  generalize hn:((L y).filter λ z=>decide (z=o))=l
  have e:l.map (λ _=>y)=List.replicate l.length y:=List.map_const'
  rw [e,List.count_replicate]
  by_cases hy:y=x
  ·subst hy
   simp only [BEq.rfl,if_true]
   rw [<- hn,List.count_eq_length_filter]
   exact congrArg List.length (List.filter_congr λ z _=>by by_cases hz:z=o <;> simp [hz])
  ·rw [if_neg hy,if_neg (by simpa using hy)]
 induction ks with
 | nil=>intro _ h; exact nomatch h
 | cons y ks ih =>
  intro nd hx
  have TQ:=gf.mp nd
  rw [cu,oS,List.count_append,each]
  by_cases hy:y=x
  ·subst hy
   rw [if_pos rfl]
   have z:(ks.flatMap λ x=>((L x).filter λ z=>decide (z=o)).map λ _=>x).count y=0:=by
    rw [List.count_eq_zero]
    intro hm
    obtain ⟨a,ha,hb⟩:=kj.mp hm
    obtain ⟨_,_,rfl⟩:=aF.mp hb
    exact TQ.1 ha
   rw [z]; rfl
  ·rw [if_neg hy,Nat.zero_add]
   exact ih TQ.2 ((aG.mp hx).resolve_left λ e=>hy e.symm)
theorem FF{L:α->List α}{ks:List α}{o x:α}:x∈cu L ks o ↔ x∈ks /\ o∈L x:=by
 unfold cu
 rw [kj]
 constructor
 ·rintro ⟨y,hy,hx⟩
  obtain ⟨z,hz,rfl⟩:=aF.mp hx
  obtain ⟨h1,h2⟩:=eW.mp hz
  rw [of_decide_eq_true h2] at h1
  exact ⟨hy,h1⟩
 ·rintro ⟨hx,ho⟩
  exact ⟨x,hx,aF.mpr ⟨o,eW.mpr ⟨ho,by simp⟩,rfl⟩⟩
theorem B6{L:α->List α}{G:List α}{h x:α}(hG:h ∉ G):j9 L G x=j9 L (G++[h]) x + (L x).count h:=by
 unfold j9
 induction L x with
 | nil=>rfl
 | cons o l ih =>
  by_cases e:o=h
  ·subst e
   rw [oR (by simpa using hG),oQ (by simp),List.count_cons_self,dZ,ih]
   omega
  ·rw [List.count_cons_of_ne e]
   by_cases g:o∈G
   ·rw [oQ (by simp [g]),oQ (by simp [g]),ih]
   ·rw [oR (by simp [g]),oR (by simp [g,e]),dZ,dZ,ih]
    omega
structure lS (ks:List α) (L:α->List α) (G:List α) (E:List α) (j:Nat) (w:α->Int) (R:List α):Prop where
 cnt:∀ x∈ks,w x=j9 L G x + ((E.drop j).count x:Nat)
 Ou:R.Nodup
 Gr:∀ x,x∈R ↔ x∈ks /\ x ∉ G /\ w x=0
theorem fz.pop{ks:List α}{L:α->List α}{F:List (α × Int)}{w:α->Int}{R:List α}{h:α}(nd:ks.Nodup)(v:fz ks L F w (R++[h])):
  h∈ks /\ h ∉ F.map (·.1) /\ (∀ o∈L h,o∈F.map (·.1)) /\ lS ks L (F.map (·.1)++[h]) (cu L ks h) 0 w R:=by
 obtain ⟨h1,h2,h3⟩:=(v.Gr h).mp (by simp)
 have h4:=v.cnt h h1
 refine ⟨h1,h2,B5 (by omega),λ x hx=>?_,(d7.mp v.Ou).1,λ x=>?_⟩
 ·rw [v.cnt x hx,List.drop_zero,FE nd hx,B6 h2]; simp
 ·have hR:h ∉ R:=λ z=>(d7.mp v.Ou).2.2 h z h (by simp) rfl
  have:=v.Gr x
  rw [aK,aC] at this ⊢
  constructor
  ·intro hx
   obtain ⟨a,b,c⟩:=this.mp (.inl hx)
   exact ⟨a,λ z=>z.elim b λ e=>hR (e ▸ hx),c⟩
  ·rintro ⟨a,b,c⟩
   exact (this.mpr ⟨a,λ z=>b (.inl z),c⟩).resolve_right λ e=>b (.inr e)
def qk(w:α->β)(x:α)(n:β):α->β:=λ y=>if y=x then n else w y
theorem lS.next{ks:List α}{L:α->List α}{G:List α}{h:α}{w:α->Int}{R:List α}{x:α}(v:lS ks L (G++[h]) (cu L ks h) j w R)
  (cl:∀ y∈ks,y∈G->∀ o∈L y,o∈G)(hG:h ∉ G)(hL:∀ o∈L h,o∈G)(hx:(cu L ks h)[j]? = some x):
  1 <= w x /\ x∈ks /\ (w x - 1=0->lS ks L (G++[h]) (cu L ks h) (j + 1) (qk w x (w x - 1)) (R++[x])) /\ (w x - 1 ≠ 0->lS ks L (G++[h]) (cu L ks h) (j + 1) (qk w x (w x - 1)) R):=by
 obtain ⟨hk,hh⟩:=FF.mp (fL hx)
 obtain ⟨hj,ej⟩:=eU hx
 have c:=v.cnt x hk
 have ed:∀ y,((cu L ks h).drop j).count y=((cu L ks h).drop (j + 1)).count y + if x=y then 1 else 0:=λ y=>by
  rw [List.drop_eq_getElem_cons hj,ej,List.count_cons]
  by_cases e:x=y <;> simp [e]
 have hw:1 <= w x:=by
  have:=ed x
  rw [if_pos rfl] at this
  omega
 have xG:x ∉ G++[h]:=λ z=>by
  rcases aK.mp z with z | z
  ·exact hG (cl x hk z h hh)
  ·rw [aC.mp z] at hh
   exact hG (hL h hh)
 have cnt:∀ y∈ks,qk w x (w x - 1) y=j9 L (G++[h]) y + (((cu L ks h).drop (j + 1)).count y:Nat):=λ y hy=>by
  have c:=v.cnt y hy
  have e:=ed y
  unfold qk
  by_cases hyx:y=x
  ·subst hyx
   rw [if_pos rfl] at e ⊢
   omega
  ·rw [if_neg λ z=>hyx z.symm] at e
   rw [if_neg hyx]
   omega
 have xR:x ∉ R:=λ z=>by
  have:=((v.Gr x).mp z).2.2
  omega
 refine ⟨hw,hk,λ e0=>⟨cnt,?_,λ y=>?_⟩,λ e0=>⟨cnt,v.Ou,λ y=>?_⟩⟩
 ·rw [d7]
  exact ⟨v.Ou,by simp,λ a ha b hb e=>xR (by rw [aC.mp hb] at e; exact e ▸ ha)⟩
 ·rw [aK,aC]
  unfold qk
  by_cases hyx:y=x
  ·subst hyx
   rw [if_pos rfl]
   exact ⟨λ _=>⟨hk,xG,e0⟩,λ _=>.inr rfl⟩
  ·rw [if_neg hyx]
   exact ⟨λ z=>(v.Gr y).mp (z.resolve_right hyx),λ z=>.inl ((v.Gr y).mpr z)⟩
 ·unfold qk
  by_cases hyx:y=x
  ·subst hyx
   rw [if_pos rfl]
   exact ⟨λ z=>absurd z xR,λ z=>absurd z.2.2 e0⟩
  ·rw [if_neg hyx]
   exact v.Gr y
theorem lS.end{ks:List α}{L:α->List α}{F:List (α × Int)}{h:α}{m:Int}{w0 w:α->Int}{R0 R E:List α}(v0:fz ks L F w0 R0)(v:lS ks L (F.map (·.1)++[h]) E E.length w R)(hk:h∈ks)(hF:h ∉ F.map (·.1))(hL:∀ o∈L h,o∈F.map (·.1))(e:n=1 + m)
  (h0:L h=[]->m=0)(h1:L h ≠ []->(∃ o∈L h,(o,m)∈F) /\ ∀ o∈L h,∀ k,(o,k)∈F->k <= m):fz ks L (F++[(h,n)]) w R:=by
 have em:(F++[(h,n)]).map (·.1)=F.map (·.1)++[h]:=by simp
 have up:∀ o k,(o,k)∈F->(o,k)∈F++[(h,n)]:=λ o k z=>ki _ z
 refine ⟨?_,λ x hx=>?_,λ x hx=>?_,λ x hx=>?_,v.Ou,?_⟩
 ·rw [em,d7]
  exact ⟨v0.nd,by simp,λ a ha b hb z=>hF (by rw [aC.mp hb] at z; exact z ▸ ha)⟩
 ·rcases aK.mp hx with z | z
  ·exact v0.sub x z
  ·rw [aC.mp z]; exact hk
 ·rcases aK.mp hx with z | z
  ·obtain ⟨a,b,c⟩:=v0.fin x z
   refine ⟨a,λ o ho=>let ⟨k,c,d⟩:=b o ho; ⟨k,up _ _ c,d⟩,c.imp_right λ ⟨o,ho,c⟩=>⟨o,ho,up _ _ c⟩⟩
  ·rw [aC.mp z]
   dsimp only
   by_cases hn:L h=[]
   ·have:=h0 hn
    rw [hn]
    exact ⟨by omega,(λ o ho=>nomatch ho),.inl ⟨by omega,rfl⟩⟩
   ·obtain ⟨⟨o,ho,hm⟩,hle⟩:=h1 hn
    have:=(v0.fin _ hm).1
    dsimp only at this
    refine ⟨by omega,λ o ho=>?_,.inr ⟨o,ho,?_⟩⟩
    ·obtain ⟨⟨_,k⟩,hx,rfl⟩:=aF.mp (hL o ho)
     have:=hle _ ho k hx
     exact ⟨k,up _ _ hx,by omega⟩
    ·rw [show n - 1=m by omega]
     exact up _ _ hm
 ·rw [em,v.cnt x hx,List.drop_length]; simp
 ·rw [em]; exact v.Gr
theorem lU{β:Type}:∀ {F:List (α × β)} {o:α} {a b:β},(F.map (·.1)).Nodup->(o,a)∈F->(o,b)∈F->a=b
 | [],_,_,_,_,h,_=>nomatch h
 | x :: F,o,a,b,nd,ha,hb=>by
  rw [bR,gf] at nd
  rcases aG.mp ha with e1 | h1 <;> rcases aG.mp hb with e2 | h2
  ·exact congrArg Prod.snd (e1.trans e2.symm)
  ·exact absurd (by rw [<- e1]; exact aF.mpr ⟨_,h2,rfl⟩) nd.1
  ·exact absurd (by rw [<- e2]; exact aF.mpr ⟨_,h1,rfl⟩) nd.1
  ·exact lU nd.2 h1 h2
end
def qR(H H':Hp):Prop:=∀ b vs,H b=some (.tup vs)->H' b=some (.tup vs)
theorem qR.trans{H1 H2:Hp}(a:qR H H1)(b:qR H1 H2):qR H H2:=λ c vs h=>b c vs (a c vs h)
theorem ql{xs:List V}(hf:H f=some (.lst xs))(p:lX H f o H'):qR H H':=λ b vs h=>p.keep (by intro z; subst z; rw [hf] at h; cases h) h
theorem qm(hf:H f=some (.ext φ))(p:lX H f o H'):qR H H':=λ b vs h=>p.keep (by intro z; subst z; rw [hf] at h; cases h) h
theorem cU.tups(h:cU H t v)(s:qR H H'):cU H' t v:=by
 cases t with
 | none=>exact h
 | some p2=>obtain ⟨b,e1,e2⟩:=h; exact ⟨b,e1,s _ _ e2⟩
theorem aQ.tups{k:HM.bf}(h:aQ H v k)(s:qR H H'):aQ H' v k:=by
 obtain ⟨a,u,e,h1,h2⟩:=h
 exact ⟨a,u,e,s _ _ h1,cU.tups h2 s⟩
theorem bx.tups(h:bx H vs ks)(s:qR H H'):bx H' vs ks:=cH (λ _ _ x=>aQ.tups x s) h
theorem bJ.tups(h:bJ H kvs)(s:qR H H'):bJ H' kvs:=λ x hx=>aQ.tups (h x hx) s
def dW(H:Hp)(kvs:dJ)(L:HM.bf->List HM.bf):Prop:=∀ x∈kvs,∃ a vs,x.2.2=V.ref a /\ H a=some (.lst vs) /\ bx H vs (L x.1)
theorem dW.same(h:dW H kvs L)(s:aD H H'):dW H' kvs L:=λ x hx=>let ⟨a,vs,h1,h2,h3⟩:=h x hx; ⟨a,vs,h1,s _ _ h2,bx.same h3 s⟩
theorem dW.uc(h:dW H kvs L)(hf:H f=some (.ext φ))(p:lX H f o H'):dW H' kvs L:=λ x hx=>let ⟨a,vs,h1,h2,h3⟩:=h x hx; ⟨a,vs,h1,p.keep (by intro z; subst z; rw [hf] at h2; cases h2) h2,bx.tups h3 (qm hf p)⟩
theorem qo:∀ {kvs:dJ} {x:HM.bf × Addr × V},(kvs.map (·.1)).Nodup->x∈kvs->iQ kvs x.1=some x.2.2
 | [],_,_,hx=>nomatch hx
 | y :: kvs,x,nd,hx=>by
  rw [bR,gf] at nd
  unfold iQ
  rw [eE]
  rcases aG.mp hx with rfl | hx
  ·simp
  ·have ne:¬ y.1=x.1:=λ e=>nd.1 (e ▸ l8 hx)
   rw [decide_eq_false ne]
   exact qo nd.2 hx
theorem ud{k:HM.bf}(nd:(kvs.map (·.1)).Nodup)(hk:k∈kvs.map (·.1)):∃ x∈kvs,x.1=k /\ iQ kvs k=some x.2.2:=by
 obtain ⟨x,hx,rfl⟩:=aF.mp hk
 exact ⟨x,hx,rfl,qo nd hx⟩
def jY(ks:List HM.bf)(L:HM.bf->List HM.bf):Prop:=ks.Nodup /\ ks.length <= 4000 /\ ∀ k∈ks,(L k).length <= 4 /\ ∀ o∈L k,o∈ks
theorem wm(L:HM.bf->List HM.bf)(o:HM.bf):∀ ks:List HM.bf,(∀ k∈ks,(L k).length <= 4)->(cu L ks o).length <= 4 * ks.length
 | [],_=>by simp [cu]
 | k :: ks,h=>by
  have h1:=wm L o ks λ k hk=>h k (cX _ hk)
  have h2:=h k (by simp)
  have h3:=gZ (λ z=>decide (z=o)) (L k)
  unfold cu at h1 ⊢
  rw [oS,aX,au,dZ]
  omega
def zg(H0 H:Hp)(kvs:dJ)(L:HM.bf->List HM.bf):Prop:=(kvs.map (·.2.2)).Nodup /\ ∀ x∈kvs,∃ a vs,x.2.2=V.ref a /\ H0 a=none /\ H a=some (.lst vs) /\ bx H vs (L x.1)
theorem zg.same{H0:Hp}(h:zg H0 H kvs L)(s:aD H H'):zg H0 H' kvs L:=⟨h.1,λ x hx=>let ⟨a,vs,h1,h0,h2,h3⟩:=h.2 x hx; ⟨a,vs,h1,h0,s _ _ h2,bx.same h3 s⟩⟩
theorem zh:∀ {kvs:dJ} {x y:HM.bf × Addr × V},(kvs.map (·.2.2)).Nodup->x∈kvs->y∈kvs->x.2.2=y.2.2->x=y
 | [],_,_,_,hx,_,_=>nomatch hx
 | z :: kvs,x,y,nd,hx,hy,e=>by
  rw [bR,gf] at nd
  rcases aG.mp hx with e1 | h1 <;> rcases aG.mp hy with e2 | h2
  ·rw [e1,e2]
  ·exact absurd (by rw [<- e1,e]; exact l8 h2) nd.1
  ·exact absurd (by rw [<- e2,<- e]; exact l8 h1) nd.1
  ·exact zh nd.2 h1 h2 e
section
variable {P:Program}{w:World}{K:az}{mg:Str->Option Value}{base:Heap}
def FG(P:Program)(w:World):Sp:=λ vs H Q _=>∃ (d:Addr) (ep:Nat) (kvs:dJ) (L:HM.bf->List HM.bf),vs=[.ref d] /\ H d=some (.ext (cA P w d ep kvs)) /\ bJ H kvs /\ dW H kvs L /\ jY (kvs.map (·.1)) L /\
 ∀ (d':Addr) (m9:Nat) (kvs':dJ) (H':Hp),aD H H'->H d'=none->H' d'=some (.ext (cA P w d' m9 kvs'))->bJ H' kvs'->kvs'.map (·.1)=kvs.map (·.1)->dW H' kvs' (cu L (kvs.map (·.1)))->Q (.ref d') H'
theorem B7(T:Txt w K mg):bN P w K mg base gJ 1 T.turned.f T.turned.d ["later"] (FG P w):=by
 refine T.turned.F.ok jS (λ vs H Q E h=>?_) (λ cdv A outer s H vs Q E hr h=>?_)
 ·obtain ⟨d,ep,kvs,L,rfl,_⟩:=h
  rfl
 obtain ⟨d,ep,kvs,L,rfl,hd,hk,hl,⟨nd,hn,hL⟩,q⟩:=h
 rw [au] at hn
 refine ⟨_,(ak (aH (i:=1) jS.nd rfl (aq rfl) (fY (pT hr.units rfl) rfl T.E6 BT.Dq (aa (cI (bA.plain rfl (by decide +kernel) (by decide +kernel) rfl (by decide +kernel) rfl) (lq (pv 0)) (λ _ _ _ _=>cZ) (λ _ _ _ _=>(c9 (aa (pv 0) (aa (eZ ai) ai))))) ai)))
 (ak (eK b4 rfl (lq (pv 0)) (bu (i:=2) jS.nd rfl (aq rfl))
 (av (eK b4 rfl (b6 (iA hr.units (pv 0) (pv 2) (λ _ _=>rfl))) (bu (i:=3) jS.nd rfl (aq rfl))
 (av (fS (ng fm nK nM jN (iA hr.units (pv 1) (pv 3) (λ _ _=>rfl)) (aa (pv 2) ai)))))))
 (av (aN (pv 1))))),?_⟩
 show (_:TS) (Ends.mk _ _ _ _) [_,_,_,_] H
 walk_at "start"
 walk_at "go"
 refine tF (kvs:=kvs) (λ i ys H'=>aD H H' /\ ∃ ps:dJ,ps.map (·.1)=(kvs.take i).map (·.1) /\ lu H' ys ps /\ zg H H' ps λ _=>[]) ⟨aD.refl _,[],by simp,.nil,.nil,λ x hx=>nomatch hx⟩ ?_ ?_ ?_
 ·rintro i ys H' _ ⟨s',_⟩
  exact s' _ _ hd
 ·rintro i e ys H1 he ⟨s1,ps,KN,hps,own⟩
  have hil:=(eU he).1
  have hpl:=hps.length
  have h2:=congrArg List.length KN
  rw [au,au,bQ] at h2
  refine ⟨bP (by omega),?_⟩
  walk_at "go"
  rename_i a H2 n2 t H3 n3
  have s3:=n2.same.trans n3.same
  refine ⟨s1.trans s3,ps++[(e.1,e.2.1,.ref a)],?_,cC (cH (λ u p ⟨t,h1,h2,h3⟩=>⟨t,h1,s3 _ _ h2,aQ.same h3 s3⟩) hps) ⟨t,rfl,n3.self,aQ.same (hk e (fL he)) (s1.trans s3)⟩,?_,λ x hx=>?_⟩
  ·rw [bD,KN,bS,he,bD]; rfl
  ·rw [bD,d7]
   refine ⟨own.1,by simp,λ x hx y hy e=>?_⟩
   obtain ⟨z,hz,rfl⟩:=aF.mp hx
   obtain ⟨b,vs,h1,_,h3,_⟩:=own.2 z hz
   rw [List.map_singleton,aC] at hy
   subst hy
   rw [h1] at e
   cases e
   rw [n2.1] at h3
   cases h3
  ·rcases aK.mp hx with hx | hx
   ·exact (zg.same own s3).2 x hx
   ·rw [aC.mp hx]
    exact ⟨a,[],rfl,s1.free n2.1,n3.keep n2.self,.nil⟩
 rintro ys H1 ⟨s1,ps,KN,hps,own⟩ l H2 n2
 rw [ck] at KN
 walk_at "go"
 refine Ab (bK.of n2.self) (cH (λ u p ⟨t,h1,h2,h3⟩=>⟨t,h1,n2.keep h2,aQ.same h3 n2.same⟩) hps) (by rw [KN]; exact nd) ?_
 intro f Bl H3 n3
 have UQ:=n2.same.trans n3.same
 have s3:=s1.trans UQ
 have ff:H f=none:=(s1.trans n2.same).free n3.1
 have hf:=n3.self
 have Xw:=own.same UQ
 have hpk:bJ H3 ps:=λ x hx=>by
  obtain ⟨i,hi,rfl⟩:=o4.mp hx
  obtain ⟨t,_,_,h⟩:=pS hps hi
  rw [kg,fM hi] at h
  exact aQ.same h UQ
 clear n2 n3 UQ own hps s1
 have Y6:(ps.map (·.1)).Nodup:=by rw [KN]; exact nd
 have e0:∀ o,cu L [] o=[]:=λ o=>rfl
 walk_at "go"
 refine HJ (λ i σ' H'=>(∃ y z,σ'=[some (.ref d),some (.ref f),y,z]) /\ aD H H' /\ H' f=some (.ext (cA P w f Bl ps)) /\ bJ H' ps /\ zg H H' ps (cu L ((kvs.map (·.1)).take i))) ?_ ?_ ?_ ?_
 ·exact ⟨⟨_,_,rfl⟩,s3,hf,hpk,by rw [List.take_zero]; exact Xw⟩
 ·rintro i σ' H' _ ⟨_,s',_⟩
  exact s' _ _ hd
 ·rintro i e σ' H4 he ⟨⟨y,z,rfl⟩,s4,O2,Ov,Ja⟩
  have hem:=fL he
  obtain ⟨a,vs,ea,ha,hvs⟩:=hl e hem
  have hil:=(eU he).1
  have hLe:=hL e.1 (l8 hem)
  have hvl:=hvs.length
  walk_at "go"
  refine ly (s4 _ _ hd) (hk.same s4) (aQ.same (hk e hem) s4) ((qo nd hem).trans (congrArg some ea)) ?_
  walk_at "go"
  refine f_list (xs:=vs) (λ j σ' H'=>(∃ z,σ'=[some (.ref d),some (.ref f),some (.ref e.2.1),z]) /\ aD H H' /\ H' f=some (.ext (cA P w f Bl ps)) /\ bJ H' ps /\ zg H H' ps (λ o=>cu L ((kvs.map (·.1)).take i) o++(((L e.1).take j).filter λ z=>decide (z=o)).map λ _=>e.1)) ?_ ?_ ?_ ?_
  ·refine ⟨⟨_,rfl⟩,s4,O2,Ov,?_⟩
   simpa using Ja
  ·rintro j σ' H' _ ⟨_,s',_⟩
   exact bK.of (s' _ _ ha)
  ·rintro j x σ' H5 hx ⟨⟨z,rfl⟩,s5,Fi,Jb,zj⟩
   obtain ⟨o,ho,Y7⟩:=aW hvs hx
   have hom:=hLe.2 o (fL ho)
   obtain ⟨p,hp,rfl,UR⟩:=ud Y6 (by rw [KN]; exact hom)
   obtain ⟨b,bs,eb,fb,hb,zd⟩:=zj.2 p hp
   have Xx:=aQ.same Y7 s5
   obtain ⟨xa,xu,rfl,hxa,hxu⟩:=Y7
   have R5:bs.length < 1000000:=by
    have h1:=zd.length
    have h2:=wm L p.1 ((kvs.map (·.1)).take i) λ k hk=>(hL k (o5 _ _ hk)).1
    have h3:=gZ (λ z=>decide (z=p.1)) ((L e.1).take j)
    rw [aX,au] at h1
    rw [bQ,au] at h2
    rw [bQ] at h3
    omega
   walk_at "go"
   refine ly Fi Jb Xx (UR.trans (congrArg some eb)) ?_
   walk_at "go"
   rename_i H6 p6
   have hfb:f ≠ b:=λ z=>by rw [z,hb] at Fi; cases Fi
   have t6:=ql hb p6
   refine ⟨⟨_,rfl⟩,p6.same s5 fb,p6.keep hfb Fi,bJ.tups Jb t6,zj.1,λ x hx=>?_⟩
   by_cases Xy:x=p
   ·subst Xy
    refine ⟨b,_,eb,fb,p6.self,?_⟩
    dsimp only
    rw [bS,ho,iH,bD,<- List.append_assoc]
    have e1:List.filter (λ z=>decide (z=x.1)) (some x.1).toList=[x.1]:=by simp
    rw [e1]
    exact cC (bx.tups zd t6) (aQ.tups (aQ.same (hk e hem) s5) t6)
   ·obtain ⟨c,cs,ec,fc,hc,hcs⟩:=zj.2 x hx
    refine ⟨c,cs,ec,fc,p6.keep (λ z=>Xy (zh zj.1 hx hp (by rw [ec,eb,z]))) hc,?_⟩
    have hne:¬ p.1=x.1:=λ z=>by
     have h1:=qo Y6 hx
     rw [<- z,UR] at h1
     exact Xy (zh zj.1 hx hp (Option.some.inj h1).symm)
    dsimp only
    rw [bS,ho,iH,bD]
    have e1:List.filter (λ z=>decide (z=x.1)) (some p.1).toList=[]:=by simp [hne]
    rw [e1,List.map_nil,dY]
    exact bx.tups hcs t6
  ·rintro σ' H5 ⟨⟨z,rfl⟩,s5,Fi,Jb,zj⟩
   refine ⟨⟨_,_,rfl⟩,s5,Fi,Jb,?_⟩
   have e1:(λ o=>cu L ((kvs.map (·.1)).take i) o++(((L e.1).take vs.length).filter λ z=>decide (z=o)).map λ _=>e.1)=cu L ((kvs.map (·.1)).take (i + 1)):=by
    funext o
    rw [hvl,ck,bS,bh,he]
    unfold cu
    rw [List.flatMap_append]
    simp
   rw [<- e1]
   exact zj
 ·rintro σ' H4 ⟨⟨y,z,rfl⟩,s4,O2,Ov,Ja⟩
  rw [<- au (f:=λ x:HM.bf × Addr × V=>x.1),ck] at Ja
  walk_at "go"
  exact q f Bl ps H4 s4 ff O2 Ov KN λ x hx=>let ⟨a,vs,h1,_,h2,h3⟩:=Ja.2 x hx; ⟨a,vs,h1,h2,h3⟩
end
def gA(kvs:dJ)(F:List (HM.bf × Int)):Prop:=kvs.map (λ x=>(x.1,x.2.2))=F.map λ p=>(p.1,V.int p.2)
theorem gA.keys{F:List (HM.bf × Int)}(e:gA kvs F):kvs.map (·.1)=F.map (·.1):=by
 have h:=congrArg (List.map (·.1)) e
 rw [eV,eV] at h
 exact h
theorem wo:∀ {kvs:dJ} {F:List (HM.bf × Int)},gA kvs F->∀ {o:HM.bf},o∈F.map (·.1)->∃ n,(o,n)∈F /\ iQ kvs o=some (.int n)
 | [],[],_,_,ho=>nomatch ho
 | [],_ :: _,e,_,_=>nomatch e
 | _ :: _,[],e,_,_=>nomatch e
 | x :: kvs,y :: F,e,o,ho=>by
  unfold gA at e
  rw [bR,bR] at e
  obtain ⟨e1,e2⟩:=List.cons.inj e
  have a1:x.1=y.1:=congrArg Prod.fst e1
  have a2:x.2.2=V.int y.2:=congrArg Prod.snd e1
  unfold iQ
  rw [eE]
  by_cases h:x.1=o
  ·rw [decide_eq_true h]
   exact ⟨y.2,by rw [<- h,a1]; simp,congrArg some a2⟩
  ·rw [decide_eq_false h]
   rw [bR] at ho
   obtain ⟨n,h1,h2⟩:=wo (kvs:=kvs) (F:=F) e2 ((aG.mp ho).resolve_left λ z=>h (a1.trans z.symm))
   exact ⟨n,cX _ h1,h2⟩
theorem FH{F:List (HM.bf × Int)}{k:HM.bf}(e:gA kvs F)(hk:k ∉ F.map (·.1)):iz kvs k a (.int n)=kvs++[(k,a,.int n)] /\ gA (kvs++[(k,a,.int n)]) (F++[(k,n)]):=by
 refine ⟨pR (by rw [e.keys]; exact hk),?_⟩
 unfold gA at e ⊢
 rw [bD,bD,e]
 rfl
theorem lV:∀ {kvs:dJ} {k:HM.bf},k∈kvs.map (·.1)->(iQ kvs k).isSome=true
 | [],_,h=>nomatch h
 | x :: kvs,k,h=>by
  unfold iQ
  rw [eE]
  by_cases e:x.1=k
  ·rw [decide_eq_true e]; rfl
  ·rw [decide_eq_false e]
   exact lV (kvs:=kvs) ((aG.mp h).resolve_left λ z=>e z.symm)
def FnAt(kvs:dJ)(ks:List HM.bf)(g:HM.bf->Int):Prop:=kvs.map (·.1)=ks /\ ∀ x∈kvs,x.2.2=V.int (g x.1)
theorem FnAt.val{g:HM.bf->Int}(h:FnAt kvs ks g){k:HM.bf}(hk:k∈ks):iQ kvs k=some (.int (g k)):=by
 have:=lV (kvs:=kvs) (k:=k) (by rw [h.1]; exact hk)
 unfold iQ at this ⊢
 cases e:kvs.find? (λ x=>decide (x.1=k)) with
 | none=>rw [e] at this; cases this
 | some x =>
  have h1:=h.2 x (List.mem_of_find?_eq_some e)
  have h2:=List.find?_some e
  rw [of_decide_eq_true h2] at h1
  exact congrArg some h1
theorem FnAt.put{g:HM.bf->Int}(h:FnAt kvs ks g){k:HM.bf}(hk:k∈ks):FnAt (iz kvs k a (.int n)) ks (qk g k n):=by
 unfold iz
 rw [if_pos (lV (by rw [h.1]; exact hk))]
 constructor
 ·rw [eV,<- h.1]
  apply List.map_congr_left
  intro x _
  show (if x.1=k then (x.1,x.2.1,V.int n) else x).1=x.1
  split <;> rfl
 ·intro y hy
  obtain ⟨x,hx,rfl⟩:=aF.mp hy
  unfold qk
  split
  ·rfl
  ·exact h.2 x hx
theorem FI{k:HM.bf}(h:bJ H kvs)(hk:k∈kvs.map (·.1)):bJ H (iz kvs k a v):=by
 unfold iz
 rw [if_pos (lV hk)]
 intro y hy
 obtain ⟨x,hx,rfl⟩:=aF.mp hy
 split
 ·exact h x hx
 ·exact h x hx
theorem nB{α β:Type}{F:α->β->Prop}:∀ {xs:List α} {ys:List β},Paired F xs ys->∀ {i:Nat} {y:β},ys[i]? = some y->∃ x,xs[i]? = some x /\ F x y
 | _,_,.nil,i,x,h=>by simp at h
 | _,_,.cons a t,0,x,h=>by simp at h; subst h; exact ⟨_,rfl,a⟩
 | _,_,.cons a t,i + 1,x,h=>nB t (by simpa using h)
theorem nC{α β:Type}{F:α->β->Prop}:∀ {xs:List α} {x:α} {ys:List β},Paired F (xs++[x]) ys->∃ US y,ys=US++[y] /\ Paired F xs US /\ F x y
 | [],_,_,.cons h .nil=>⟨[],_,rfl,.nil,h⟩
 | _ :: _,_,_,.cons h t=>by
  obtain ⟨US,y,rfl,h1,h2⟩:=nC t
  exact ⟨_ :: US,y,rfl,.cons h h1,h2⟩
section
variable {P:Program}{w:World}{K:az}{mg:Str->Option Value}{base:Heap}
def Jc(P:Program)(w:World):Sp:=λ vs H Q _=>∃ (d:Addr) (ep:Nat) (kvs:dJ) (L:HM.bf->List HM.bf),vs=[.ref d] /\ H d=some (.ext (cA P w d ep kvs)) /\ bJ H kvs /\ dW H kvs L /\ jY (kvs.map (·.1)) L /\
 ∀ (d':Addr) (m9:Nat) (kvs':dJ) (F:List (HM.bf × Int)) (H':Hp),aD H H'->H d'=none->H' d'=some (.ext (cA P w d' m9 kvs'))->bJ H' kvs'->gA kvs' F->rY (kvs.map (·.1)) L F->Q (.ref d') H'
theorem FJ(T:Txt w K mg):bN P w K mg base gJ 2 T.ended.f T.ended.d ["later"] (Jc P w):=by
 refine T.ended.F.ok gr (λ vs H Q E h=>?_) (λ cdv A outer s H vs Q E hr h=>?_)
 ·obtain ⟨d,ep,kvs,L,rfl,_⟩:=h
  rfl
 obtain ⟨d,ep,kvs,L,rfl,hd,hk,hl,hok,q⟩:=h
 refine ⟨_,(ak (aH (i:=1) gr.nd rfl (aq rfl) (aU T.turned (B7 T) hr (aa (pv 0) ai)))
 (ak (aH (i:=2) gr.nd rfl (bH rfl) (fY (pT hr.units rfl) rfl T.E6 BT.Dq (aa (cI (bA.caps (x := "harm") (fr:=["later"]) (ix:=[0]) (nm:=["later"]) rfl rfl (by decide +kernel) rfl (by decide +kernel) rfl (by decide +kernel) ⟨rfl,trivial⟩ rfl (by decide +kernel) rfl ⟨⟨rfl,rfl,rfl⟩,trivial⟩) (lq (pv 0)) (λ _ _ _ _=>cZ) (λ _ _ _ _=>(c9 (aa (pv 0) (aa (bg (pH (K:=K) rfl) rfl T.gQ BT.gK (aa (mS (P:=P) (w:=w) rfl rfl hr.units (pv 1) (pv 0) (λ _ _=>rfl)) ai)) ai))))) ai)))
 (ak (kT (i:=3) gr.nd rfl (aq rfl) (bA.caps (x := "harm") (fr:=["waiting"]) (ix:=[2]) (nm:=["waiting"]) rfl rfl (by decide +kernel) rfl (by decide +kernel) rfl (by decide +kernel) ⟨rfl,trivial⟩ rfl (by decide +kernel) rfl ⟨⟨rfl,rfl,rfl⟩,trivial⟩) (lq (pv 0)) (λ _ _ _ _=>(mH (aI eL (mS (P:=P) (w:=w) rfl rfl hr.units (pv 1) (pv 0) (λ _ _=>rfl)) ao (aY _)))) (λ _ _ _ _=>(pv 0)))
 (ak (aH (i:=4) gr.nd rfl (bH rfl) vo)
 (ak (jr b4 (mK (pv 3) (λ _=>rfl))
 (ak (aH (i:=5) gr.nd rfl (aq rfl) (Dc fm PySem.F.slot_list_pop PySem.F.type_list_pop De (pv 3)))
 (ak (vp hr.units (pv 4) (pv 5) (aJ cF ao (HV rfl rfl T.Kr (aa (cI (bA.caps (x := "other") (fr:=["found"]) (ix:=[4]) (nm:=["found"]) rfl rfl (by decide +kernel) rfl (by decide +kernel) rfl (by decide +kernel) ⟨rfl,trivial⟩ rfl (by decide +kernel) rfl ⟨⟨rfl,rfl,rfl⟩,trivial⟩) (b6 (iA hr.units (pv 0) (pv 5) (λ _ _=>rfl))) (λ _ _ _ _=>cZ) (λ _ _ _ _=>(mS (P:=P) (w:=w) rfl rfl hr.units (pv 1) (pv 0) (λ _ _=>rfl)))) ai) ao)) rfl)
 (av (eK b4 rfl (b6 (iA hr.units (pv 1) (pv 5) (λ _ _=>rfl))) (bu (i:=6) gr.nd rfl (aq rfl))
 (ak (Ey hr.units (pv 2) (pv 6) ao LB (λ _ _ _=>rfl))
 (av (cS (aI eL (iA hr.units (pv 2) (pv 6) (λ _ _=>rfl)) ao (aY _))
 (av (fS (ng fm nK nM jN (pv 3) (aa (pv 6) ai))))
 bC))))))))
 (av (aN (pv 4)))))))),?_⟩
 show (_:TS) (Ends.mk _ _ _ _) [_,_,_,_,_,_,_] H
 walk_at "start"
 walk_at "go"
 refine ⟨d,ep,kvs,L,rfl,hd,hk,hl,hok,λ e epE Xz H1 s1 fe he hke Y8 hle=>?_⟩
 obtain ⟨nd,hn,hL⟩:=hok
 generalize Jd:kvs.map (·.1)=ks at *
 have hkn:kvs.length <= 4000:=by rw [<- Jd,au] at hn; exact hn
 have hd1:=s1 _ _ hd
 have hk1:=hk.same s1
 have hl1:=dW.same hl s1
 clear hd hk hl
 walk_at "go"
 refine tF (kvs:=kvs) (λ i ys H'=>aD H1 H' /\ lu H' ys ((kvs.take i).map λ x=>(x.1,x.2.1,V.int (L x.1).length))) ⟨aD.refl _,by rw [List.take_zero]; exact .nil⟩ ?_ ?_ ?_
 ·rintro i ys H' _ ⟨s',_⟩
  exact s' _ _ hd1
 ·rintro i x ys H2 hx ⟨s2,hps⟩
  have hil:=(eU hx).1
  have hpl:=hps.length
  rw [au,bQ] at hpl
  have Je:=fL hx
  obtain ⟨a,vs,ea,ha,hvs⟩:=hl1 x Je
  have hvl:=hvs.length
  refine ⟨bP (by omega),?_⟩
  walk_at "go"
  refine ly (s2 _ _ hd1) (hk1.same s2) (aQ.same (hk1 x Je) s2) ((qo (by rw [Jd]; exact nd) Je).trans (congrArg some ea)) ?_
  have ha2:=s2 _ _ ha
  walk_at "go"
  rename_i t H3 n3
  refine ⟨s2.trans n3.same,?_⟩
  rw [bS,hx,bD]
  exact cC (cH (λ u p ⟨t,h1,h2,h3⟩=>⟨t,h1,n3.keep h2,aQ.same h3 n3.same⟩) hps) ⟨t,rfl,by have z:=n3.self; rw [hvl] at z; exact z,aQ.same (hk1 x Je) (s2.trans n3.same)⟩
 rintro ys H2 ⟨s2,hps⟩ l H3 n3
 rw [ck] at hps
 walk_at "go"
 refine Ab (bK.of n3.self) (cH (λ u p ⟨t,h1,h2,h3⟩=>⟨t,h1,n3.keep h2,aQ.same h3 n3.same⟩) hps) (by rw [eV]; exact (show (kvs.map (·.1)).Nodup by rw [Jd]; exact nd)) ?_
 intro wt SS H4 n4
 have s4:aD H1 H4:=(s2.trans n3.same).trans n4.same
 have fwt:H1 wt=none:=(s2.trans n3.same).free n4.1
 have UT:=n4.self
 have Y9:FnAt (kvs.map λ x=>(x.1,x.2.1,V.int (L x.1).length)) ks λ h=>((L h).length:Int):=⟨by rw [eV]; exact Jd,λ x hx=>by obtain ⟨y,_,rfl⟩:=aF.mp hx; rfl⟩
 have XA:bJ H4 (kvs.map λ x=>(x.1,x.2.1,V.int (L x.1).length)):=λ x hx=>by obtain ⟨y,hy,rfl⟩:=aF.mp hx; exact aQ.same (hk1 y hy) s4
 generalize (kvs.map λ x=>(x.1,x.2.1,V.int (L x.1).length))=Az at *
 clear n3 n4 hps s2
 walk_at "go"
 refine tF (kvs:=kvs) (λ i ys H'=>aD H4 H' /\ bx H' ys ((ks.take i).filter λ h=>decide (((L h).length:Int)=0))) ⟨aD.refl _,.nil⟩ ?_ ?_ ?_
 ·rintro i ys H' _ ⟨s',_⟩
  exact s' _ _ (s4 _ _ hd1)
 ·rintro i x ys H5 hx ⟨s5,hys⟩
  have hil:=(eU hx).1
  have hyl:=hys.length
  have hfl:=gZ (λ h=>decide (((L h).length:Int)=0)) (ks.take i)
  rw [bQ] at hfl
  have Je:=fL hx
  have hxk:x.1∈ks:=by rw [<- Jd]; exact l8 Je
  have hxi:ks[i]? = some x.1:=by rw [<- Jd,bh,hx]; rfl
  have hkx:=aQ.same (hk1 x Je) (s4.trans s5)
  refine ⟨bP (by omega),?_⟩
  walk_at "go"
  refine ly (s5 _ _ UT) (XA.same s5) hkx (Y9.val hxk) ?_
  walk_at "go"
  ·rename_i h0
   refine ⟨s5,?_⟩
   rw [bS,hxi,iH]
   have e1:List.filter (λ h=>decide (((L h).length:Int)=0)) (some x.1).toList=[x.1]:=by simpa using h0
   rw [e1]
   exact cC hys hkx
  ·rename_i h0
   refine ⟨s5,?_⟩
   rw [bS,hxi,iH]
   have e1:List.filter (λ h=>decide (((L h).length:Int)=0)) (some x.1).toList=[]:=by simpa using h0
   rw [e1,dY]
   exact hys
 rintro ys H5 ⟨s5,hys⟩ rd H6 n6
 have ekl:kvs.length=ks.length:=by rw [<- Jd,au]
 rw [ekl,ck] at hys
 have Kx:=s5.trans n6.same
 have s6:=s4.trans Kx
 have Za:H1 rd=none:=(s4.trans s5).free n6.1
 have hrd:=n6.self
 have SV:=bx.same hys n6.same
 have Jg:=Kx _ _ UT
 have SW:=XA.same Kx
 have Ow:rd ≠ wt:=λ z=>by rw [z] at n6; have:=s5 _ _ UT; rw [n6.1] at this; cases this
 clear n6 hys UT XA Kx s5 s4
 walk_at "go"
 rename_i f KO H7 n7
 have s7:=s6.trans n7.same
 have ff:H1 f=none:=s6.free n7.1
 have Ku:=n7.self
 have IP:=n7.keep hrd
 have XC:=n7.keep Jg
 have N2:=bx.same SV n7.same
 have XD:=SW.same n7.same
 have SX:f ≠ wt:=λ z=>by rw [z] at n7; rw [n7.1] at Jg; cases Jg
 have Ox:f ≠ rd:=λ z=>by rw [z] at n7; rw [n7.1] at hrd; cases hrd
 clear n7 hrd Jg SV SW s6
 refine nQ (λ m σ' H'=>(∃ y5 y6,σ'=[some (.ref d),some (.ref e),some (.ref wt),some (.ref rd),some (.ref f),y5,y6]) /\ aD H1 H' /\ ∃ vs R SS Az g KO xC F,H' rd=some (.lst vs) /\ bx H' vs R /\ H' wt=some (.ext (cA P w wt SS Az)) /\ bJ H' Az /\ FnAt Az ks g /\ H' f=some (.ext (cA P w f KO xC)) /\ bJ H' xC /\ gA xC F /\ fz ks L F g R /\ m=ks.length - F.length) ?_ ?_
 ·exact ⟨_,⟨_,_,rfl⟩,s7,ys,_,SS,Az,_,KO,[],[],IP,N2,XC,XD,Y9,Ku,(λ x hx=>nomatch hx),rfl,fz.start nd,rfl⟩
 rintro m σ' H8 ⟨⟨y5,y6,rfl⟩,s8,vs,R,XH,XI,g,XJ,xC,F,Jh,Ji,SY,S0,fn8,Ss,Oz,UU,inv,rfl⟩
 walk_at "go"
 have hFl:F.length <= ks.length:=by
  have:=i9 inv.nd (ys:=ks) λ x hx=>by obtain ⟨y,hy,rfl⟩:=aF.mp hx; exact inv.sub y hy
  rw [au] at this
  exact this
 rcases List.eq_nil_or_concat vs with rfl | ⟨vs0,v,rfl⟩
 ·cases Ji
  refine Dz rfl ?_
  walk_at "go"
  exact q f XJ xC F H8 (s1.trans s8) (s1.free ff) Ss Oz UU inv.done
 rw [List.concat_eq_append] at Jh Ji ⊢
 obtain ⟨R0,h,rfl,S1,Zb⟩:=nC Ji
 obtain ⟨S2,UW,XM,UM⟩:=inv.pop nd
 refine Dy (by simp) ⟨_,λ _ _ x=>x,?_⟩
 walk_at "go"
 refine s_pop Jh (y:=v) (by simp) ?_
 rw [List.dropLast_concat]
 intro H9 p9
 have t9:=ql Jh p9
 have s9:=p9.same s8 Za
 have Fl:=p9.self
 have S3:=bx.tups S1 t9
 have Jj:=aQ.tups Zb t9
 have S4:=p9.keep (aV Ow) SY
 have S5:=bJ.tups S0 t9
 have Gm:=p9.keep Ox Ss
 have OA:=bJ.tups Oz t9
 clear p9 t9 Jh Ji S1 Zb SY S0 Ss Oz s8
 obtain ⟨x,Je,rfl,hxv⟩:=ud (kvs:=kvs) (k:=h) (by rw [Jd]; exact nd) (by rw [Jd]; exact S2)
 obtain ⟨a,as,ea,ha,has⟩:=hl1 x Je
 have hL4:=hL x.1 S2
 have u9:=has.length
 have hv:=Jj
 obtain ⟨vb,vu,rfl,_,_⟩:=hv
 walk_at "go"
 refine ly (s9 _ _ hd1) (hk1.same s9) Jj (hxv.trans (congrArg some ea)) ?_
 have Ob:=s9 _ _ ha
 have S6:=bx.same has s9
 have Zc:=UU.keys
 walk_at "go"
 refine fP (xs:=as) (λ j ys H'=>aD H9 H' /\ ∃ ns:List Int,ys=ns.map V.int /\ Paired (λ n o=>(o,n)∈F) ns ((L x.1).take j)) ⟨aD.refl _,[],rfl,.nil⟩ ?_ ?_ ?_
 ·rintro j ys H' _ ⟨s',_⟩
  exact bK.of (s' _ _ Ob)
 ·rintro j y ys Od hy ⟨qg,ns,rfl,hns⟩
  obtain ⟨o,ho,S7⟩:=aW S6 hy
  have hjl:=(eU hy).1
  have hnl:=hns.length
  rw [bQ] at hnl
  refine ⟨bP (by rw [au]; omega),?_⟩
  obtain ⟨n,hn1,hn2⟩:=wo UU (XM o (fL ho))
  have XN:=aQ.same S7 qg
  obtain ⟨yb,yu,rfl,_,_⟩:=S7
  walk_at "go"
  refine ly (qg _ _ Gm) (OA.same qg) XN hn2 ?_
  refine ⟨qg,ns++[n],by simp,?_⟩
  rw [bS,ho]
  exact cC hns hn1
 rintro ys Od ⟨qg,ns,rfl,hns⟩ ml Sv qD
 rw [u9,ck] at hns
 have ue:=qg.trans qD.same
 have hml:=qD.self
 have Ky:=s9.trans ue
 have KP:=ue _ _ Fl
 have Av:=bx.same S3 ue
 have AA:=aQ.same Jj ue
 have KQ:=ue _ _ S4
 have KR:=S5.same ue
 have OB:=ue _ _ Gm
 have FL:=OA.same ue
 clear qD qg ue Fl S3 Jj S4 S5 Gm OA s9 Ob S6
 walk_at "go"
 refine Ny (bK.of hml) λ m hm0 hm1=>?_
 walk_at "go"
 have abm:xC.length=F.length:=by have:=congrArg List.length Zc; rw [au,au] at this; exact this
 refine EC OB FL AA (by omega) ?_
 intro S8 Sw OC
 obtain ⟨ep1,XQ⟩:=FH (a:=vb) (n:=1 + m) UU UW
 rw [ep1] at OC
 have O6:=qm OB OC
 have s12:=OC.same Ky ff
 have S9:=OC.self
 have KS:bJ Sw (xC++[(x.1,vb,.int (1 + m))]):=λ y hy=>by
  rcases aK.mp hy with hy | hy
  ·exact aQ.tups (FL y hy) O6
  ·rw [aC.mp hy]; exact aQ.tups AA O6
 have KU:=OC.keep (aV Ox) KP
 have KW:=bx.tups Av O6
 have Tc:=aQ.tups AA O6
 have KY:=OC.keep (aV SX) KQ
 have KZ:=bJ.tups KR O6
 clear OC O6 hml KP Av AA KQ KR OB FL Ky
 obtain ⟨pe,hpe,epx,UR⟩:=ud (kvs:=Xz) (k:=x.1) (by rw [Y8]; exact nd) (by rw [Y8]; exact S2)
 obtain ⟨b,bs,eb,hb,zd⟩:=hle pe hpe
 rw [epx] at zd
 walk_at "go"
 refine ly (s12 _ _ he) (hke.same s12) Tc (UR.trans (congrArg some eb)) ?_
 have XR:=s12 _ _ hb
 walk_at "go"
 have cl:∀ y∈ks,y∈F.map (·.1)->∀ o∈L y,o∈F.map (·.1):=λ y _ hy o ho=>by
  obtain ⟨z,hz,rfl⟩:=aF.mp hy
  obtain ⟨n,hn,_⟩:=(inv.fin z hz).2.1 o ho
  exact aF.mpr ⟨_,hn,rfl⟩
 refine f_list (xs:=bs) (λ j σ' H'=>(∃ z,σ'=[some (.ref d),some (.ref e),some (.ref wt),some (.ref rd),some (.ref f),some (.ref vb),z]) /\ aD H1 H' /\ ∃ vs R SS Az g,H' rd=some (.lst vs) /\ bx H' vs R /\ H' wt=some (.ext (cA P w wt SS Az)) /\ bJ H' Az /\ FnAt Az ks g /\ H' f=some (.ext (cA P w f S8 (xC++[(x.1,vb,.int (1 + m))]))) /\ bJ H' (xC++[(x.1,vb,.int (1 + m))]) /\ lS ks L (F.map (·.1)++[x.1]) (cu L ks x.1) j g R) ?_ ?_ ?_ ?_
 ·exact ⟨⟨_,rfl⟩,s12,vs0,R0,XH,XI,g,KU,KW,KY,KZ,fn8,S9,KS,UM⟩
 ·rintro j σ' H' _ ⟨_,s',_⟩
  exact bK.of (s' _ _ hb)
 ·rintro j y σ' YN hy ⟨⟨z0,rfl⟩,Gq,vs,R,K0,Az,g,AB,AD,rZ,r6,B8,Jk,AE,B9⟩
  clear KU KW KY KZ S9 KS s12 XR
  obtain ⟨o,ho,S7⟩:=aW zd hy
  obtain ⟨hw1,hok,hyes,hno⟩:=B9.next cl UW XM ho
  have AF:=aQ.same S7 Gq
  obtain ⟨yb,yu,rfl,_,_⟩:=S7
  have hWl:Az.length=ks.length:=by rw [<- B8.1,au]
  walk_at "go"
  refine ly rZ r6 AF (B8.val hok) ?_
  walk_at "go"
  refine M0 ?_
  refine EC rZ r6 AF (by omega) ?_
  intro K1 H14 Gn
  have Td:=qm rZ Gn
  have O3:=Gn.same Gq fwt
  have FN:=Gn.self
  have FO:=bJ.tups (FI (a:=yb) (v:=.int (g o - 1)) r6 (by rw [B8.1]; exact hok)) Td
  have OD:FnAt (iz Az o yb (.int (g o - 1))) ks (qk g o (g o - 1)):=B8.put hok
  have K2:=Gn.keep Ow AB
  have FP:=bx.tups AD Td
  have IQ:=Gn.keep SX Jk
  have K3:=bJ.tups AE Td
  have K4:=aQ.tups AF Td
  clear Gn Td Gq AB AD rZ r6 Jk AE AF
  have hvl:=FP.length
  have hRl:=i9 B9.Ou (ys:=ks) λ y hy=>((B9.Gr y).mp hy).1
  walk_at "go"
  refine ly FN FO K4 (OD.val hok) ?_
  have eg:qk g o (g o - 1) o=g o - 1:=by unfold qk; rw [if_pos rfl]
  rw [eg]
  walk_at "go"
  ·rename_i h0 YQ IS
   have UX:=ql K2 IS
   exact ⟨⟨_,rfl⟩,IS.same O3 Za,_,_,K1,_,_,IS.self,cC (bx.tups FP UX) (aQ.tups K4 UX),IS.keep (aV Ow) FN,bJ.tups FO UX,OD,IS.keep Ox IQ,bJ.tups K3 UX,hyes h0⟩
  ·rename_i h0
   exact ⟨⟨_,rfl⟩,O3,_,_,K1,_,_,K2,FP,FN,FO,OD,IQ,K3,hno h0⟩
 ·rintro σ' YN ⟨⟨z0,rfl⟩,Gq,vs,R,K0,Az,g,AB,AD,rZ,r6,B8,Jk,AE,B9⟩
  rw [zd.length] at B9
  refine Im _ _ ?_
  have hlt:F.length + 1 <= ks.length:=by
   have h1:(F.map (·.1)++[x.1]).Nodup:=by
    rw [d7]
    exact ⟨inv.nd,by simp,λ a ha b hb z=>UW (by rw [aC.mp hb] at z; exact z ▸ ha)⟩
   have:=i9 h1 (ys:=ks) λ y hy=>by
    rcases aK.mp hy with hy | hy
    ·obtain ⟨z,hz,rfl⟩:=aF.mp hy; exact inv.sub z hz
    ·rw [aC.mp hy]; exact S2
   rw [aX,au] at this
   exact this
  refine ⟨ks.length - (F++[(x.1,1 + m)]).length,by rw [aX]; simp; omega,⟨_,_,rfl⟩,Gq,vs,R,K0,Az,g,S8,_,_,AB,AD,rZ,r6,B8,Jk,AE,XQ,lS.end inv B9 S2 UW XM rfl (λ e0=>?_) (λ e0=>?_),rfl⟩
  ·rw [e0] at hns
   cases hns
   exact hm0 rfl
  ·have hne:ns ≠ []:=λ z=>by rw [z] at hns; cases Zd:L x.1 with
    | nil=>exact e0 Zd
    | cons _ _=>rw [Zd] at hns; cases hns
   obtain ⟨h1,h2⟩:=hm1 hne
   obtain ⟨i,hi,ei⟩:=o4.mp h1
   obtain ⟨o,ho,hoF⟩:=aW hns (i:=i) (x:=m) (by rw [fM hi,ei])
   refine ⟨⟨o,fL ho,hoF⟩,λ o ho k hk=>?_⟩
   obtain ⟨j,hj,ej⟩:=o4.mp ho
   obtain ⟨n,hn,hnF⟩:=nB hns (i:=j) (y:=o) (by rw [fM hj,ej])
   rw [lU inv.nd hk hnF]
   exact h2 n (fL hn)
end
section
variable {α:Type} [DecidableEq α]
theorem lW{ks:List α}{L:α->List α}{F G:List (α × Int)}(hF:rY ks L F)(hG:rY ks L G):∀ (n:Nat) (h:α) (m:Int),m.toNat <= n->(h,m)∈F->(h,m)∈G
 | 0,h,m,hn,hm=>by have:=(hF.fin _ hm).1; dsimp only at this; omega
 | n + 1,h,m,hn,hm=>by
  obtain ⟨h1,h2,h3⟩:=hF.fin _ hm
  dsimp only at h1 h2 h3
  have ih:∀ o∈L h,∀ k,(o,k)∈F->(o,k)∈G:=λ o ho k hk=>by
   obtain ⟨k',hk',hlt⟩:=h2 o ho
   have e:=lU hF.nd hk hk'
   subst e
   have:=(hF.fin _ hk).1
   dsimp only at this
   exact lW hF hG n o k (by omega) hk
  have hin:h∈G.map (·.1):=oM λ no=>by
   obtain ⟨o,ho,hno⟩:=hG.out h (hF.sub _ hm) no
   obtain ⟨k,hk,_⟩:=h2 o ho
   exact hno (aF.mpr ⟨_,ih o ho k hk,rfl⟩)
  obtain ⟨⟨_,m'⟩,hm',rfl⟩:=aF.mp hin
  obtain ⟨g1,g2,g3⟩:=hG.fin _ hm'
  dsimp only at g1 g2 g3 h1 h2 h3 ih hm
  have e:m'=m:=by
   rcases h3 with ⟨e1,e2⟩ | ⟨o,ho,Nf⟩
   ·rcases g3 with ⟨e3,_⟩ | ⟨o,ho,_⟩
    ·omega
    ·rw [e2] at ho; exact nomatch ho
   ·rcases g3 with ⟨_,e3⟩ | ⟨o',ho',ho2⟩
    ·rw [e3] at ho; exact nomatch ho
    ·obtain ⟨k,hk,hlt⟩:=g2 o ho
     have a:=lU hG.nd hk (ih o ho _ Nf)
     obtain ⟨k',hk',hlt'⟩:=h2 o' ho'
     have b:=lU hG.nd (ih o' ho' _ hk') ho2
     omega
  rw [<- e]
  exact hm'
def ig(ks:List α)(L:α->List α)(F:List (α × Int)):Prop:=rY ks L F /\ F.length=ks.length
theorem Jl{ks:List α}{L:α->List α}{F G:List (α × Int)}(nd:ks.Nodup)(hF:ig ks L F)(hG:rY ks L G):G.length=ks.length:=by
 have h1:F.length <= G.length:=by
  have:=i9 hF.1.nd (ys:=G.map (·.1)) λ x hx=>by
   obtain ⟨⟨h,m⟩,hm,rfl⟩:=aF.mp hx
   exact aF.mpr ⟨_,lW hF.1 hG _ h m (ay _) hm,rfl⟩
  rwa [au,au] at this
 have h2:G.length <= ks.length:=by
  have:=i9 hG.nd (ys:=ks) λ x hx=>by obtain ⟨y,hy,rfl⟩:=aF.mp hx; exact hG.sub y hy
  rwa [au] at this
 have:=hF.2
 omega
theorem ig.mem{ks:List α}{L:α->List α}{F:List (α × Int)}(nd:ks.Nodup)(h:ig ks L F){x:α}(hx:x∈ks):∃ n,(x,n)∈F:=by
 have:x∈F.map (·.1):=oM λ no=>by
  have h1:(F.map (·.1)++[x]).Nodup:=by
   rw [d7]
   exact ⟨h.1.nd,by simp,λ a ha b hb z=>no (by rw [aC.mp hb] at z; exact z ▸ ha)⟩
  have:=i9 h1 (ys:=ks) λ y hy=>by
   rcases aK.mp hy with hy | hy
   ·obtain ⟨z,hz,rfl⟩:=aF.mp hy; exact h.1.sub z hz
   ·rw [aC.mp hy]; exact hx
  rw [aX,au,h.2,g6] at this
  omega
 obtain ⟨⟨_,n⟩,hn,rfl⟩:=aF.mp this
 exact ⟨n,hn⟩
def jZ(ks:List α)(L:α->List α)(m:Int):Prop:=∃ F,ig ks L F /\ (∃ x∈F,x.2=m) /\ ∀ x∈F,x.2 <= m
theorem Ca{ks:List α}{L:α->List α}{m:Int}(h:jZ ks L m)(g:jZ ks L n):m=n:=by
 obtain ⟨F,hF,⟨x,hx,rfl⟩,h1⟩:=h
 obtain ⟨G,hG,⟨y,hy,rfl⟩,g1⟩:=g
 have a:=h1 _ (lW hG.1 hF.1 _ y.1 y.2 (ay _) hy)
 have b:=g1 _ (lW hF.1 hG.1 _ x.1 x.2 (ay _) hx)
 dsimp only at a b
 omega
end
theorem Jm{ls:List HM.bf}(h:ja rs r t ks)(g:ja rs r t ls):ks=ls:=Ax HM.mR h.1 g.1 λ z=>(h.2 z).trans (g.2 z).symm
theorem FQ{n:Int}(hok:r.ok n)(ht:Gp t)(h:ja rs r t ks):ks.length <= 4:=by
 have nd:ks.Nodup:=h.1.imp λ h e=>by rw [e] at h; omega
 have h1:ks.length <= (r.ways.flatMap λ q=>(cJ r t).map λ u=>(q,u)).length:=i9 nd λ z hz=>by
  obtain ⟨a1,a2,_⟩:=(h.2 z).mp hz
  exact kj.mpr ⟨z.1,a1,aF.mpr ⟨z.2,(gz hok ht _).mpr a2,rfl⟩⟩
 have h2:=Row.qa r
 have h3:=qj r ht
 have h4:∀ ws:List Int,(ws.flatMap λ q=>(cJ r t).map λ u=>(q,u)).length=ws.length * (cJ r t).length:=λ ws=>by
  induction ws with
  | nil=>simp
  | cons w ws ih=>rw [oS,aX,ih,au,dZ,Nat.succ_mul,Nat.add_comm]
 rw [h4] at h1
 exact bq h1 (Nat.mul_le_mul h2 h3)
open Classical in
def eT(rs:List Row)(h:HM.bf):List HM.bf:=if e:∃ (ks:List HM.bf) (r:Row),rs[h.1.toNat]? = some r /\ ja rs r h.2 ks then e.choose else []
theorem AG{h:HM.bf}(hr:rs[h.1.toNat]? = some r)(hl:ja rs r h.2 ks):eT rs h=ks:=by
 have e:∃ (ks:List HM.bf) (r:Row),rs[h.1.toNat]? = some r /\ ja rs r h.2 ks:=⟨ks,r,hr,hl⟩
 unfold eT
 rw [dif_pos e]
 obtain ⟨r',hr',hl'⟩:=e.choose_spec
 rw [hr] at hr'
 cases hr'
 exact Jm hl' hl
theorem FT(h:cK H rs kvs):dW H kvs (eT rs):=λ x hx=>by
 obtain ⟨a,vs,ks,k,r,h1,h2,h3,h4,h5,h6⟩:=h x hx
 refine ⟨a,vs,h1,h2,?_⟩
 rw [AG (r:=r) (by rw [h4]; exact h5) h6]
 exact h3
theorem jG{n:Nat}{z:HM.bf}:z∈bM rs n ↔ ∃ k:Nat,k < n /\ z.1=(k:Int) /\ z.2∈b8 rs k:=by
 unfold bM
 rw [kj]
 constructor
 ·rintro ⟨k,hk,hz⟩
  obtain ⟨t,ht,rfl⟩:=aF.mp hz
  exact ⟨k,fN.mp hk,rfl,ht⟩
 ·rintro ⟨k,hk,e,ht⟩
  exact ⟨k,fN.mpr hk,aF.mpr ⟨z.2,ht,Prod.ext e.symm rfl⟩⟩
theorem r9:t∈b8 rs k ↔ dD.lv rs k t:=by
 unfold b8
 cases t with
 | none=>simp [dD.lv]
 | some p=>simp [dD.lv]
theorem wu(rs:List Row):∀ n,(bM rs n).Nodup
 | 0=>.nil
 | n + 1=>by
  rw [iX,d7]
  refine ⟨wu rs n,ko.mpr ((rX rs n).imp λ h e=>h (congrArg Prod.snd e)),λ x hx y hy e=>?_⟩
  obtain ⟨k,hk,e1,_⟩:=jG.mp hx
  obtain ⟨t,_,rfl⟩:=aF.mp hy
  rw [e] at e1
  have e1:(n:Int)=(k:Int):=e1
  omega
theorem FU(hok:∀ r∈rs,r.ok rs.length)(hn:rs.length <= 200)(em:kvs.map (·.1)=bM rs rs.length)(h:cK H rs kvs):
  jY (bM rs rs.length) (eT rs) /\ ∀ k r t,rs[k]? = some r->t∈b8 rs k->ja rs r t (eT rs ((k:Int),t)):=by
 have each:∀ z∈bM rs rs.length,∃ (k:Nat) (r:Row),z.1=(k:Int) /\ rs[k]? = some r /\ ja rs r z.2 (eT rs z) /\ Gp z.2:=λ z hz=>by
  rw [<- em] at hz
  obtain ⟨x,hx,rfl⟩:=aF.mp hz
  obtain ⟨a,vs,ks,k,r,h1,h2,h3,h4,h5,h6⟩:=h x hx
  obtain ⟨k',_,e',ht⟩:=jG.mp (by rw [<- em]; exact hz)
  refine ⟨k,r,h4,h5,?_,rW rs k' _ ht⟩
  rw [AG (r:=r) (by rw [h4]; exact h5) h6]
  exact h6
 refine ⟨⟨wu rs _,bq (lR rs _) (by omega),λ z hz=>?_⟩,λ k r t hr ht=>?_⟩
 ·obtain ⟨k,r,e,hr,hl,xy⟩:=each z hz
  have IZ:=hok r (fL hr)
  refine ⟨FQ IZ xy hl,λ o ho=>?_⟩
  obtain ⟨a1,a2,a3⟩:=(hl.2 o).mp ho
  obtain ⟨b1,b2⟩:=Row.iU IZ o.1 a1
  exact jG.mpr ⟨o.1.toNat,by omega,by omega,r9.mpr a3⟩
 ·have hk:=(eU hr).1
  obtain ⟨k',r',e,hr',hl,_⟩:=each ((k:Int),t) (jG.mpr ⟨k,hk,rfl,ht⟩)
  have e:(k:Int)=(k':Int):=e
  have:k=k':=by omega
  subst this
  rw [hr] at hr'
  cases hr'
  exact hl
section
variable {P:Program}{w:World}{K:az}{mg:Str->Option Value}{base:Heap}
def Cb(P:Program)(w:World):Sp:=λ vs H Q _=>∃ (d:Addr) (ep:Nat) (kvs:dJ) (L:HM.bf->List HM.bf),vs=[.ref d] /\ H d=some (.ext (cA P w d ep kvs)) /\ bJ H kvs /\ dW H kvs L /\ jY (kvs.map (·.1)) L /\
 (∀ H',aD H H'->(∀ F,¬ ig (kvs.map (·.1)) L F)->Q .bZ H') /\ ∀ (d':Addr) (m9:Nat) (kvs':dJ) (F:List (HM.bf × Int)) (H':Hp),aD H H'->H d'=none->H' d'=some (.ext (cA P w d' m9 kvs'))->bJ H' kvs'->gA kvs' F->ig (kvs.map (·.1)) L F->Q (.ref d') H'
theorem zk(T:Txt w K mg):bN P w K mg base gJ 3 T.oh.f T.oh.d ["later"] (Cb P w):=by
 refine T.oh.F.ok pW (λ vs H Q E h=>?_) (λ cdv A outer s H vs Q E hr h=>?_)
 ·obtain ⟨d,ep,kvs,L,rfl,_⟩:=h
  rfl
 obtain ⟨d,ep,kvs,L,rfl,hd,hk,hl,hok,q0,q⟩:=h
 refine ⟨_,(ak (aH (i:=1) pW.nd rfl (aq rfl) (aU T.ended (FJ T) hr (aa (pv 0) ai)))
 (av (aN (fE (aI eL (bg (rE) rfl T.gQ BT.gK (aa (pv 1) ai)) (bg (rE) rfl T.gQ BT.gK (aa (pv 0) ai)) (aY _)) (pv 1) jn)))),?_⟩
 show (_:TS) (Ends.mk _ _ _ _) [_,_] H
 walk_at "start"
 walk_at "go"
 refine ⟨d,ep,kvs,L,rfl,hd,hk,hl,hok,λ f KO xC F H1 s1 ff hf UY hF Te=>?_⟩
 have hd1:=s1 _ _ hd
 have Zc:xC.length=F.length:=by have:=congrArg List.length hF.keys; rw [au,au] at this; exact this
 walk_at "go"
 ·rename_i e
  exact q f KO xC F H1 s1 ff hf UY hF ⟨Te,by rw [au]; omega⟩
 ·rename_i e
  refine q0 H1 s1 λ G hG=>e ?_
  have:=Jl hok.1 hG Te
  rw [au] at this
  omega
def FW(P:Program)(w:World):Sp:=λ vs H Q _=>∃ (c:Addr) (us:List V) (rs:List Row),vs=[.ref c] /\ H c=some (.lst us) /\ Rows H us rs /\ (∀ r∈rs,r.ok rs.length) /\ rs.length <= 200 /\
 (jY (bM rs rs.length) (eT rs)->(∀ k r t,rs[k]? = some r->t∈b8 rs k->ja rs r t (eT rs ((k:Int),t)))->(∀ H',aD H H'->(∀ F,¬ ig (bM rs rs.length) (eT rs) F)->Q .bZ H') /\ ∀ (d':Addr) (m9:Nat) (kvs':dJ) (F:List (HM.bf × Int)) (H':Hp),aD H H'->H d'=none->H' d'=some (.ext (cA P w d' m9 kvs'))->bJ H' kvs'->gA kvs' F->ig (bM rs rs.length) (eT rs) F->Q (.ref d') H')
theorem Cc(T:Txt w K mg):bN P w K mg base gJ 6 T.tQ.f T.tQ.d ["code"] (FW P w):=by
 refine T.tQ.F.ok BO (λ vs H Q E h=>?_) (λ cdv A outer s H vs Q E hr h=>?_)
 ·obtain ⟨c,us,rs,rfl,_⟩:=h
  rfl
 obtain ⟨c,us,rs,rfl,hc,hrs,hok,hn,q⟩:=h
 refine ⟨_,(av (aN (aU T.oh (zk T) hr (aa (aU T.nZ (zf T) hr (aa (pv 0) ai)) ai)))),?_⟩
 show (_:TS) (Ends.mk _ _ _ _) [_] H
 walk_at "start"
 walk_at "go"
 refine ⟨c,us,rs,rfl,hc,hrs,hok,hn,λ d ep kvs H1 s1 fd hd hk em hla=>?_⟩
 obtain ⟨Tf,Jo⟩:=FU hok hn em hla
 obtain ⟨q0,q1⟩:=q Tf Jo
 walk_at "go"
 refine ⟨d,ep,kvs,eT rs,rfl,hd,hk,FT hla,by rw [em]; exact Tf,λ H2 s2 no=>?_,λ f KO xC F H2 s2 ff hf UY hF e=>?_⟩
 ·walk_at "go"
  rw [em] at no
  exact q0 H2 (s1.trans s2) no
 ·walk_at "go"
  rw [em] at e
  exact q1 f KO xC F H2 (s1.trans s2) (s1.free ff) hf UY hF e
def Jp:Sp:=λ vs H Q _=>∃ (c:Addr) (us:List V) (rs:List Row),vs=[.ref c] /\ H c=some (.lst us) /\ Rows H us rs /\ (∀ r∈rs,r.ok rs.length) /\ rs.length <= 200 /\ rs ≠ [] /\
 (jY (bM rs rs.length) (eT rs)->(∀ k r t,rs[k]? = some r->t∈b8 rs k->ja rs r t (eT rs ((k:Int),t)))->(∀ H',aD H H'->(∀ F,¬ ig (bM rs rs.length) (eT rs) F)->Q .bZ H') /\ ∀ (m:Int) (H':Hp),aD H H'->jZ (bM rs rs.length) (eT rs) m->Q (.int m) H')
theorem FY(T:Txt w K mg):bN P w K mg base gJ 7 T.delay.f T.delay.d ["code"] Jp:=by
 refine T.delay.F.ok vK (λ vs H Q E h=>?_) (λ cdv A outer s H vs Q E hr h=>?_)
 ·obtain ⟨c,us,rs,rfl,_⟩:=h
  rfl
 obtain ⟨c,us,rs,rfl,hc,hrs,hok,hn,hne,q⟩:=h
 refine ⟨_,(ak (aH (i:=1) vK.nd rfl (aq rfl) (aU T.tQ (Cc T) hr (aa (pv 0) ai)))
 (av (aN (fE (aI zK (pv 1) jn (aY _)) jn (bg (BD rfl) rfl T.Kr BT.J5 (aa (EF (pv 1)) ai)))))),?_⟩
 show (_:TS) (Ends.mk _ _ _ _) [_,_] H
 walk_at "start"
 walk_at "go"
 refine ⟨c,us,rs,rfl,hc,hrs,hok,hn,λ Tf Jo=>⟨λ H1 s1 no=>?_,λ f KO xC F H1 s1 ff hf UY hF e=>?_⟩⟩
 ·walk_at "go"
  exact (q Tf Jo).1 H1 s1 no
 ·walk_at "go"
  rename_i v H2 n2
  have ev:xC.map (·.2.2)=(F.map (·.2)).map V.int:=by
   have:=congrArg (List.map (·.2)) hF
   rw [eV,eV] at this
   rw [eV]
   exact this
  have XS:F.map (·.2) ≠ []:=λ z=>by
   have h0:F.length=0:=by rw [<- au (f:=(·.2)),z]; rfl
   have h1:=e.2
   cases rs with
   | nil=>exact hne rfl
   | cons r rs =>
    have:((0:Int),none)∈bM (r :: rs) (r :: rs).length:=jG.mpr ⟨0,by simp,rfl,r9.mpr trivial⟩
    rw [h0] at h1
    rw [List.length_eq_zero_iff.mp h1.symm] at this
    exact nomatch this
  refine Nv n2.self (n2.keep hf) ev XS λ m hm hle=>?_
  walk_at "go"
  obtain ⟨x,hx,rfl⟩:=aF.mp hm
  exact (q Tf Jo).2 _ H2 (s1.trans n2.same) ⟨F,e,⟨x,hx,rfl⟩,λ y hy=>hle _ (l8 hy)⟩
end
section
variable {α:Type} [DecidableEq α]
end
open Classical in
def bE(rs:List Row):Option Int:=if e:∃ m,jZ (bM rs rs.length) (eT rs) m then some e.choose else none
theorem Cd{m:Int}(h:jZ (bM rs rs.length) (eT rs) m):bE rs=some m:=by
 unfold bE
 rw [dif_pos ⟨m,h⟩]
 exact congrArg some (Ca (Exists.choose_spec (⟨m,h⟩:∃ m,jZ (bM rs rs.length) (eT rs) m)) h)
theorem Ce(h:∀ F,¬ ig (bM rs rs.length) (eT rs) F):bE rs=none:=by
 unfold bE
 rw [dif_neg]
 rintro ⟨m,F,hF,_⟩
 exact h F hF
section
variable {P:Program}{w:World}{K:az}{mg:Str->Option Value}{base:Heap}
def Row.jb(p:Int):Row->Bool
 | .look _ q=>decide (q=p + 1) | .mark q=>decide (q=p + 1) | _=>false
def Jq(K:az):Sp:=λ vs H Q _=>∃ (c:Addr) (p:Nat) (us:List V) (rs:List Row) (r:Row),vs=[.ref c,.int p] /\ H c=some (.lst us) /\ Rows H us rs /\ rs[p]? = some r /\ ∀ H',aD H H'->Q (.bl (r.jb p)) H'
theorem Cf(T:Txt w K mg):bN P w K mg base gJ 1 T.tR.f T.tR.d ["code", "place"] (Jq K):=by
 refine T.tR.F.ok rQ (λ vs H Q E h=>?_) (λ cdv A outer s H vs Q E hr h=>?_)
 ·obtain ⟨c,p,us,rs,r,rfl,_⟩:=h
  rfl
 obtain ⟨c,p,us,rs,r,rfl,hc,hrs,hr',q⟩:=h
 refine ⟨_,(kU (cS (jq (C0 CV iZ ao (pv 1) (bg cM rfl T.gQ BT.gK (aa (pv 0) ai))))
 (av (aN qV))
 bC)
 (ak (aH (i:=2) rQ.nd rfl (aq rfl) (cz gI (pv 0) (pv 1) (λ _ _=>rfl)))
 (av (aN (sI (jM fZ (cz d8 (pv 2) ao (λ _ _=>rfl)) (c9 (aa cP (aa cP ai))) (by with_unfolding_all rfl)) (o8 (jM eL (cz d8 (pv 2) (Pw Lw ao) (λ _ _=>rfl)) (aJ cF (pv 1) ao) (aY _)))))))),?_⟩
 show (_:TS) (Ends.mk _ _ _ _) [_,_,_] H
 have hl:=hrs.length
 have hp:p < rs.length:=(eU hr').1
 obtain ⟨ra,hat,N1⟩:=IW hrs hr'
 walk_at "start"
 walk_at "go"
 refine iy (bK.of hc) hat ?_
 cases r
 all_goals simp only [Row.vals,Row.key,Row.rest] at N1
 all_goals simp only [Row.jb] at q
 all_goals walk_at "go"
 all_goals exact q _ (by walk_at "same")
def CJ(p x:Int):Int:=if p < x then x - 1 else x
def qS(rs:List Row)(n:Nat)(lo hi:Option Int):List Row:=(rs.drop (HT.dP n 0 lo)).take (HT.dP n n hi - HT.dP n 0 lo)
theorem Paired.take'{F:α->β->Prop}:∀ {xs:List α} {ys:List β} (n:Nat),Paired F xs ys->Paired F (xs.take n) (ys.take n)
 | _,_,0,_=>.nil
 | _,_,_ + 1,.nil=>.nil
 | _,_,n + 1,.cons h t=>.cons h (Paired.take' n t)
theorem Paired.drop'{F:α->β->Prop}:∀ {xs:List α} {ys:List β} (n:Nat),Paired F xs ys->Paired F (xs.drop n) (ys.drop n)
 | _,_,0,h=>h
 | _,_,_ + 1,.nil=>.nil
 | _,_,n + 1,.cons _ t=>Paired.drop' n t
theorem Paired.app'{F:α->β->Prop}:∀ {xs xs':List α} {ys ys':List β},Paired F xs ys->Paired F xs' ys'->Paired F (xs++xs') (ys++ys')
 | _,_,_,_,.nil,h=>h
 | _,_,_,_,.cons a t,h=>.cons a (Paired.app' t h)
theorem wz{us:List V}(h:Rows H us rs)(lo hi:Option Int):Rows H (jv us lo hi) (qS rs us.length lo hi):=Paired.take' _ (Paired.drop' _ h)
theorem FZ{n:Nat}{lo hi:Option Int}(h:r∈qS rs n lo hi):r∈rs:=List.mem_of_mem_drop (List.mem_of_mem_take h)
def ir(rs:List Row)(p:Int):List Row:=(qS rs rs.length none (some p)++qS rs rs.length (some (p + 1)) none).map (Row.i8 (CJ p))
def Cg(K:az):Sp:=λ vs H Q _=>∃ (c:Addr) (p:Nat) (us:List V) (rs:List Row),vs=[.ref c,.int p] /\ H c=some (.lst us) /\ Rows H us rs /\ rs.length <= 1000 /\ (∀ r∈rs,r.ok rs.length) /\
 ∀ c' us' H1 H',aD H H1->eB H1 c' (.lst us') H'->Rows H' us' (ir rs p)->Q (.ref c') H'
theorem qp(T:Txt w K mg):bN P w K mg base gJ 2 T.without.f T.without.d ["code", "place"] (Cg K):=by
 refine T.without.F.ok pX (λ vs H Q E h=>?_) (λ cdv A outer s H vs Q E hr h=>?_)
 ·obtain ⟨c,p,us,rs,rfl,_⟩:=h
  rfl
 obtain ⟨c,p,us,rs,rfl,hc,hrs,hl,hok,q⟩:=h
 refine ⟨_,(ak (aH (i:=2) pX.nd rfl (bH rfl) (cI (bA.caps (x := "other") (fr:=["place"]) (ix:=[1]) (nm:=["place"]) rfl rfl (by decide +kernel) rfl (by decide +kernel) rfl (by decide +kernel) ⟨rfl,trivial⟩ rfl (by decide +kernel) rfl ⟨⟨rfl,rfl,rfl⟩,trivial⟩) (eY rfl T.iT (aa (bg cM rfl T.gQ BT.gK (aa (pv 0) ai)) ai)) (λ _ _ _ _=>cZ) (λ _ _ _ _=>(fE (aI CW (pv 0) (pv 1) (aY _)) (aJ sJ (pv 0) ao) (pv 0)))))
 (av (aN (cI (bA.caps (x := "row") (fr:=["moved"]) (ix:=[2]) (nm:=["moved"]) rfl rfl (by decide +kernel) rfl (by decide +kernel) rfl (by decide +kernel) ⟨rfl,trivial⟩ rfl (by decide +kernel) rfl ⟨⟨rfl,rfl,rfl⟩,trivial⟩) (b6 (aJ xV (gk kO (pv 0) iL (iM (pv 1))) (gk kO (pv 0) (iM (aJ cF (pv 1) ao)) iL))) (λ _ _ _ _=>cZ) (λ _ _ _ _=>(aU T.jU (tW T) hr (aa (pv 0) (aa (pv 1) ai)))))))),?_⟩
 show (_:TS) (Ends.mk _ _ _ _) [_,_,_] H
 have CH:=hrs.length
 walk_at "start"
 walk_at "go"
 refine jQ (λ i ys H'=>H'=H /\ ys=((List.range i).map λ j:Nat=>V.int (CJ p j))) ⟨rfl,rfl⟩ ?_ ?_
 ·rintro i ys H' hi ⟨rfl,rfl⟩
  refine ⟨bP (by rw [au,oZ]; omega),?_⟩
  have e:∀ z:Int,z=CJ p i->(List.range i).map (λ j:Nat=>V.int (CJ p j))++[.int z]=(List.range (i + 1)).map (λ j:Nat=>V.int (CJ p j)):=λ z e=>by
   rw [List.range_succ,bD,e]
   rfl
  walk_at "go"
  ·rename_i h
   exact ⟨rfl,e _ (by rw [CJ,if_pos (by omega)]; omega)⟩
  ·rename_i h
   exact ⟨rfl,e _ (by rw [CJ,if_neg (by omega)]; omega)⟩
 rintro ys H' ⟨rfl,rfl⟩ m H2 n2
 have hc2:=n2.keep hc
 have c1:=fH us none (some (p:Int))
 have c2:=fH us (some ((p:Int) + 1)) none
 walk_at "go"
 rename_i l3 H3 n3 l4 H4 n4 l5 H5 n5
 have Ze:aD H' H5:=by walk_at "same"
 have sf:=hrs.same Ze
 refine IA (rs:=qS rs rs.length none (some p)++qS rs rs.length (some (p + 1)) none) (Row.i8 (CJ p)) (bK.of n5.self) ?_ (by rw [aX]; omega) ?_ ?_
 ·have k1:=wz sf none (some (p:Int))
  have k2:=wz sf (some ((p:Int) + 1)) none
  rw [CH] at k1 k2
  exact Paired.app' k1 k2
 ·intro r hr' ra H6 s6 N1 Q h
  have hr':r∈rs:=by rcases aK.mp hr' with h | h <;> exact FZ h
  have hm:H6 m=some (.lst ((List.range (us.length:Int).toNat).map λ j:Nat=>V.int (CJ p j))):=s6 _ _ (by walk_at "look")
  walk_at "go"
  refine ⟨ra,m,r,_,CJ p,rfl,N1,hm,λ z hz=>?_,λ t H7 s7 ht=>h t H7 s7 ht⟩
  have hz:=Row.iU (hok r hr') z hz
  have e:z=((z.toNat:Nat):Int):=by omega
  rw [e]
  refine fq ?_
  rw [bh,List.getElem?_range (by omega)]
  rfl
 ·intro us' p' H6 H7 s6 n7 Tg
  exact q p' us' H6 H7 (Ze.trans s6) n7 Tg
end
theorem F0{n':Int}{f:Int->Int}(h:r.ok n)(hf:∀ q,pZ n q->pZ n' (f q)):(r.i8 f).ok n':=by
 cases r with
 | num d k v q=>exact ⟨h.1,h.2.1,h.2.2.1,hf _ h.2.2.2⟩
 | copy d k i q=>exact ⟨h.1,h.2.1,h.2.2.1,hf _ h.2.2.2⟩
 | op d s k i j q=>exact ⟨h.1,h.2.1,h.2.2.1,h.2.2.2.1,h.2.2.2.2.1,hf _ h.2.2.2.2.2⟩
 | out i q=>exact ⟨h.1,hf _ h.2⟩
 | fork i q p=>exact ⟨h.1,hf _ h.2.1,hf _ h.2.2⟩
 | look i q=>exact ⟨h.1,hf _ h.2⟩
 | mark q=>exact hf _ h
 | back i=>exact h
theorem F1{p:Nat}(hp:p < rs.length):ir rs (p:Int)=(rs.take p++rs.drop (p + 1)).map (Row.i8 (CJ p)):=by
 have e1:qS rs rs.length none (some (p:Int))=rs.take p:=by
  unfold qS
  rw [show HT.dP rs.length 0 none=0 from rfl,show HT.dP rs.length rs.length (some (p:Int))=p by rw [HT.sL]; omega]
  rfl
 have e2:qS rs rs.length (some ((p:Int) + 1)) none=rs.drop (p + 1):=by
  unfold qS
  rw [show HT.dP rs.length rs.length none=rs.length from rfl,show HT.dP rs.length 0 (some ((p:Int) + 1))=p + 1 by rw [show (p:Int) + 1=((p + 1:Nat):Int) by omega,HT.sL]; omega]
  rw [List.take_of_length_le (by rw [oY]; exact ay _)]
 unfold ir
 rw [e1,e2]
theorem uf{p:Nat}(hp:p < rs.length):(ir rs (p:Int)).length=rs.length - 1:=by
 rw [F1 hp,au,aX,bQ,oY]
 omega
structure AH (rs:List Row) (n:Nat):Prop where
 ok:∀ r∈rs,r.ok rs.length
 ne:rs ≠ []
 len:rs.length <= n
theorem OE{p:Nat}(hok:∀ r∈rs,r.ok rs.length)(hr:rs[p]? = some r)(hc:r.jb p=true):p + 1 < rs.length:=by
 have Zf:=hok r (fL hr)
 cases r with
 | look i q =>
  have e:q=(p:Int) + 1:=of_decide_eq_true hc
  have:=Zf.2.2
  omega
 | mark q =>
  have e:q=(p:Int) + 1:=of_decide_eq_true hc
  have:=Zf.2
  omega
 | _=>cases hc
theorem AH.out{n p:Nat}{r:Row}(h:AH rs n)(hr:rs[p]? = some r)(hc:r.jb p=true):AH (ir rs (p:Int)) n:=by
 have hp:=OE h.ok hr hc
 have hl:=uf (rs:=rs) (p:=p) (by omega)
 refine ⟨λ R hR=>?_,λ z=>by rw [z] at hl; have:0=rs.length - 1:=hl; omega,by have:=h.len; omega⟩
 rw [hl]
 rw [F1 (by omega)] at hR
 obtain ⟨r',hr',rfl⟩:=aF.mp hR
 have hm:r'∈rs:=by
  rcases aK.mp hr' with h | h
  ·exact o5 _ _ h
  ·exact List.drop_subset _ _ h
 refine F0 (h.ok r' hm) λ q hq=>?_
 have h1:=hq.1
 have h2:=hq.2
 unfold CJ
 split <;> exact ⟨by omega,by omega⟩
def iE(m:Option Int)(n:Int):Bool:=match m with
 | none=>false
 | some d=>decide (d <= n)
def zl(n:Int):Nat->List Row->Nat->List Row
 | 0,rs,_=>rs
 | k + 1,rs,p=>match rs[p]? with
  | none=>rs
  | some r=>if r.jb p && iE (bE (ir rs (p:Int))) n then zl n k (ir rs (p:Int)) p else zl n k rs (p + 1)
theorem AI{p:Nat}(hr:rs[p]? = some r):zl n (k + 1) rs p=if r.jb p && iE (bE (ir rs (p:Int))) n then zl n k (ir rs (p:Int)) p else zl n k rs (p + 1):=by
 show (match rs[p]? with | none=>rs | some r=>if r.jb p && iE (bE (ir rs (p:Int))) n then zl n k (ir rs (p:Int)) p else zl n k rs (p + 1))=_
 rw [hr]
theorem F2{p:Nat}(hp:rs.length <= p):zl n k rs p=rs:=by
 cases k with
 | zero=>rfl
 | succ k =>
  show (match rs[p]? with | none=>rs | some r=>if r.jb p && iE (bE (ir rs (p:Int))) n then zl n k (ir rs (p:Int)) p else zl n k rs (p + 1))=_
  rw [gX hp]
def dw(n:Int)(rs:List Row):List Row:=zl n rs.length rs 0
def qq(n:Int)(rs:List Row):Prop:=iE (bE rs) n=true
theorem AJ:∀ (k:Nat) (rs:List Row) (p:Nat),AH rs m->qq n rs->AH (zl n k rs p) m /\ qq n (zl n k rs p) /\ (zl n k rs p).length <= rs.length:=by
 intro k
 induction k with
 | zero=>intro rs p h hs; exact ⟨h,hs,ay _⟩
 | succ k ih =>
  intro rs p h hs
  rcases bX p rs.length with hp | hp
  ·have hr:rs[p]? = some rs[p]:=fM hp
   rw [AI hr]
   by_cases hc:(rs[p].jb p && iE (bE (ir rs (p:Int))) n)=true
   ·rw [if_pos hc]
    have hc2:=Bool.and_eq_true_iff.mp hc
    have hl:=uf (rs:=rs) (p:=p) hp
    obtain ⟨a,b,c⟩:=ih (ir rs (p:Int)) p (h.out hr hc2.1) hc2.2
    exact ⟨a,b,by omega⟩
   ·rw [if_neg hc]
    exact ih rs (p + 1) h hs
  ·rw [F2 hp]
   exact ⟨h,hs,ay _⟩
def gS(n:Int):Nat->List Row->List Row
 | 0,rs=>dw n rs
 | k + 1,rs=>if (dw n rs).length < rs.length then gS n k (dw n rs) else dw n rs
theorem Jr:∀ (k:Nat) (rs:List Row),AH rs m->qq n rs->AH (gS n k rs) m /\ qq n (gS n k rs) /\ (gS n k rs).length <= rs.length:=by
 intro k
 induction k with
 | zero=>intro rs h hs; exact AJ _ rs 0 h hs
 | succ k ih =>
  intro rs h hs
  obtain ⟨a,b,c⟩:=AJ (n:=n) rs.length rs 0 h hs
  have e:gS n (k + 1) rs=if (dw n rs).length < rs.length then gS n k (dw n rs) else dw n rs:=rfl
  rw [e]
  by_cases hl:(dw n rs).length < rs.length
  ·rw [if_pos hl]
   obtain ⟨a',b',c'⟩:=ih (dw n rs) a b
   exact ⟨a',b',by omega⟩
  ·rw [if_neg hl]
   exact ⟨a,b,c⟩
def oV:Option Int->V
 | none=>.bZ
 | some m=>.int m
section
variable {P:Program}{w:World}{K:az}{mg:Str->Option Value}{base:Heap}
def F3:Sp:=λ vs H Q _=>∃ (c:Addr) (us:List V) (rs:List Row),vs=[.ref c] /\ H c=some (.lst us) /\ Rows H us rs /\ (∀ r∈rs,r.ok rs.length) /\ rs.length <= 200 /\ rs ≠ [] /\ ∀ H',aD H H'->Q (oV (bE rs)) H'
theorem iF(T:Txt w K mg):bN P w K mg base gJ 7 T.delay.f T.delay.d ["code"] F3 :=
 (FY (P:=P) (w:=w) (base:=base) T).imp λ vs H Q E ⟨c,us,rs,h1,h2,h3,h4,h5,h6,q⟩=>⟨c,us,rs,h1,h2,h3,h4,h5,h6,λ _ _=>⟨λ H' s no=>by have:=q H' s; rw [Ce no] at this; exact this,λ m H' s d=>by have:=q H' s; rw [Cd d] at this; exact this⟩⟩
def OF:Sp:=λ vs H Q _=>∃ (m:Option Int) (n:Int),vs=[oV m,.int n] /\ Q (.bl (iE m n)) H
theorem kJ(T:Txt w K mg):bN P w K mg base gJ 1 T.jW.f T.jW.d ["found", "number"] OF:=by
 refine T.jW.F.ok yS (λ vs H Q E h=>?_) (λ cdv A outer s H vs Q E hr h=>?_)
 ·obtain ⟨m,n,rfl,_⟩:=h
  rfl
 obtain ⟨m,n,rfl,q⟩:=h
 refine ⟨_,(av (aN (sI (jM DJ (pv 0) jn (aY _)) (o8 (jM CV (pv 0) (pv 1) (aY _)))))),?_⟩
 cases m with
 | none =>
  show (_:TS) (Ends.mk _ _ _ _) [some V.bZ,some (V.int n)] H
  walk_at "start"
  walk_at "go"
  exact q
 | some d =>
  show (_:TS) (Ends.mk _ _ _ _) [some (V.int d),some (V.int n)] H
  walk_at "start"
  walk_at "go"
  exact q
def OG:Sp:=λ vs H Q _=>∃ (c:Addr) (us:List V) (rs:List Row) (n:Int),vs=[.ref c,.int n] /\ H c=some (.lst us) /\ Rows H us rs /\ AH rs 200 /\
 ∀ (g:Addr) (vs:List V) (H':Hp),aD H H'->H g=none->H' g=some (.lst vs)->Rows H' vs (dw n rs)->Q (.ref g) H'
theorem dX(T:Txt w K mg):bN P w K mg base gJ 9 T.cQ.f T.cQ.d ["code", "number"] OG:=by
 refine T.cQ.F.ok cV (λ vs H Q E h=>?_) (λ cdv A outer s H vs Q E hr h=>?_)
 ·obtain ⟨c,us,rs,n,rfl,_⟩:=h
  rfl
 obtain ⟨c,us,rs,n,rfl,hc,rows,ht,q⟩:=h
 refine ⟨_,(ak (aH (i:=2) cV.nd rfl (aq rfl) (fY ye rfl T.E7 BT.Dp (aa (pv 0) ai)))
 (ak (aH (i:=3) cV.nd rfl (aq rfl) ao)
 (ak (jr b4 (aI iZ (pv 3) (bg cM rfl T.gQ BT.gK (aa (pv 2) ai)) (aY _))
 (av (LU (PW.pt (mw (jo (aU T.tR (Cf T) hr (aa (pv 2) (aa (pv 3) ai)))) (jL (jo (aU T.jW (kJ T) hr (aa (aU T.delay (iF T) hr (aa (aU T.without (qp T) hr (aa (pv 2) (aa (pv 3) ai))) ai)) (aa (pv 1) ai)))))))
 (av (aH (i:=2) cV.nd rfl (aq rfl) (aU T.without (qp T) hr (aa (pv 2) (aa (pv 3) ai)))))
 (av (Ln (i:=3) cV.nd rfl (aq rfl) ao Lo)))))
 (av (aN (pv 2)))))),?_⟩
 show (_:TS) (Ends.mk _ _ _ _) [_,_,_,_] H
 walk_at "start"
 walk_at "go"
 rename_i l H1 n1
 refine nQ (λ k σ' H'=>∃ l vs rs' p,σ'=[some (.ref c),some (.int n),some (.ref l),some (.int ((p:Nat):Int))] /\ aD H H' /\ H l=none /\ H' l=some (.lst vs) /\ Rows H' vs rs' /\ AH rs' 200 /\ p <= rs'.length /\ zl n (rs'.length - p) rs' p=dw n rs /\ k=rs'.length - p) ?_ ?_
 ·exact ⟨_,l,us,rs,0,rfl,n1.same,n1.1,n1.self,rows.same n1.same,ht,aO _,rfl,rfl⟩
 clear n1
 rintro k σ' H2 ⟨l,vs,rs',p,rfl,s2,fl,hl2,gB,Oj,hp2,hg,rfl⟩
 have hvl:=gB.length
 have hln:=Oj.len
 walk_at "go"
 ·rename_i hlt
  have hp:p < rs'.length:=by omega
  obtain ⟨r,hr'⟩:∃ r,rs'[p]? = some r:=⟨_,fM hp⟩
  obtain ⟨k,ek⟩:∃ k,rs'.length - p=k + 1:=⟨rs'.length - p - 1,by omega⟩
  rw [ek,AI hr'] at hg
  refine QN (λ H'=>aD H2 H' /\ (r.jb p && iE (bE (ir rs' (p:Int))) n)=true) (λ H'=>aD H2 H' /\ ¬ (r.jb p && iE (bE (ir rs' (p:Int))) n)=true) ?_ ?_ ?_
  ·walk_at "go"
   refine ⟨l,p,vs,rs',r,rfl,hl2,gB,hr',λ H3 s3=>?_⟩
   have hl3:=s3 _ _ hl2
   have jH:=gB.same s3
   cases hcg:r.jb p with
   | false =>
    walk_at "go"
    exact ⟨s3,by simp⟩
   | true =>
    have ho:=Oj.out hr' hcg
    have G1:=ho.len
    walk_at "go"
    refine ⟨l,p,vs,rs',rfl,hl3,jH,by omega,Oj.ok,λ c' us' H4 H5 s4 n5 sf=>?_⟩
    have KJ:=s4.trans n5.same
    have hc5:=n5.self
    clear n5 s4
    walk_at "go"
    refine ⟨c',us',ir rs' (p:Int),rfl,hc5,sf,ho.ok,G1,ho.ne,λ H6 s6=>?_⟩
    walk_at "go"
    refine ⟨_,n,rfl,?_⟩
    have Zg:=(s3.trans KJ).trans s6
    cases OH:iE (bE (ir rs' (p:Int))) n with
    | false =>
     show qI _ (.bl false) H6
     walk_at "go"
     exact ⟨Zg,by simp⟩
    | true =>
     show qI _ (.bl true) H6
     walk_at "go"
     exact ⟨Zg,by simp⟩
  ·rintro H3 ⟨s3,hc⟩
   rw [if_pos hc] at hg
   have hcg:=(Bool.and_eq_true_iff.mp hc).1
   have ho:=Oj.out hr' hcg
   have G1:=uf (rs:=rs') (p:=p) hp
   have hl3:=s3 _ _ hl2
   have jH:=gB.same s3
   walk_at "go"
   refine ⟨l,p,vs,rs',rfl,hl3,jH,by omega,Oj.ok,λ c' us' H4 H5 s4 n5 sf=>?_⟩
   have IL:=(s2.trans s3).trans s4
   refine ⟨_,?_,c',us',ir rs' (p:Int),p,rfl,IL.trans n5.same,IL.free n5.1,n5.self,sf,ho,by omega,?_,rfl⟩
   ·omega
   ·rw [<- hg,show (ir rs' (p:Int)).length - p=k by omega]
  ·rintro H3 ⟨s3,hc⟩
   rw [if_neg hc] at hg
   walk_at "go"
   refine ⟨_,?_,l,vs,rs',p + 1,by simp,s2.trans s3,fl,s3 _ _ hl2,gB.same s3,Oj,hp,?_,rfl⟩
   ·omega
   ·rw [<- hg,show rs'.length - (p + 1)=k by omega]
 ·rename_i hge
  rw [F2 (by omega)] at hg
  exact q l vs H2 s2 fl hl2 (by rw [<- hg]; exact gB)
def OI:Sp:=λ vs H Q _=>∃ (c:Addr) (us:List V) (rs:List Row) (n:Int),vs=[.ref c,.int n] /\ H c=some (.lst us) /\ Rows H us rs /\ AH rs 200 /\ qq n rs /\
 ∀ (g:Addr) (vs:List V) (H':Hp),aD H H'->H g=none->H' g=some (.lst vs)->Rows H' vs (gS n rs.length rs)->Q (.ref g) H'
theorem Js(T:Txt w K mg):bN P w K mg base gJ 10 T.qQ.f T.qQ.d ["code", "number"] OI:=by
 refine T.qQ.F.ok dU (λ vs H Q E h=>?_) (λ cdv A outer s H vs Q E hr h=>?_)
 ·obtain ⟨c,us,rs,n,rfl,_⟩:=h
  rfl
 obtain ⟨c,us,rs,n,rfl,hc,rows,ht,OH,q⟩:=h
 refine ⟨_,(ak (aH (i:=2) dU.nd rfl (aq rfl) (aU T.delay (iF T) hr (aa (pv 0) ai)))
 (ak (cS (jq (jo (aU T.jW (kJ T) hr (aa (pv 2) (aa (pv 1) ai)))))
 (av CO)
 bC)
 (ak (aH (i:=3) dU.nd rfl (aq rfl) (pv 0))
 (ak (aH (i:=4) dU.nd rfl (aq rfl) (aU T.cQ (dX T) hr (aa (pv 3) (aa (pv 1) ai))))
 (ak (jr b4 (aI iZ (bg cM rfl T.gQ BT.gK (aa (pv 4) ai)) (bg cM rfl T.gQ BT.gK (aa (pv 3) ai)) (aY _))
 (ak (aH (i:=3) dU.nd rfl (aq rfl) (pv 4))
 (av (aH (i:=4) dU.nd rfl (aq rfl) (aU T.cQ (dX T) hr (aa (pv 3) (aa (pv 1) ai)))))))
 (av (aN (pv 4)))))))),?_⟩
 show (_:TS) (Ends.mk _ _ _ _) [_,_,_,_,_] H
 walk_at "start"
 walk_at "go"
 refine ⟨c,us,rs,rfl,hc,rows,ht.ok,ht.len,ht.ne,λ H1 s1=>?_⟩
 have hc1:=s1 _ _ hc
 have K5:=rows.same s1
 walk_at "go"
 refine ⟨_,n,rfl,?_⟩
 rw [show iE (bE rs) n=true from OH]
 show qI _ (.bl true) H1
 walk_at "go"
 refine ⟨c,us,rs,n,rfl,hc1,K5,ht,λ g vs H2 s2 fg hg gB=>?_⟩
 have hc2:=s2 _ _ hc1
 have Zh:=s1.trans s2
 have Zi:=s1.free fg
 obtain ⟨t2,Zj,l2⟩:=AJ (n:=n) rs.length rs 0 ht OH
 walk_at "go"
 refine nQ (λ k σ' H'=>∃ y l vs gl ws ls fs,σ'=[some (.ref c),some (.int n),y,some (.ref l),some (.ref gl)] /\ aD H H' /\ H' l=some (.lst vs) /\ vs.length=ls.length /\ H gl=none /\ H' gl=some (.lst ws) /\ Rows H' ws fs /\ fs=dw n ls /\ AH fs 200 /\ qq n fs /\ fs.length <= ls.length /\ ls.length <= 200 /\ gS n k ls=gS n rs.length rs /\ ls.length <= k /\ ls ≠ []) ?_ ?_
 ·exact ⟨rs.length,_,c,us,g,vs,rs,dw n rs,rfl,Zh,hc2,rows.length,Zi,hg,gB,rfl,t2,Zj,l2,ht.len,rfl,ay _,ht.ne⟩
 clear Zh hc2 Zi t2 Zj l2 hg gB s2 hc1 K5 s1
 rintro k σ' H3 ⟨y,l,vs,gl,ws,ls,fs,rfl,s3,hl3,hvl,fgl,OJ,jH,UZ,t3,sn3,hle,Zk,J7,Iv,XT⟩
 have hwl:=jH.length
 walk_at "go"
 ·rename_i hlt
  refine ⟨gl,ws,fs,n,rfl,OJ,jH,t3,λ g2 Yz H4 s4 fg2 OW AK=>?_⟩
  obtain ⟨t4,sn4,l4⟩:=AJ (n:=n) fs.length fs 0 t3 sn3
  have hlp:=List.length_pos_iff.mpr XT
  obtain ⟨k',rfl⟩:∃ i,k=i + 1:=⟨k - 1,by omega⟩
  have hlt':(dw n ls).length < ls.length:=by rw [<- UZ]; omega
  have e1:gS n (k' + 1) ls=gS n k' fs:=by
   show (if (dw n ls).length < ls.length then gS n k' (dw n ls) else dw n ls)=_
   rw [if_pos hlt',UZ]
  walk_at "go"
  exact ⟨k',by omega,_,gl,ws,g2,Yz,fs,dw n fs,rfl,s3.trans s4,s4 _ _ OJ,hwl,s3.free fg2,OW,AK,rfl,t4,sn4,l4,t3.len,by rw [<- e1]; exact J7,by omega,t3.ne⟩
 ·rename_i hge
  refine q gl ws H3 s3 fgl OJ ?_
  rw [<- J7]
  have hnl:¬ (dw n ls).length < ls.length:=by rw [<- UZ]; omega
  have e1:gS n k ls=dw n ls:=by
   cases k with
   | zero=>rfl
   | succ k =>
    show (if (dw n ls).length < ls.length then gS n k (dw n ls) else dw n ls)=_
    rw [if_neg hnl]
  rw [e1,<- UZ]
  exact jH
end
theorem filter_lt{α:Type}{p q:α->Bool}(h:∀ y,p y=true->q y=true):∀ {F:List α} {x:α},x∈F->q x=true->p x=false->(F.filter p).length < (F.filter q).length
 | y :: F,x,hx,hq,hp=>by
  have le:(F.filter p).length <= (F.filter q).length:=by
   clear hx
   induction F with
   | nil=>exact ay _
   | cons z F ih =>
    rw [lZ,lZ]
    cases hz:p z with
    | true=>rw [if_pos rfl,if_pos (h z hz)]; simpa using ih
    | false =>
     rw [if_neg (by simp)]
     split
     ·simp only [dZ]; omega
     ·exact ih
  rw [lZ,lZ]
  rcases aG.mp hx with rfl | hx
  ·rw [hq,hp,if_pos rfl,if_neg (by simp)]
   simp only [dZ]
   omega
  ·have ih:=filter_lt h hx hq hp
   cases hz:p y with
   | true=>rw [if_pos rfl,if_pos (h y hz)]; simpa using ih
   | false =>
    rw [if_neg (by simp)]
    split
    ·simp only [dZ]; omega
    ·exact ih
theorem AL{α:Type}[DecidableEq α]{L:α->List α}{F:List (α × Int)}(fin:FD L F):∀ (n:Nat) (x:α × Int),x∈F->x.2=(n:Int)->n <= (F.filter λ y=>decide (y.2 <= (n:Int))).length
 | 0,_,_,_=>aO _
 | n + 1,x,hx,e=>by
  have lt:=filter_lt (p:=λ y:α × Int=>decide (y.2 <= (n:Int))) (q:=λ y:α × Int=>decide (y.2 <= ((n + 1:Nat):Int))) (λ y h=>by simp only [decide_eq_true_eq] at h ⊢; omega) hx (by simp only [decide_eq_true_eq]; omega) (by simp only [decide_eq_false_iff_not]; omega)
  rcases (fin x hx).2.2 with ⟨e1,_⟩ | ⟨o,_,ho⟩
  ·have:n=0:=by omega
   omega
  ·have:=AL fin n (o,x.2 - 1) ho (by show x.2 - 1=_; omega)
   omega
theorem sj(rs:List Row):∀ n,(bM rs n).length <= 17 * n
 | 0=>ay _
 | n + 1=>by
  rw [iX,aX,au]
  have:=sj rs n
  have:=iW rs n
  omega
theorem nD{m:Int}(h:bE rs=some m)(hl:rs.length <= 200):1 <= m /\ m < 1000000:=by
 unfold bE at h
 split at h
 ·rename_i e
  cases h
  obtain ⟨F,hF,⟨x,hx,ex⟩,_⟩:=e.choose_spec
  have h1:=(hF.1.fin x hx).1
  have h2:=AL hF.1.fin x.2.toNat x hx (by omega)
  have h3:=gZ (λ y:HM.bf × Int=>decide (y.2 <= ((x.2.toNat:Nat):Int))) F
  have h4:=sj rs rs.length
  have h5:=hF.2
  omega
 ·cases h
section
variable {P:Program}{w:World}{K:az}{mg:Str->Option Value}{base:Heap}
theorem m8(T:Txt w K mg):bN P w K mg base gJ 1 T.cR.f T.cR.d ["self", "delay"] (Ij T.cR.C "delay"):=by
 refine T.cR.F.ok mW (λ vs H Q E h=>?_) (λ cdv A outer s H vs Q E hr h=>?_)
 ·obtain ⟨e,t,v,rfl,_⟩:=h
  rfl
 obtain ⟨e,t,v,rfl,he,hv,q⟩:=h
 refine ⟨_,ak (fS (EN T.dj.g rfl T.dj.m (aa (pv 0) (aa (Ig (pv 1) (by decide +kernel) (by decide +kernel)) ai)))) (av (HZ (G:=T.dj.C) (f:=T.cR.f) (pv 0) (pv 1) rfl)),?_⟩
 show (_:TS) (Ends.mk _ _ _ _) [some (.ref e),some v] H
 refine ⟨_,rfl,_,rfl,hv,λ txt=>⟨e,T.cR.C,T.cR.f,t,txt,rfl,he,T.cR.xc,λ t1=>?_⟩⟩
 refine ⟨_,rfl,_,rfl,e,T.cR.C,_,rfl,cL,T.cR.xc,T.cR.sa,T.cR.na,λ dx hd hne=>?_⟩
 rw [aR hne] at hd
 rw [Gs]
 exact q dx t1 hd hne
def ug(K:az)(C:Addr):Sp:=λ vs H Q E=>∃ (c:Addr) (us:List V) (rs:List Row) (n:Int),vs=[.ref c,.int n] /\ H c=some (.lst us) /\ Rows H us rs /\ AH rs 200 /\ iE (bE rs) n=false /\
 ∀ (a dx:Addr) (H':Hp),aD H H'->H' a=some (.ext (XF C (some dx) a))->H' dx=some (.xd [("delay", oV (bE rs))])->E (.ref a) (some dx) H'
theorem Ju(T:Txt w K mg):∀ vs H Q E,ug K T.cR.C vs H Q E->ug K T.cR.C vs H Q λ ev od H'=>(∃ a C fI,ev=.ref a /\ H' a=some (.ext (XF C od a)) /\ jC K C T.dj.C fI=true) /\ E ev od H' :=
 λ _ _ _ _ ⟨c,us,rs,n,h1,h2,h3,h4,h5,q⟩=>⟨c,us,rs,n,h1,h2,h3,h4,h5,λ a dx H' s ha hd=>⟨⟨a,_,_,rfl,ha,T.cR.xc⟩,q a dx H' s ha hd⟩⟩
theorem F4(T:Txt w K mg):bN P w K mg base (ND P w) 10 T.qQ.f T.qQ.d ["code", "number"] (ug K T.cR.C):=by
 refine T.qQ.F.okE dU (λ vs H Q E h=>?_) (λ cdv A outer s H vs Q E hr h=>?_)
 ·obtain ⟨c,us,rs,n,rfl,_⟩:=h
  rfl
 obtain ⟨c,us,rs,n,rfl,hc,rows,ht,OH,q⟩:=h
 have nI:=m8 (P:=P) (w:=w) (base:=base) T
 refine ⟨_,(ak (aH (i:=2) dU.nd rfl (aq rfl) (aU T.delay (iF T) hr (aa (pv 0) ai)))
 (ak (cS (jq (jo (aU T.jW (kJ T) hr (aa (pv 2) (aa (pv 1) ai)))))
 (av (ET (EL T.cR.xc T.cR.fn T.cR.kp nI (hr.mono (by first | decide | omega)) rfl T.cR.m T.cR.b JS (aa (pv 2) ai))))
 bC)
 (nE.AS (ak (aH (i:=3) dU.nd rfl (aq rfl) (pv 0))
 (ak (aH (i:=4) dU.nd rfl (aq rfl) (aU T.cQ (dX T) hr (aa (pv 3) (aa (pv 1) ai))))
 (ak (jr b4 (aI iZ (bg cM rfl T.gQ BT.gK (aa (pv 4) ai)) (bg cM rfl T.gQ BT.gK (aa (pv 3) ai)) (aY _))
 (ak (aH (i:=3) dU.nd rfl (aq rfl) (pv 4))
 (av (aH (i:=4) dU.nd rfl (aq rfl) (aU T.cQ (dX T) hr (aa (pv 3) (aa (pv 1) ai)))))))
 (av (aN (pv 4))))))))),?_⟩
 show (_:TS) (Ends.mk _ _ _ _) [_,_,_,_,_] H
 walk_at "start"
 walk_at "go"
 refine ⟨c,us,rs,rfl,hc,rows,ht.ok,ht.len,ht.ne,λ H1 s1=>?_⟩
 walk_at "go"
 refine ⟨_,n,rfl,?_⟩
 rw [OH]
 show qI _ (.bl false) H1
 walk_at "go"
 refine Ik (Il ?_)
 walk_at "go"
 have hv:(∃ n:Int,oV (bE rs)=.int n /\ -1000000 < n /\ n < 1000000) \/ oV (bE rs)=.bZ:=by
  cases hd:bE rs with
  | none=>exact .inr rfl
  | some m =>
   have:=nD hd ht.len
   exact .inl ⟨m,rfl,by omega,by omega⟩
 refine ⟨(show 1 <= 1000 by decide),λ e t he=>⟨e,t,oV (bE rs),rfl,cL,hv,λ dx t' hd hne=>⟨rfl,?_⟩⟩⟩
 rw [aR hne] at hd
 refine ⟨e,t',T.cR.C,T.dj.C,T.cR.f,some dx,rfl,by rw [aR (aV hne),cL],T.cR.xc,q e dx _ (λ b o hb=>?_) cL (by rw [aR hne,cL])⟩
 have hb1:=s1 _ _ hb
 have h1:b ≠ e:=λ z=>by rw [z,he] at hb1; cases hb1
 have h2:b ≠ dx:=λ z=>by rw [z,hd] at hb1; cases hb1
 rw [aR h1,aR h2,aR h1,aR h1]
 exact hb1
end
theorem Jv{m:Int}(h:bE rs=some m)(hn:m <= n):qq n rs:=by
 unfold qq
 rw [h]
 exact decide_eq_true hn
theorem Jw(h:qq n rs):∃ m,bE rs=some m /\ m <= n:=by
 unfold qq at h
 cases hd:bE rs with
 | none=>rw [hd] at h; cases h
 | some m=>rw [hd] at h; exact ⟨m,rfl,of_decide_eq_true h⟩
section
variable {P:Program}{w:World}{K:az}{mg:Str->Option Value}{base:Heap}
def Ci:Sp:=λ vs H Q _=>∃ (c:Addr) (us:List V) (rs:List Row) (n:Int),vs=[.ref c,.int n,oV (bE rs)] /\ H c=some (.lst us) /\ Rows H us rs /\ AH rs 200 /\ iE (bE rs) n=false /\ ∀ H',aD H H'->Q (.bl true) H'
theorem iY(T:Txt w K mg):bN P w K mg base gJ 11 T.refused.f T.refused.d ["_law_code_here", "_law_number", "_law_due"] Ci:=by
 refine T.refused.F.ok iS (λ vs H Q E h=>?_) (λ cdv A outer s H vs Q E hr h=>?_)
 ·obtain ⟨c,us,rs,n,rfl,_⟩:=h
  rfl
 obtain ⟨c,us,rs,n,rfl,hc,rows,ht,OH,q⟩:=h
 have OL:=F4 (P:=P) (w:=w) (base:=base) T
 refine ⟨_,(ak (aH (i:=3) iS.nd rfl (aq rfl) jn)
 (ak (NH (i:=4) OL (hr.mono (by first | decide | omega)) rfl T.qQ.m T.qQ.F.kp T.qQ.b (aa (pv 0) (aa (pv 1) ai)) rfl T.dj.m T.dj.e iS.nd rfl rfl rfl rfl (λ _=>(av (aH (i:=3) iS.nd rfl (aq rfl) (pv 4)))) (Ju T))
 (kU (cS (PW.pt (nc (jq (jo (bg mV rfl T.eO BT.eN (aa (pv 3) (aa (eG (v:=.ref T.cR.C) rfl T.cR.m rfl) ai))))) (nc (jo (bg mV rfl T.eO BT.eN (aa (pv 3) (aa (eG (v:=.ref T.mX.C) rfl T.mX.m rfl) ai)))) (mq (jq (jo (bg mV rfl T.eO BT.eN (aa (pv 3) (aa (sH (v:=.ty "ValueError") rfl T.tS BT.tK rfl) ai)))))))))
 (av (aN qV))
 bC)
 (av (aN (sI (jM eL (vD (pv 3)) (pv 2) (aY _)) (o8 (Lh (bg mJ rfl T.eO BT.eN (aa (vD (pv 3)) (aa (sH (v:=.ty "bool") rfl T.NO BT.LS rfl) ai))))))))))),?_⟩
 show (_:TS) (Ends.mk _ _ _ _) [_,_,_,_,_] H
 walk_at "start"
 walk_at "go"
 refine RH ?_
 walk_at "go"
 refine ⟨c,us,rs,n,rfl,hc,rows,ht,OH,λ a dx H1 s1 ha hd b eb=>?_⟩
 cases eb
 show (_:TS) (Ends.mk _ _ _ _) [some (V.ref c),some (V.int n),some (oV (bE rs)),some V.bZ,some (V.ref a)] H1
 walk_at "go"
 ·refine yQ ha hd T.cR.xa (λ _ h=>h) T.Wz ?_
  walk_at "go"
  refine yQ ha hd T.cR.xa (λ _ h=>h) T.WA ?_
  walk_at "go"
  refine yQ ha hd T.cR.xa (λ _ h=>h) T.WB ?_
  walk_at "go"
 ·refine tL ?_
  walk_at "go"
  refine ⟨a,_,dx,_,_,rfl,ha,hd,T.cR.xa,T.cR.na,List.lookup_cons_self,?_⟩
  cases hdl:bE rs with
  | none =>
   rw [show oV none=.bZ from rfl]
   walk_at "go"
   refine ⟨rfl,?_⟩
   rw [show decide (V.bZ=V.bZ)=true by simp]
   walk_at "go"
   refine tL ?_
   walk_at "go"
   refine ⟨a,_,dx,_,_,rfl,ha,hd,T.cR.xa,T.cR.na,List.lookup_cons_self,?_⟩
   rw [hdl,show oV none=.bZ from rfl]
   walk_at "go"
   exact q _ s1
  | some m =>
   rw [show oV (some m)=.int m from rfl]
   walk_at "go"
   refine tL ?_
   walk_at "go"
   refine ⟨a,_,dx,_,_,rfl,ha,hd,T.cR.xa,T.cR.na,List.lookup_cons_self,?_⟩
   rw [hdl,show oV (some m)=.int m from rfl]
   walk_at "go"
   exact q _ s1
theorem OM(T:Txt w K mg):bN P w K mg base gJ 13 T.law.f T.law.d ["_law_script"] (An K):=by
 refine T.law.F.ok kH (λ vs H Q E h=>?_) (λ cdv A outer s H vs Q E hr h=>?_)
 ·obtain ⟨a,ns,rfl,_⟩:=h
  rfl
 obtain ⟨a,ns,rfl,hS,hn,q⟩:=h
 refine ⟨_,(ak (aH (i:=1) kH.nd rfl (aq rfl) (aJ gH (aU T.fX (fj T) hr (aa (pv 0) (aa ao ai))) ao))
 (ak (aH (i:=2) kH.nd rfl (aq rfl) (aU T.code (Iz T) hr (aa (pv 0) (aa (aJ cF ao (aJ bY (aJ gH (pv 1) ao) ao)) (aa (aJ bY (pv 1) ao) ai)))))
 (ak (aH (i:=3) kH.nd rfl (aq rfl) (aU T.delay (iF T) hr (aa (pv 2) ai)))
 (ak (aH (i:=4) kH.nd rfl (aq rfl) (aU T.mixed (qc T) hr (aa (aU T.fX (fj T) hr (aa (pv 0) (aa ao ai))) (aa ao ai))))
 (ak (cS (aI zK (pv 3) jn (aY _))
 (ak (aH (i:=5) kH.nd rfl (aq rfl) (aJ cF ao (aJ bY (pv 4) ao)))
 (av (aN (sI (aU T.refused (iY T) hr (aa (pv 2) (aa (pv 5) (aa jn ai)))) (o8 (aU T.refused (iY T) hr (aa (pv 2) (aa (pv 5) (aa jn ai)))))))))
 bC)
 (uH (cS (PW.pt (mw (aI CW (pv 3) ao (aY _)) (jL (jq (mK (aU T.refused (iY T) hr (aa (pv 2) (aa (aJ cF ao (aJ bY (pv 4) (aJ sJ (pv 3) ao))) (aa (pv 3) ai)))) (λ _=>rfl))))))
 (av (aN qV))
 bC)
 (ak (aH (i:=6) kH.nd rfl (aq rfl) (aU T.qQ (Js T) hr (aa (pv 2) (aa (pv 3) ai))))
 (uH (cS (PW.pt (nc (jq (jo (bg mJ rfl T.eO BT.eN (aa (pv 6) (aa (sH (v:=.ty "list") rfl T.E7 BT.Dp rfl) ai))))) (nc (aI CW (bg cM rfl T.gQ BT.gK (aa (pv 6) ai)) (bg cM rfl T.gQ BT.gK (aa (pv 2) ai)) (aY _)) (mq (jq (aI CV (aU T.delay (iF T) hr (aa (pv 6) ai)) (pv 3) (aY _)))))))
 (av (aN qV))
 bC)
 (av (aN (Pe (jM eL (pv 3) ao (aY _)) (o8 (aU T.refused (iY T) hr (aa (pv 2) (aa (aJ sJ (pv 3) ao) (aa (pv 3) ai)))))))))))))))),?_⟩
 show (_:TS) (Ends.mk _ _ _ _) [_,_,_,_,_,_,_] H
 walk_at "start"
 walk_at "go"
 refine ⟨a,ns,0,rfl,hS,by decide,λ c0=>?_⟩
 have b7:=cW (a:=c0 / 2 / 3) (b:=7) (by decide)
 walk_at "go"
 refine ⟨a,ns,(2 + c0 / 2 / 3 % 7).toNat,c0 / 2 % 3,by rw [show (((2 + c0 / 2 / 3 % 7).toNat:Nat):Int)=2 + c0 / 2 / 3 % 7 by omega],hS,hn,by omega,by omega,λ c H1 us rs s1 hc rows hl hok=>?_⟩
 have ht:AH rs 200:=⟨λ r hr=>by rw [hl]; exact hok r hr,λ z=>by rw [z] at hl; have:0=(2 + c0 / 2 / 3 % 7).toNat:=hl; omega,by omega⟩
 have Zl:=s1.seq hS
 clear s1 hS hok
 walk_at "go"
 refine ⟨c,us,rs,rfl,hc,rows,ht.ok,ht.len,ht.ne,λ H2 s2=>?_⟩
 have hc2:=s2 _ _ hc
 have gB:=rows.same s2
 have Q7:=s2.seq Zl
 clear s2 hc rows Zl
 walk_at "go"
 refine ⟨a,ns,1,rfl,Q7,by decide,λ c1=>?_⟩
 walk_at "go"
 refine ⟨_,9,rfl,λ z z0 z1=>?_⟩
 cases hd:bE rs with
 | none =>
  rw [show oV none=.bZ from rfl]
  walk_at "go"
  refine ⟨c,us,rs,_,by rw [hd]; rfl,hc2,gB,ht,by rw [hd]; rfl,λ H3 s3=>?_⟩
  walk_at "go"
  refine ⟨c,us,rs,_,by rw [hd]; rfl,s3 _ _ hc2,gB.same s3,ht,by rw [hd]; rfl,λ H4 _=>?_⟩
  exact q _
 | some m =>
  rw [show oV (some m)=.int m from rfl]
  have hm:=nD hd ht.len
  have sn:qq m rs:=Jv hd (Int.le_refl _)
  obtain ⟨tT,snT,lT⟩:=Jr (n:=m) rs.length rs ht sn
  obtain ⟨mT,hmT,hmn⟩:=Jw snT
  walk_at "go"
  ·rename_i hgt
   have bm:=cW (a:=z) (b:=m - 1) (by omega)
   refine ⟨c,us,rs,_,by rw [hd]; rfl,hc2,gB,ht,by rw [hd]; exact decide_eq_false (by omega),λ H3 s3=>?_⟩
   walk_at "go"
   exact ⟨rfl,s3⟩
  ·rename_i H3 s3
   have hc3:=s3 _ _ hc2
   have jH:=gB.same s3
   clear s3 hc2 gB
   refine ⟨c,us,rs,m,rfl,hc3,jH,ht,sn,λ g vs H4 s4 fg hg AK=>?_⟩
   have hc4:=s4 _ _ hc3
   have F5:=jH.same s4
   have CH:=F5.length
   have hvl:=AK.length
   clear s4 hc3 jH
   walk_at "go"
   ·refine JW (ty:=.type "list") (b:=true) (gC.lst hg) rfl ?_
    walk_at "go"
    refine ⟨g,vs,_,rfl,hg,AK,tT.ok,tT.len,tT.ne,λ H5 s5=>?_⟩
    rw [hmT,show oV (some mT)=.int mT from rfl]
    walk_at "go"
    exact ⟨rfl,s5⟩
   ·exact q _
   ·rename_i H5 s5 hm1
    exact ⟨c,us,rs,_,by rw [hd]; rfl,s5 _ _ hc4,F5.same s5,ht,by rw [hd]; exact decide_eq_false (by omega),λ H6 _=>q _⟩
end
theorem K6(h:us.length=1):∃ v0,us=[v0]:=match us,h with | [v0],_=>⟨v0,rfl⟩
theorem Th(h:us.length=2):∃ v0 v1,us=[v0,v1]:=match us,h with | [v0,v1],_=>⟨v0,v1,rfl⟩
theorem Ti(h:us.length=3):∃ v0 v1 v2,us=[v0,v1,v2]:=match us,h with | [v0,v1,v2],_=>⟨v0,v1,v2,rfl⟩
theorem Tj(h:us.length=4):∃ v0 v1 v2 v3,us=[v0,v1,v2,v3]:=match us,h with | [v0,v1,v2,v3],_=>⟨v0,v1,v2,v3,rfl⟩
theorem Tn(h:us.length=5):∃ v0 v1 v2 v3 v4,us=[v0,v1,v2,v3,v4]:=match us,h with | [v0,v1,v2,v3,v4],_=>⟨v0,v1,v2,v3,v4,rfl⟩
def Jx{w:World}{h:Heap}{mg:Str->Option Value}(X:K.In h)(G:h.Ns mainGlobals mg){um:Addr}{ON:Nat}{oq:Addr}{wA:Tok}{ou:Addr}{wB:Tok}{oz:Addr}{wC:Tok}{oA:Addr}{wD:Tok}{oB:Addr}{wF:Tok}{oE:Addr}{wG:Tok}{oF:Addr}{wH:Tok}{oG:Addr}{wI:Tok}{F6:Nat}{Cj:Option Addr}{Ck:Array (Option Value)}{wJ:Tok}{wK:Tok}{wL:Tok}{wM:Tok}{F7:Nat}{Cm:Option Addr}{Cn:Array (Option Value)}{wN:Tok}{wO:Tok}{wQ:Tok}{wR:Tok}{F8:Nat}{Co:Option Addr}{Cp:Array (Option Value)}{wU:Tok}{wV:Tok}{wW:Tok}{wX:Tok}{wY:Tok}{wZ:Tok}{F9:Nat}{Cq:Option Addr}{Cr:Array (Option Value)}{w4:Tok}{w5:Tok}{Ga:Nat}{Cs:Option Addr}{Ct:Array (Option Value)}{w6:Tok}{xh:Tok}{xj:Tok}{Gb:Nat}{Cu:Option Addr}{Cv:Array (Option Value)}{xm:Tok}{xo:Tok}{Gd:Nat}{Cw:Option Addr}{Cy:Array (Option Value)}{xq:Tok}{Ge:Nat}{Cz:Option Addr}{CA:Array (Option Value)}{xr:Tok}(uo:PySem.W.nsIn K mainGlobals "PARTS" = some (some (.ref um)))(uq:K.lookup um=some ⟨.type "dict", none,.dict #[{ hash:=PyData.keyHash w.params "num", key:=.str "num" wA,val:=.ref oq },{ hash:=PyData.keyHash w.params "copy", key:=.str "copy" wB,val:=.ref ou },{ hash:=PyData.keyHash w.params "op", key:=.str "op" wC,val:=.ref oz },{ hash:=PyData.keyHash w.params "out", key:=.str "out" wD,val:=.ref oA },{ hash:=PyData.keyHash w.params "fork", key:=.str "fork" wF,val:=.ref oB },{ hash:=PyData.keyHash w.params "look", key:=.str "look" wG,val:=.ref oE },{ hash:=PyData.keyHash w.params "mark", key:=.str "mark" wH,val:=.ref oF },{ hash:=PyData.keyHash w.params "back", key:=.str "back" wI,val:=.ref oG }] ON,#[]⟩)(ur:(um == sysModules)=false)(qt:K.lookup oq=some ⟨.type "tuple", Cj,.seq #[.str "side" wJ,.str "box" wK,.str "value" wL,.str "place" wM] F6,Ck⟩)(qu:K.lookup ou=some ⟨.type "tuple", Cm,.seq #[.str "side" wN,.str "box" wO,.str "box" wQ,.str "place" wR] F7,Cn⟩)(qv:K.lookup oz=some ⟨.type "tuple", Co,.seq #[.str "side" wU,.str "sign" wV,.str "box" wW,.str "box" wX,.str "box" wY,.str "place" wZ] F8,Cp⟩)(qw:K.lookup oA=some ⟨.type "tuple", Cq,.seq #[.str "box" w4,.str "place" w5] F9,Cr⟩)(qx:K.lookup oB=some ⟨.type "tuple", Cs,.seq #[.str "box" w6,.str "place" xh,.str "place" xj] Ga,Ct⟩)(qy:K.lookup oE=some ⟨.type "tuple", Cu,.seq #[.str "box" xm,.str "place" xo] Gb,Cv⟩)(qz:K.lookup oF=some ⟨.type "tuple", Cw,.seq #[.str "place" xq] Gd,Cy⟩)(qA:K.lookup oG=some ⟨.type "tuple", Cz,.seq #[.str "box" xr] Ge,CA⟩):Am w K mg:={ lC:=um,tO:=PySem.W.mg_of X G uo,lD:=oq,vM:=e8.mk' qt (.cons ⟨_,rfl⟩ (.cons ⟨_,rfl⟩ (.cons ⟨_,rfl⟩ (.cons ⟨_,rfl⟩ (.nil))))) (by show (4:Nat) <= 1000; decide),lE:=ou,vN:=e8.mk' qu (.cons ⟨_,rfl⟩ (.cons ⟨_,rfl⟩ (.cons ⟨_,rfl⟩ (.cons ⟨_,rfl⟩ (.nil))))) (by show (4:Nat) <= 1000; decide),lF:=oz,vO:=e8.mk' qv (.cons ⟨_,rfl⟩ (.cons ⟨_,rfl⟩ (.cons ⟨_,rfl⟩ (.cons ⟨_,rfl⟩ (.cons ⟨_,rfl⟩ (.cons ⟨_,rfl⟩ (.nil))))))) (by show (6:Nat) <= 1000; decide),lG:=oA,vP:=e8.mk' qw (.cons ⟨_,rfl⟩ (.cons ⟨_,rfl⟩ (.nil))) (by show (2:Nat) <= 1000; decide),lH:=oB,vQ:=e8.mk' qx (.cons ⟨_,rfl⟩ (.cons ⟨_,rfl⟩ (.cons ⟨_,rfl⟩ (.nil)))) (by show (3:Nat) <= 1000; decide),lI:=oE,vR:=e8.mk' qy (.cons ⟨_,rfl⟩ (.cons ⟨_,rfl⟩ (.nil))) (by show (2:Nat) <= 1000; decide),lJ:=oF,vS:=e8.mk' qz (.cons ⟨_,rfl⟩ (.nil)) (by show (1:Nat) <= 1000; decide),lK:=oG,vU:=e8.mk' qA (.cons ⟨_,rfl⟩ (.nil)) (by show (1:Nat) <= 1000; decide),tP:=uN.mk' (es:=[("num", wA,.ref oq),("copy", wB,.ref ou),("op", wC,.ref oz),("out", wD,.ref oA),("fork", wF,.ref oB),("look", wG,.ref oE),("mark", wH,.ref oF),("back", wI,.ref oG)]) uq ur (show (["num", "copy", "op", "out", "fork", "look", "mark", "back"]:List Str).Nodup from by decide +kernel) (.cons ⟨rfl,rfl⟩ (.cons ⟨rfl,rfl⟩ (.cons ⟨rfl,rfl⟩ (.cons ⟨rfl,rfl⟩ (.cons ⟨rfl,rfl⟩ (.cons ⟨rfl,rfl⟩ (.cons ⟨rfl,rfl⟩ (.cons ⟨rfl,rfl⟩ (.nil))))))))) }
theorem OO{l:PySem.W.OpenLaw}{w:World}{mg:Str->Option Value}{fa:Addr}(T:Txt w K mg)(WM:mg "law" = some (.ref fa)):∃ fd:FuncData,(∀ (s:Shared) (v:Value),BindsTo s fd ⟨[v],[]⟩ [("_law_script", v)]) /\ ∀ base:Heap,K.In base->base.Ns mainGlobals mg->bN l.prog w K mg base gJ 13 fa fd ["_law_script"] (An K):=by
 have e:=WM.symm.trans T.law.m
 cases e
 exact ⟨T.law.d,T.law.bind1 (λ _ _ _ _ _ _ us hl=>by obtain ⟨v0,rfl⟩:=K6 hl; rfl),λ base kb nb=>OM T⟩
theorem walk{l:PySem.W.OpenLaw}{q:Program}{loose:List Str}{XP:(Str->Option Value)->Heap->Prop}{YP:World->Heap->Prop}{d:DefRec}{K:Params->az}(hn:l.most=some 63)(hdf:d.params.defaults=[])
  (hY:∀ (w:World) (h:Heap),YP w h->(K w.params).In h)
  (F:∀ (w:World) (mg:Str->Option Value) (fa:Addr) (h:Heap),(K w.params).In h->h.Ns mainGlobals mg->mg d.name=some (.ref fa) ->
   ∃ fd:FuncData,(∀ (s:Shared) (u:Value),BindsTo s fd ⟨[u],[]⟩ [("_law_script", u)]) /\ ∀ base:Heap,(K w.params).In base->base.Ns mainGlobals mg->bN l.prog w (K w.params) mg base gJ 13 fa fd ["_law_script"] (An (K w.params))):
  PySem.W.WalkO q loose XP YP l.row.toRowW d [] (λ f vs=>PySem.call f vs) :=
 L2.GN (n:=63) (k:=13) (x := "_law_script") (CX:=λ _=>gJ) (sp:=λ w=>An (K w.params)) hn (by decide) hdf ⟨rfl,by decide,by decide⟩ hY F (λ _ _ a ns hl _ hS=>⟨a,ns,rfl,hS,hl,λ _=>rfl⟩) λ _ _ _ _ _ z=>z
end TG
open PySem PySem.W PyProof.Rows
set_option hygiene false in
local macro_rules | `(tactic| walk_at "bd") => `(tactic| (intro _ _ _ _ _ _ us hl; first | (obtain ⟨v0, rfl⟩ := TG.K6 hl; rfl) | (obtain ⟨v0, v1, rfl⟩ := TG.Th hl; rfl) | (obtain ⟨v0, v1, v2, rfl⟩ := TG.Ti hl; rfl) | (obtain ⟨v0, v1, v2, v3, rfl⟩ := TG.Tj hl; rfl) | (obtain ⟨v0, v1, v2, v3, v4, rfl⟩ := TG.Tn hl; rfl)))
set_option hygiene false in
local macro_rules | `(tactic| walk_at "dd") => `(tactic| (refine' L2.Rl KX G ?b ?a ?l ?c ?k; (case b => walk_at "bd"); (case a => k_is); (case l => k_is); (case c => k_is); (case k => k_is)))
set_option hygiene false in
local macro_rules | `(tactic| walk_at "xg") => `(tactic| (refine' L2.RC KX G ?a ?g ?e; (case a => k_is); (case g => kernel_rfl); (case e => kernel_rfl)))
set_option hygiene false in
local macro_rules | `(tactic| walk_at "xp") => `(tactic| (refine' L2.RE KX G ?a; (case a => k_is)))
set_option hygiene false in
local macro_rules | `(tactic| walk_at "xe") => `(tactic| (refine' L2.RG KX G ?b ?a ?i ?l ?c ?k ?x; (case b => walk_at "bd"); (case a => k_is); (case i => k_is); (case l => k_is); (case c => k_is); (case k => k_is); (case x => kernel_rfl)))
set_option hygiene false in
local macro_rules | `(tactic| walk_at "nn") => `(tactic| (refine PySem.W.mg_none_of KX G ?_; k_is))
set_option hygiene false in
local macro_rules | `(tactic| walk_at "ci") => `(tactic| (refine' L2.Rm KX G ?a; (case a => k_is)))
set_option hygiene false in
local macro_rules | `(tactic| walk_at "ct") => `(tactic| (refine' L2.Rn KX G ?a ?l ?r ?z; (case a => k_is); (case l => k_is); (case r => (repeat (first | exact .nil | refine .cons ⟨_, rfl⟩ ?_))); (case z => exact o6 rfl)))
namespace PySem.W.Fast
theorem tw631756787530987085:True:=trivial
theorem tw11180250900978913307:True:=trivial
theorem tw15563664244265912321:True:=trivial
theorem tw11041897214698522169:True:=trivial
theorem tw15580708177412035914:True:=trivial
theorem tw2080174204203140150:True:=trivial
theorem tw5666619659833902962:True:=trivial
theorem tw13055069636338227856:True:=trivial
theorem tw17458953064959987610:True:=trivial
theorem tw264845907164427758:True:=trivial
theorem tw1975871039043225769:True:=trivial
theorem tw8829415925383394807:True:=trivial
theorem tw8524069401486337017:True:=trivial
theorem tw12312648788719677574:True:=trivial
theorem tw13638852000156546974:True:=trivial
theorem tw10005298761938843715:True:=trivial
theorem tw10912870135434546634:True:=trivial
theorem tw1656059457109063263:True:=trivial
theorem tw6640682961704905166:True:=trivial
theorem tw12646826507010621938:True:=trivial
theorem tw5843041159551630276:True:=trivial
theorem tw2970955877578290629:True:=trivial
theorem tw11321422672053316082:True:=trivial
theorem tw13624053101962393206:True:=trivial
theorem tw13915197903076581597:True:=trivial
theorem tw11552587013993806960:True:=trivial
theorem tw13598855931554191108:True:=trivial
theorem tw4800077106218697650:True:=trivial
theorem tw17799655721870401460:True:=trivial
theorem tw14120413057200196243:True:=trivial
theorem tw9896483305300252375:True:=trivial
theorem tw5796709157881155352:True:=trivial
theorem tw10325005680439986318:True:=trivial
theorem tw1114108603143726681:True:=trivial
theorem tw10577231651841005358:True:=trivial
theorem tw10454835376969650697:True:=trivial
theorem tw1720467904405450875:True:=trivial
theorem tw4534081395306685351:True:=trivial
theorem tw16549053040365990888:True:=trivial
theorem tw10792864471226564826:True:=trivial
theorem tw12608125440834285042:True:=trivial
theorem tw16989364488568842276:True:=trivial
theorem tw14002117297844931888:True:=trivial
theorem tw10905440575934985222:True:=trivial
theorem tw3906077903674169565:True:=trivial
theorem tw11794374458149795165:True:=trivial
theorem tw2468913509737903039:True:=trivial
theorem tw4238432388419525967:True:=trivial
theorem tw11113696050505667537:True:=trivial
theorem tw5779951407696475303:True:=trivial
theorem tw14927748357523466827:True:=trivial
theorem tw5983676182417685451:True:=trivial
theorem tw6142038884780300570:True:=trivial
theorem tw13421469261343158705:True:=trivial
theorem tw13185166767265814264:True:=trivial
theorem tw7306498259182183431:True:=trivial
theorem tw9122722288867930512:True:=trivial
theorem tw15553393772993946524:True:=trivial
theorem tw16404097183077747819:True:=trivial
theorem tw1709514712024796034:True:=trivial
theorem tw427108638101162049:True:=trivial
theorem tw11116942979591842715:True:=trivial
theorem tw82204960747272230:True:=trivial
theorem tw14290297417793380351:True:=trivial
theorem tw5019045156268329367:True:=trivial
theorem tw4101055797978742199:True:=trivial
theorem tw5236817971161932696:True:=trivial
theorem tw8780720177948513013:True:=trivial
theorem tw12217442539493014829:True:=trivial
theorem tw4738378657393254212:True:=trivial
theorem tw10246646321472961266:True:=trivial
theorem tw16929754677176149670:True:=trivial
theorem tw15330250809949460004:True:=trivial
theorem tw9358085908673157215:True:=trivial
theorem tw10867461797620781067:True:=trivial
theorem tw11151031038225229599:True:=trivial
theorem tw8344320139369195574:True:=trivial
theorem tw2251299264666660467:True:=trivial
theorem tw6752327253559028631:True:=trivial
theorem tw8356551420833367250:True:=trivial
theorem tw4464168398367937049:True:=trivial
theorem tw4258560111791641091:True:=trivial
theorem tw13075974340984004857:True:=trivial
theorem tw17259970754094398824:True:=trivial
end PySem.W.Fast
set_option maxRecDepth 100000 in
set_option maxHeartbeats 0 in
theorem PySem.Challenge.cw_turnguard_k66_too_late_holds : PySem.Challenge.rw_turnguard_k66_too_late.Holds := by
 w_on; o_law; k_head; (case hw=>w_witness2)
 k_fill
 refine TG.walk (l:=PySem.Challenge.rw_turnguard_k66_too_late) rfl rfl (λ w h Y=>PySem.W.kIn_of Y) ?F
 case F =>
  intro w mg fa h KX G hmg
  refine' TG.OO (w:=w) ⟨?q0,?q1,?q2,?q3,?q4,?q5,?q6,?q7,?q8,?q9,?q10,?q11,?q12,?q13,?q14,?q15,?q16,?q17,?q18,?q19,?q20,?q21,?q22,?q23,?q24,?q25,?q26,?q27,?q28,?q29,?q30,?q31,?q32,?q33,?q34,?q35,?q36,?q37,?q38,?q39,?q40,?q41,?q42,?q43,?q44,?q45,?q46,?q47,?q48,?q49,?q50,?q51,?q52,?q53,?q54,?q55,?q56,?q57,?q58,?q59,?q60,?q61,?q62⟩ hmg
  case q0|q1|q2|q3|q4|q5|q6|q7|q8|q9|q10|q11|q12|q13|q14|q15|q16|q17|q18|q19|q20|q21|q22|q23|q24|q25|q26|q27|q28|q29|q30|q31|q32=>walk_at "dd"
  case q33|q34|q35|q36|q37|q38|q39|q40|q41|q42|q43|q44|q45|q46|q47|q48|q49|q50=>walk_at "nn"
  case q57=>walk_at "ci"
  case q58|q59|q60|q62=>walk_at "ct"
  case q51=>walk_at "xg"
  case q52=>walk_at "xp"
  case q53=>walk_at "xe"
  case q54=>kernel_rfl
  case q55=>kernel_rfl
  case q56=>kernel_rfl
  case q61 =>
   refine' TG.Jx KX G ?uo ?uq ?ur ?qt ?qu ?qv ?qw ?qx ?qy ?qz ?qA
   case uo|uq|qt|qu|qv|qw|qx|qy|qz|qA=>k_is
   case ur=>rfl
end
