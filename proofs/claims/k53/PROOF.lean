import PyProof.Rows.All
import Wide.All
import OpenK.AllK
import Wide.FinOn
import Lean
import PyProof.EqAt
import PyProof.EqKinds
import PyProof.TupleCall
import KE.KRevIter
import KE.KRevSl
import PyProof.AttrMiss
import KE.KDictOf
import PyProof.FactsAll.enumerate
import PyProof.FactsAll.zip
import PyProof.ListRange
import PyProof.FactsAll.list_1
import KE.KDictList
import PyProof.StrOps2
import PyProof.Rows.SetFrom
import PyProof.CollectStr
import PyProof.Rows.SortWalk
import KE.KSortTup
import KE.KDictList
import PyProof.FactsAll.range_2
import PyProof.P3Eq
import KE.KEqDict
import KE.KLam
import KE.KNestM
import KE.KMinKey
import PySem.Challenge.RW_turnguard_k53_a_longest_way
set_option Elab.async false
set_option linter.all false
set_option maxRecDepth 100000
theorem ao:type_of% @PySem.wpAny_bind:=@PySem.wpAny_bind
theorem aH:type_of% @PySem.wpAny_pure:=@PySem.wpAny_pure
theorem cB:type_of% @PySem.Heap.get?_push_of_some:=@PySem.Heap.get?_push_of_some
theorem fR:type_of% @PySem.Heap.get?_push_size:=@PySem.Heap.get?_push_size
theorem fu{α:Type}{l:List α}{i:Nat}{a:α}(h:l[i]? = some a):∃ h:i < l.length,l[i]=a:=List.getElem?_eq_some_iff.mp h
theorem dJ{α:Type}{l:List α}{i:Nat}(h:i < l.length):l[i]? = some l[i]:=List.getElem?_eq_getElem h
theorem fS{α:Type}{l:List α}{i:Nat}{a:α}(h:l[i]? = some a):a∈l:=List.mem_of_getElem? h
theorem ki{α:Type}{l:List α}{i:Nat}{a:α}:l.getD i a=l[i]?.getD a:=List.getD_eq_getElem?_getD
theorem ic:¬ (false=true):=Bool.false_ne_true
noncomputable section
local macro_rules | `(tactic| walk_at "sc") => `(tactic| exact ⟨rfl, rfl, rfl, by decide +kernel, rfl, by decide +kernel, by decide +kernel⟩)
abbrev aA:=PySem.W.Frag
section
open PySem PySem.Spec PyProof.Rows
theorem fz:type_of% @Around.under_plainId:=@Around.under_plainId
theorem jA:type_of% @Array.forIn_toList:=@Array.forIn_toList
theorem d7:type_of% @Array.getElem?_eq_getElem:=@Array.getElem?_eq_getElem
theorem pJ:type_of% @Array.getElem?_eq_none:=@Array.getElem?_eq_none
theorem jB:type_of% @Array.getElem?_eq_some_iff:=@Array.getElem?_eq_some_iff
theorem d8:type_of% @Array.getElem?_toList:=@Array.getElem?_toList
theorem cC:type_of% @Array.length_toList:=@Array.length_toList
theorem nU:type_of% @Bool.and_eq_true:=@Bool.and_eq_true
theorem pK:type_of% @Bool.false_and:=@Bool.false_and
theorem bG:type_of% @Bool.false_eq_true:=@Bool.false_eq_true
theorem eT:type_of% @Bool.not_true:=@Bool.not_true
theorem tN:type_of% @Calls.callWith_builtin:=@Calls.callWith_builtin
theorem pL:type_of% @Calls.call_function_entry:=@Calls.call_function_entry
theorem pM:type_of% @Classical.byContradiction:=@Classical.byContradiction
theorem kE:type_of% @F.entry_max_loop:=@F.entry_max_loop
theorem eB:type_of% @F.plain_max_loop:=@F.plain_max_loop
theorem tO:type_of% @F.slot_dict_keyiterator_next:=@F.slot_dict_keyiterator_next
theorem tP:type_of% @F.slot_dict_valueiterator_next:=@F.slot_dict_valueiterator_next
theorem tQ:type_of% @F.slot_tuple_iterator_next:=@F.slot_tuple_iterator_next
theorem pN:type_of% @Heap.SameBut.refl:=@Heap.SameBut.refl
theorem iI:type_of% @Heap.SameBut.update:=@Heap.SameBut.update
theorem dN:type_of% @Heap.get?_update_ne:=@Heap.get?_update_ne
theorem fB:type_of% @Heap.get?_update_other:=@Heap.get?_update_other
theorem dO:type_of% @Heap.get?_update_self:=@Heap.get?_update_self
theorem aF:type_of% @Heap.lt_size:=@Heap.lt_size
theorem dP:type_of% @Heap.size_push:=@Heap.size_push
theorem gE:type_of% @Int.toNat_natCast:=@Int.toNat_natCast
theorem kF:type_of% @List.Perm.refl:=@List.Perm.refl
theorem gF:type_of% @List.any_cons:=@List.any_cons
theorem mT:type_of% @List.append_assoc:=@List.append_assoc
theorem dQ:type_of% @List.append_nil:=@List.append_nil
theorem gG:type_of% @List.filter_append:=@List.filter_append
theorem mU:type_of% @List.filter_cons_of_neg:=@List.filter_cons_of_neg
theorem mV:type_of% @List.filter_cons_of_pos:=@List.filter_cons_of_pos
theorem fW:type_of% @List.find?_cons:=@List.find?_cons
theorem mW:type_of% @List.flatMap_cons:=@List.flatMap_cons
theorem iJ:type_of% @List.forIn_cons:=@List.forIn_cons
theorem jC:type_of% @List.forIn_nil:=@List.forIn_nil
theorem tR:type_of% @List.getElem?_append_right:=@List.getElem?_append_right
theorem ja:type_of% @List.getElem?_eq_none:=@List.getElem?_eq_none
theorem aY:type_of% @List.getElem?_map:=@List.getElem?_map
theorem pO:type_of% @List.getElem?_take_of_lt:=@List.getElem?_take_of_lt
theorem jb:type_of% @List.getElem?_toArray:=@List.getElem?_toArray
theorem kG:type_of% @List.getElem?_zip_eq_some:=@List.getElem?_zip_eq_some
theorem pP:type_of% @List.getElem_inj:=@List.getElem_inj
theorem pQ:type_of% @List.getElem_map:=@List.getElem_map
theorem gn:type_of% @List.getElem_mem:=@List.getElem_mem
theorem bh:type_of% @List.length_append:=@List.length_append
theorem dR:type_of% @List.length_cons:=@List.length_cons
theorem gH:type_of% @List.length_filter_le:=@List.length_filter_le
theorem au:type_of% @List.length_map:=@List.length_map
theorem fX:type_of% @List.length_singleton:=@List.length_singleton
theorem cu:type_of% @List.length_take:=@List.length_take
theorem bK:type_of% @List.map_append:=@List.map_append
theorem bO:type_of% @List.map_cons:=@List.map_cons
theorem fY:type_of% @List.map_map:=@List.map_map
theorem aO:type_of% @List.mem_append:=@List.mem_append
theorem iK:type_of% @List.mem_append_left:=@List.mem_append_left
theorem bI:type_of% @List.mem_append_right:=@List.mem_append_right
theorem aJ:type_of% @List.mem_cons:=@List.mem_cons
theorem cV:type_of% @List.mem_cons_of_mem:=@List.mem_cons_of_mem
theorem gI:type_of% @List.mem_cons_self:=@List.mem_cons_self
theorem dS:type_of% @List.mem_filter:=@List.mem_filter
theorem jD:type_of% @List.mem_flatMap:=@List.mem_flatMap
theorem kH:type_of% @List.mem_iff_getElem:=@List.mem_iff_getElem
theorem eU:type_of% @List.mem_iff_getElem?:=@List.mem_iff_getElem?
theorem aG:type_of% @List.mem_map:=@List.mem_map
theorem mX:type_of% @List.mem_map_of_mem:=@List.mem_map_of_mem
theorem fE:type_of% @List.mem_range:=@List.mem_range
theorem aC:type_of% @List.mem_singleton:=@List.mem_singleton
theorem eV:type_of% @List.nodup_append:=@List.nodup_append
theorem fZ:type_of% @List.nodup_cons:=@List.nodup_cons
theorem jc:type_of% @List.nodup_nil:=@List.nodup_nil
theorem fF:type_of% @List.not_mem_nil:=@List.not_mem_nil
theorem mY:type_of% @List.pairwise_cons:=@List.pairwise_cons
theorem jd:type_of% @List.pairwise_iff_getElem:=@List.pairwise_iff_getElem
theorem gJ:type_of% @List.pairwise_map:=@List.pairwise_map
theorem pR:type_of% @List.replicate_succ:=@List.replicate_succ
theorem aV:type_of% @List.size_toArray:=@List.size_toArray
theorem bV:type_of% @List.take_add_one:=@List.take_add_one
theorem cD:type_of% @List.take_length:=@List.take_length
theorem kI:type_of% @Nat.le_add_right:=@Nat.le_add_right
theorem pS:type_of% @Nat.le_of_ble_eq_true:=@Nat.le_of_ble_eq_true
theorem gK:type_of% @Nat.le_of_lt:=@Nat.le_of_lt
theorem az:type_of% @Nat.le_refl:=@Nat.le_refl
theorem kJ:type_of% @Nat.le_succ:=@Nat.le_succ
theorem bE:type_of% @Nat.le_trans:=@Nat.le_trans
theorem dH:type_of% @Nat.lt_irrefl:=@Nat.lt_irrefl
theorem cg:type_of% @Nat.lt_of_lt_of_le:=@Nat.lt_of_lt_of_le
theorem cH:type_of% @Nat.lt_or_ge:=@Nat.lt_or_ge
theorem je:type_of% @Nat.lt_succ_of_lt:=@Nat.lt_succ_of_lt
theorem kK:type_of% @Nat.lt_succ_self:=@Nat.lt_succ_self
theorem jE:type_of% @Nat.ne_of_gt:=@Nat.ne_of_gt
theorem aT:type_of% @Nat.ne_of_lt:=@Nat.ne_of_lt
theorem aQ:type_of% @Nat.zero_le:=@Nat.zero_le
theorem bF:type_of% @Ne.symm:=@Ne.symm
theorem kL:type_of% @Obj.cls_mapFields:=@Obj.cls_mapFields
theorem dI:type_of% @Obj.data_mapFields:=@Obj.data_mapFields
theorem jf:type_of% @Obj.isFreed_of_fields:=@Obj.isFreed_of_fields
theorem dg:type_of% @Option.map_eq_some_iff:=@Option.map_eq_some_iff
theorem jV:type_of% @Option.toList_some:=@Option.toList_some
theorem ay:type_of% @Or.inl:=@Or.inl
theorem bL:type_of% @Or.inr:=@Or.inr
theorem gu:type_of% @Paired.length:=@Paired.length
theorem cj:type_of% @Paired.mono:=@Paired.mono
theorem cA:type_of% @Paired.snoc:=@Paired.snoc
theorem bJ:type_of% @PassesOwn.never:=@PassesOwn.never
theorem jg:type_of% @PyProof.Rows.callWith_type1:=@PyProof.Rows.callWith_type1
theorem cQ:type_of% @PySem.F.plainAttrs_list:=@PySem.F.plainAttrs_list
theorem gw:type_of% @PySem.F.slot_list_append:=@PySem.F.slot_list_append
theorem kZ:type_of% @PySem.F.slot_list_extend:=@PySem.F.slot_list_extend
theorem gz:type_of% @PySem.F.type_list_append:=@PySem.F.type_list_append
theorem k6:type_of% @PySem.F.type_list_extend:=@PySem.F.type_list_extend
theorem eF:type_of% @PySem.W.kia_one:=@PySem.W.kia_one
theorem fG:type_of% @PySem.mem_of_lookup:=@PySem.mem_of_lookup
theorem eG:type_of% @True.intro:=@True.intro
end
namespace L2
open PySem PySem.Spec PyProof.Rows
variable {x:Str}{u:Value}{H:Hp}{a b:Addr}{o:HO}{P:Program}{w:World}{h base:Heap}{t' i k n:Nat}{ch fp:List Addr}{N ps:List Str}{M:Model}{A:Around}{E:Value->Shared->Prop}{v:V}{Q:Unit->Shared->Prop}{X:Cx}{e c tg:Expr}{s:Shared}{pins:List (Addr × Obj)}{pos:Pos}{op:CmpOp}{t:TE}{K:aA}{D:Ends}{g:TG}{body:List Stmt}{tb:TS}{xs:List V}{f:Value->Value->Sem Value}{r:R2}{us:List Value}{mg:Str->Option Value}{CX:Ao}
abbrev Key:=Sum Int Str
def r6:Key->Value->Bool
 | .inl k,v=>Value.isInt k v
 | .inr x,v=>Value.isStrOf x v
def Ww(w:World):Key->Int
 | .inl k=>hashInt k
 | .inr x=>hashStr w x
theorem cR:∀ {k:Key} {v:Value},r6 k v=true->(∃ i t,k=Sum.inl i /\ v=Value.int i t) \/ (∃ x t,k=Sum.inr x /\ v=Value.str x t)
 | .inl i,v,h=>by
  obtain ⟨t,e⟩:=Value.isInt_shape (k:=i) (v:=v) h
  exact .inl ⟨i,t,rfl,e⟩
 | .inr x,v,h=>by
  obtain ⟨t,e⟩:=Value.isStrOf_shape (x:=x) (v:=v) h
  exact .inr ⟨x,t,rfl,e⟩
theorem BV(i:Int)(t:Tok):r6 (.inl i) (.int i t)=true:=by simp [r6,Value.isInt]
theorem BW(x:Str)(t:Tok):r6 (.inr x) (.str x t)=true:=by simp [r6,Value.isStrOf]
theorem MC(a b:Int):decide ((Sum.inl a:Key)=Sum.inl b)=(a == b):=by
 by_cases e:a=b
 ·subst e; simp
 ·have h:¬ (Sum.inl a:Key)=Sum.inl b:=λ q=>e (Sum.inl.inj q)
  rw [decide_eq_false h]
  exact (beq_eq_false_iff_ne.mpr e).symm
theorem MD(a b:Str):decide ((Sum.inr a:Key)=Sum.inr b)=decide (a=b):=by
 by_cases e:a=b
 ·subst e; simp
 ·have h:¬ (Sum.inr a:Key)=Sum.inr b:=λ q=>e (Sum.inr.inj q)
  rw [decide_eq_false h,decide_eq_false e]
theorem ME(a:Int)(b:Str):decide ((Sum.inl a:Key)=Sum.inr b)=false:=decide_eq_false (λ q=>nomatch q)
theorem MF(a:Str)(b:Int):decide ((Sum.inr a:Key)=Sum.inl b)=false:=decide_eq_false (λ q=>nomatch q)
def bW(prog:Program)(w:World):PySem.KeyKind prog w Key where
 is:=r6
 hash:=Ww w
 inj:=λ v a b ha hb=>by
  rcases cR ha with ⟨i,t,rfl,rfl⟩ | ⟨x,t,rfl,rfl⟩
  ·rcases cR hb with ⟨j,u,rfl,e⟩ | ⟨y,u,rfl,e⟩
   ·injection e with e1 _; rw [e1]
   ·exact nomatch e
  ·rcases cR hb with ⟨j,u,rfl,e⟩ | ⟨y,u,rfl,e⟩
   ·exact nomatch e
   ·injection e with e1 _; rw [e1]
 byValue:=λ k v h=>by
  rcases cR h with ⟨i,t,rfl,rfl⟩ | ⟨x,t,rfl,rfl⟩ <;> rfl
 pyHash:=λ hv h=>by
  rcases cR hv with ⟨i,t,rfl,rfl⟩ | ⟨x,t,rfl,rfl⟩
  ·exact wpAny_pyHash_int h
  ·exact wpAny_pyHash_str h
 eqBool:=λ hu hv h=>by
  rcases cR hu with ⟨i,t,rfl,rfl⟩ | ⟨x,t,rfl,rfl⟩
  ·rcases cR hv with ⟨j,u,rfl,rfl⟩ | ⟨y,u,rfl,rfl⟩
   ·rw [MC] at h; exact wpAny_eqBool_int h
   ·rw [ME] at h; exact SeqAt.EqAt.int_str i t y u _ _ _ _ h
  ·rcases cR hv with ⟨j,u,rfl,rfl⟩ | ⟨y,u,rfl,rfl⟩
   ·rw [MF] at h; exact SeqAt.EqAt.str_int x t j u _ _ _ _ h
   ·rw [MD] at h; exact wpAny_eqBool_str h
 «strs»:=λ k x t v h=>by
  rcases cR h with ⟨i,u,rfl,e⟩ | ⟨y,u,rfl,e⟩
  ·exact nomatch e
  ·injection e with e1 _
   subst e1
   cases v <;> rfl
theorem u9(prog:Program)(w:World)(i:Int)(t:Tok):(bW prog w).is (.inl i) (.int i t)=true:=BV i t
theorem jF(prog:Program)(w:World)(x:Str)(t:Tok):(bW prog w).is (.inr x) (.str x t)=true:=BW x t
inductive V where
 | c6 | bl (b:Bool) | int (i:Int) | str (x:Str) | BX (b:Array UInt8) | Qo (b:UInt64) | ref (a:Addr) | ty (n:String)
 deriving DecidableEq
def RelV:V->Value->Prop
 | .c6,u=>u=Value.none
 | .bl b,u=>u=Value.bool b
 | .int i,u=>∃ t,u=Value.int i t
 | .str x,u=>∃ t,u=Value.str x t
 | .BX b,u=>∃ t,u=Value.bytes b t
 | .Qo b,u=>∃ t,u=Value.float b t
 | .ref a,u=>u=Value.ref a
 | .ty n,u=>u=Value.type n
abbrev Vals:List V->List Value->Prop:=Paired RelV
theorem Vals.length{xs:List V}{us:List Value}(r:Vals xs us):xs.length=us.length:=gu r
theorem Vals.get:∀ {xs:List V} {us:List Value} {i:Nat} {x:V},Vals xs us->xs[i]? = some x->∃ u,us[i]? = some u /\ RelV x u
 | _,_,_,_,.nil,e=>by simp at e
 | _,_,0,_,.cons r _,e=>by simp at e; subst e; exact ⟨_,rfl,r⟩
 | _,_,i + 1,x,.cons _ t,e=>by
  obtain ⟨u,h1,h2⟩:=Vals.get (i:=i) (x:=x) t (by simpa using e)
  exact ⟨u,by simpa using h1,h2⟩
theorem Vals.set{x:V}(r:RelV x u):∀ {xs:List V} {us:List Value} (i:Nat),Vals xs us->Vals (xs.set i x) (us.set i u)
 | _,_,_,.nil=>.nil
 | _,_,0,.cons _ t=>.cons r t
 | _,_,i + 1,.cons q t=>.cons q (Vals.set r i t)
theorem Vals.append:∀ {xs ys:List V} {us ws:List Value},Vals xs us->Vals ys ws->Vals (xs++ys) (us++ws)
 | _,_,_,_,.nil,s=>s
 | _,_,_,_,.cons r t,s=>.cons r (Vals.append t s)
theorem Vals.take:∀ {xs:List V} {us:List Value} (n:Nat),Vals xs us->Vals (xs.take n) (us.take n)
 | _,_,0,_=>.nil
 | _,_,_ + 1,.nil=>.nil
 | _,_,n + 1,.cons r t=>.cons r (Vals.take n t)
theorem Vals.drop:∀ {xs:List V} {us:List Value} (n:Nat),Vals xs us->Vals (xs.drop n) (us.drop n)
 | _,_,0,r=>r
 | _,_,_ + 1,.nil=>.nil
 | _,_,n + 1,.cons _ t=>Vals.drop n t
def kM:Option V->Option Value->Prop
 | some v,some u=>RelV v u
 | none,none=>True
 | _,_=>False
def KV{κ:Type}:List (κ × V)->List (κ × Value)->Prop:=Paired λ (p:κ × V) (q:κ × Value)=>p.1=q.1 /\ RelV p.2 q.2
def kV:Key->V
 | .inl i=>.int i
 | .inr x=>.str x
inductive HO where
 | lst (xs:List V)
 | tup (xs:List V)
 | dK (kvs:List (Key × V)) | dT (kvs:List (List Key × V))
 | set (S:Int->Bool) (n:Nat)
 | ins (C dx:Addr) (fs:List (Str × V))
 | own (x:Addr)
 | xd (fs:List (Str × V))
 | met (f x:Addr)
 | Wx (lo hi:Int)
 | uZ (o:Obj) (u:HO)
 | mR (ps:Array Value)
 | ext (φ:Heap->Prop)
abbrev Hp:=Addr->Option HO
def upd(H:Hp)(a:Addr)(o:HO):Hp:=λ b=>if b=a then some o else H b
theorem cS:upd H a o a=some o:=by unfold upd; rw [if_pos rfl]
theorem aZ(h:b ≠ a):upd H a o b=H b:=by unfold upd; rw [if_neg h]
theorem pT{H:Hp}{o u:HO}(h:H a=some o)(h':H b=some u)(d:o ≠ u):a ≠ b:=by
 intro e; subst e; rw [h] at h'; exact d (Option.some.inj h')
theorem bx{H:Hp}{o:HO}(h:H a=some o)(h':H b=none):a ≠ b:=by
 intro e; subst e; rw [h] at h'; cases h'
section
variable (P:Program)(w:World)
def cG(H:Hp)(h:Heap)(a:Addr):HO->Prop
 | .lst xs=>xs.length <= sizeLine /\ ∃ (its:List Value) (n:Nat),Vals xs its /\ h.get? a=some { cls:=.type "list", data:=.seq its.toArray n }
 | .tup xs=>xs.length <= sizeLine /\ ∃ its:List Value,Vals xs its /\ IsTup h a its.toArray
 | .dK kvs=>kvs.length <= sizeLine /\ (a == sysModules)=false /\ ∃ vs,KV kvs vs /\ h.DictOf (bW P w) a vs
 | .dT kvs=>kvs.length <= sizeLine /\ (a == sysModules)=false /\ ∃ xs:List (List Key × Addr × Value),
   Paired (λ (p:List Key × V) (q:List Key × Addr × Value)=>p.1=q.1 /\ H q.2.1=some (.tup (p.1.map kV)) /\ RelV p.2 q.2.2) kvs xs /\
   ∃ o es ep,h.get? a=some o /\ o.ExactDict /\ o.data=.dict es ep /\ es.toList=xs.map (entryOfKey (tupleKind (bW P w))) /\ (xs.map (·.1)).Nodup
 | .set S n=>h.SetOf (intKind P w) a S n
 | .ins C dx fs=>H dx=some (.own a) /\ fs.length <= 1000 /\ dx ≠ a /\ h.get? a=some (PySem.W.instObj C dx) /\
   ∃ mA,h.Ns1 dx mA /\ (∀ f,kM (fs.lookup f) (mA f)) /\ PySem.Within mA (fs.map (·.1))
 | .own _=>∃ o,h.get? a=some o
 | .xd fs=>∃ mA,h.Ns1 a mA /\ ∀ f,kM (fs.lookup f) (mA f)
 | .Wx lo hi=>∃ t u v,h.get? a=some { cls:=.type "range", data:=.fields #[.int lo t,.int hi u,.int 1 v] }
 | .uZ o u=>h.get? a=some o /\ cG H h a u
 | .mR ps=>h.get? a=some { cls:=.none,data:=.fields ps }
 | .met f x=>h.get? a=some (PySem.W.methodObj (.ref f) (.ref x))
 | .ext φ=>φ h /\ (∃ o,h.get? a=some o) /\ ∀ h1 h2:Heap,φ h1->(∀ o,h1.get? a=some o->h2.get? a=some o)->φ h2
def jz(H:Hp)(h:Heap):Prop:=∀ a o,H a=some o->cG P w H h a o
end
section
variable {P:Program}{w:World}{H H':Hp}{h h':Heap}{a:Addr}{o:HO}
theorem cG.lt(x:cG P w H h a o):a < h.objs.size:=by
 cases o with
 | lst xs=>obtain ⟨_,_,_,_,e⟩:=x; exact aF e
 | tup xs=>obtain ⟨_,_,_,p⟩:=x; exact p.lt
 | dK kvs=>obtain ⟨_,_,_,_,o,_,_,e,_⟩:=x; exact aF e
 | dT kvs=>obtain ⟨_,_,_,_,o,_,_,e,_⟩:=x; exact aF e
 | set S n=>obtain ⟨o,_,_,_,e,_⟩:=x; exact aF e
 | ins C dx fs=>obtain ⟨_,_,_,e,_⟩:=x; exact aF e
 | own y=>obtain ⟨_,e⟩:=x; exact aF e
 | xd fs=>obtain ⟨_,⟨_,_,_,e,_⟩,_⟩:=x; exact aF e
 | Wx lo hi=>obtain ⟨_,_,_,e⟩:=x; exact aF e
 | uZ ob u=>obtain ⟨e,_⟩:=x; exact aF e
 | mR ps=>exact aF (show h.get? a=some _ from x)
 | met f y=>exact aF (show h.get? a=some _ from x)
 | ext φ=>obtain ⟨_,⟨_,e⟩,_⟩:=x; exact aF e
theorem Paired.BY{α β:Type}{F G:α->β->Prop}:∀ {l₁:List α} {l₂:List β},Paired F l₁ l₂->(∀ a b,F a b->G a b)->Paired G l₁ l₂
 | _,_,.nil,_=>.nil
 | _,_,.cons r t,f=>.cons (f _ _ r) (Paired.BY t f)
theorem cG.stay(x:cG P w H h a o)(k:∀ b u,(b=a \/ H b=some (.own a))->h.get? b=some u->h'.get? b=some u)
  (ho:∀ b,H b=some (.own a)->H' b=some (.own a))(ht:∀ b xs,H b=some (.tup xs)->H' b=some (.tup xs)):cG P w H' h' a o:=by
 induction o with
 | lst xs=>obtain ⟨z,its,n,r,e⟩:=x; exact ⟨z,its,n,r,k _ _ (.inl rfl) e⟩
 | tup xs=>obtain ⟨z,its,r,ob,e,c⟩:=x; exact ⟨z,its,r,ob,k _ _ (.inl rfl) e,c⟩
 | dK kvs=>obtain ⟨z,y,vs,r,ob,es,ep,e,c⟩:=x; exact ⟨z,y,vs,r,ob,es,ep,k _ _ (.inl rfl) e,c⟩
 | dT kvs =>
  obtain ⟨z,y,xs,r,ob,es,ep,e,c⟩:=x
  exact ⟨z,y,xs,Paired.BY r λ p q z=>⟨z.1,ht _ _ z.2.1,z.2.2⟩,ob,es,ep,k _ _ (.inl rfl) e,c⟩
 | set S n=>obtain ⟨ob,es,ep,t,e,c⟩:=x; exact ⟨ob,es,ep,t,k _ _ (.inl rfl) e,c⟩
 | ins C dx fs =>
  obtain ⟨d,z,ne,e,mA,⟨od,es,ep,e2,c⟩,r⟩:=x
  exact ⟨ho _ d,z,ne,k _ _ (.inl rfl) e,mA,⟨od,es,ep,k _ _ (.inr d) e2,c⟩,r⟩
 | own y=>obtain ⟨ob,e⟩:=x; exact ⟨ob,k _ _ (.inl rfl) e⟩
 | xd fs=>obtain ⟨mA,⟨od,es,ep,e,c⟩,r⟩:=x; exact ⟨mA,⟨od,es,ep,k _ _ (.inl rfl) e,c⟩,r⟩
 | Wx lo hi=>obtain ⟨t,u,v,e⟩:=x; exact ⟨t,u,v,k _ _ (.inl rfl) e⟩
 | uZ ob u ih=>obtain ⟨e,q⟩:=x; exact ⟨k _ _ (.inl rfl) e,ih q⟩
 | mR ps =>
  have e:h.get? a=some { cls:=.none,data:=.fields ps }:=x
  show h'.get? a=some { cls:=.none,data:=.fields ps }
  exact k a _ (.inl rfl) e
 | met f y =>
  have e:h.get? a=some (PySem.W.methodObj (.ref f) (.ref y)):=x
  show h'.get? a=some (PySem.W.methodObj (.ref f) (.ref y))
  exact k a _ (.inl rfl) e
 | ext φ=>obtain ⟨p,⟨o,e⟩,st⟩:=x; exact ⟨st _ _ p λ o q=>k _ _ (.inl rfl) q,⟨o,k _ _ (.inl rfl) e⟩,st⟩
theorem jz.lt(x:jz P w H h)(e:H a=some o):a < h.objs.size:=(x a o e).lt
theorem jz.fresh(x:jz P w H h)(e:h.objs.size <= a):H a=none:=by
 cases q:H a with
 | none=>rfl
 | some u=>exact absurd (cg (x.lt q) e) (dH _)
theorem jz.kept(x:jz P w H h)(k:∀ b u,h.get? b=some u->h'.get? b=some u):jz P w H h':=λ a o e =>
 (x a o e).stay (λ b u _ q=>k b u q) (λ _ q=>q) λ _ _ q=>q
theorem jz.laid(x:jz P w H h)(k:∀ b u,h.get? b=some u->h'.get? b=some u)(hp:h.objs.size <= a)(new:cG P w (upd H a o) h' a o):jz P w (upd H a o) h':=λ b u e=>by
 have hn:=x.fresh hp
 by_cases hb:b=a
 ·subst hb; rw [cS] at e; cases e; exact new
 ·rw [aZ hb] at e
  exact (x b u e).stay (λ c v _ q=>k c v q) (λ c q=>by rw [aZ (bx q hn)]; exact q) λ c xs q=>by rw [aZ (bx q hn)]; exact q
end
def Rd(H:Hp)(a:Addr)(u:HO):Prop:=H a=some u \/ ∃ o,H a=some (.uZ o u)
theorem Rd.of{u:HO}(h:H a=some u):Rd H a u:=.inl h
theorem Rd.ok{u:HO}(r:Rd H a u)(x:jz P w H h):cG P w H h a u:=by
 rcases r with r | ⟨o,r⟩
 ·exact x a u r
 ·obtain ⟨_,q⟩:=x a _ r
  exact q
def QJ:Option HO->Prop
 | some (.lst _)=>True
 | some (.dK _)=>True
 | some (.dT _)=>True
 | some (.set _ _)=>True
 | some (.ins _ _ _)=>True
 | some (.ext _)=>True
 | _=>False
section
variable {P:Program}{w:World}{H:Hp}{h h':Heap}{x e:Addr}{o':HO}
theorem jz.write(ok:jz P w H h)(mu:QJ (H x))(he:e=x \/ H e=some (.own x))(k:∀ b u,b ≠ e->h.get? b=some u->h'.get? b=some u)(Qp:∃ u,h'.get? e=some u)
  (new:cG P w (upd H x o') h' x o'):jz P w (upd H x o') h':=λ b u q=>by
 have QK:∀ c y,H c=some (.own y)->c ≠ x:=λ c y r z=>by subst z; rw [r] at mu; exact mu
 have Wy:∀ c xs,H c=some (.tup xs)->c ≠ x:=λ c xs r z=>by subst z; rw [r] at mu; exact mu
 by_cases hb:b=x
 ·subst hb; rw [cS] at q; cases q; exact new
 ·rw [aZ hb] at q
  by_cases MG:b=e
  ·have q':H b=some (.own x):=by
    rcases he with z | z
    ·exact absurd (MG.trans z) hb
    ·rw [MG]; exact z
   rw [q] at q'; cases q'
   obtain ⟨v,hv⟩:=Qp
   exact ⟨v,by rw [MG]; exact hv⟩
  ·refine (ok b u q).stay (λ c v hc r=>k c v ?_ r) (λ c r=>by rw [aZ (QK c b r)]; exact r) λ c xs r=>by rw [aZ (Wy c xs r)]; exact r
   rcases hc with rfl | hc
   ·exact MG
   ·rintro rfl
    rcases he with z | z
    ·exact QK c b hc z
    ·rw [hc] at z; cases z; exact hb rfl
end
structure Un (fs ex:List Addr) (H H':Hp) (h h':Heap):Prop where
 keep:∀ b o,h.get? b=some o->H b=none->b ∉ fs->b ∉ ex->h'.get? b=some o
 slot:∀ b o,h.get? b=some o->H b=none->b∈fs->b ∉ ex->∃ sl,h'.get? b=some { o with slots:=sl }
 free:∀ b o,h.get? b=some o->H b=none->b ∉ ex->H' b=none
 there:∀ b o,h.get? b=some o->b ∉ ex->∃ o',h'.get? b=some o'
 tups:∀ b xs,H b=some (.tup xs)->H' b=some (.tup xs)
 k7:∀ b o u,H b=some (.uZ o u)->H' b=some (.uZ o u)
 mZ:∀ b ps,H b=some (.mR ps)->∃ more,H' b=some (.mR (ps++more))
section
variable {fs fs' ex ex':List Addr}{H H1 H2:Hp}{h h1 h2 h':Heap}{a x e:Addr}{o:HO}
theorem Un.any(u:Un fs ex H H1 h h1){ob:Obj}(q:h.get? b=some ob)(n:H b=none)(hx:b ∉ ex):∃ sl,h1.get? b=some { ob with slots:=sl }:=by
 by_cases hb:b∈fs
 ·exact u.slot b ob q n hb hx
 ·exact ⟨ob.slots,u.keep b ob q n hb hx⟩
theorem Un.trans(a:Un fs ex H H1 h h1)(b:Un fs ex H1 H2 h1 h2):Un fs ex H H2 h h2 where
 keep:=λ c ob q n hc hx=>b.keep c ob (a.keep c ob q n hc hx) (a.free c ob q n hx) hc hx
 slot:=λ c ob q n hc hx=>by
  obtain ⟨sl,e1⟩:=a.slot c ob q n hc hx
  obtain ⟨DT,e2⟩:=b.slot c _ e1 (a.free c ob q n hx) hc hx
  exact ⟨DT,e2⟩
 free:=λ c ob q n hx=>by
  obtain ⟨o',e1⟩:=a.there c ob q hx
  exact b.free c o' e1 (a.free c ob q n hx) hx
 there:=λ c ob q hx=>by
  obtain ⟨o',e1⟩:=a.there c ob q hx
  exact b.there c o' e1 hx
 tups:=λ c xs q=>b.tups c xs (a.tups c xs q)
 k7:=λ c ob xs q=>b.k7 c ob xs (a.k7 c ob xs q)
 mZ:=λ c ps q=>by
  obtain ⟨m1,e1⟩:=a.mZ c ps q
  obtain ⟨m2,e2⟩:=b.mZ c _ e1
  exact ⟨m1++m2,by rw [e2,Array.append_assoc]⟩
theorem Un.kept(k:∀ b u,h.get? b=some u->h'.get? b=some u):Un fs ex H H h h' :=
 ⟨λ b ob q _ _ _=>k b ob q,λ b ob q _ _ _=>⟨ob.slots,k b ob q⟩,λ _ _ _ n _=>n,λ b ob q _=>⟨ob,k b ob q⟩,λ _ _ q=>q,λ _ _ _ q=>q,λ _ ps q=>⟨#[],by rw [q]; simp⟩⟩
theorem Un.refl:Un fs ex H H h h:=Un.kept λ _ _ q=>q
theorem Un.laid(k:∀ b u,h.get? b=some u->h'.get? b=some u)(hp:h.objs.size <= a)(hn:H a=none):Un fs ex H (upd H a o) h h' where
 keep:=λ b u q _ _ _=>k b u q
 slot:=λ b u q _ _ _=>⟨u.slots,k b u q⟩
 free:=λ b u q n _=>by rw [aZ (aT (cg (aF q) hp))]; exact n
 there:=λ b u q _=>⟨u,k b u q⟩
 tups:=λ b xs q=>by rw [aZ (bx q hn)]; exact q
 k7:=λ b u xs q=>by rw [aZ (bx q hn)]; exact q
 mZ:=λ b ps q=>⟨#[],by rw [aZ (bx q hn),q]; simp⟩
theorem Un.write(mu:QJ (H x))(he:e=x \/ H e=some (.own x))(k:∀ b u,b ≠ e->h.get? b=some u->h'.get? b=some u)(Qp:∃ u,h'.get? e=some u):Un fs ex H (upd H x o) h h':=by
 have hx:∀ b,H b=none->b ≠ x:=λ b n z=>by subst z; rw [n] at mu; exact mu
 have hb:∀ b,H b=none->b ≠ e:=λ b n z=>by
  subst z
  rcases he with r | r
  ·exact hx b n r
  ·rw [n] at r; cases r
 have hm:∀ b u,H b=some u->¬ QJ (some u)->b ≠ x:=λ b u q nm z=>by subst z; rw [q] at mu; exact nm mu
 refine ⟨λ b u q n _ _=>k b u (hb b n) q,λ b u q n _ _=>⟨u.slots,k b u (hb b n) q⟩,λ b u q n _=>by rw [aZ (hx b n)]; exact n,λ b u q _=>?_,
  λ b xs q=>by rw [aZ (hm b _ q λ z=>z)]; exact q,λ b u xs q=>by rw [aZ (hm b _ q λ z=>z)]; exact q,λ b ps q=>⟨#[],by rw [aZ (hm b _ q λ z=>z),q]; simp⟩⟩
 by_cases MG:b=e
 ·subst MG; exact Qp
 ·exact ⟨u,k b u MG q⟩
theorem Un.mono(u:Un fs ex H H1 h h1)(hs:∀ b∈fs,b∈fs')(hx:∀ b∈ex,b∈ex'):Un fs' ex' H H1 h h1 :=
 ⟨λ b ob q n hb he=>u.keep b ob q n (λ z=>hb (hs b z)) λ z=>he (hx b z),λ _ _ q n _ he=>u.any q n λ z=>he (hx _ z),λ b ob q n he=>u.free b ob q n λ z=>he (hx b z),λ b ob q he=>u.there b ob q λ z=>he (hx b z),u.tups,u.k7,u.mZ⟩
end
def Vc(h:Heap)(H:Hp):List Addr:=(List.range h.objs.size).filter λ a=>(H a).isSome
def m8(h:Heap)(H:Hp):Heap:=PySem.W.hideAll h (Vc h H)
theorem r9(h:Heap)(H:Hp):(m8 h H).objs.size=h.objs.size:=PySem.W.hideAll_size _ _
theorem k9{o:Obj}(e:h.get? b=some o)(n:H b=none):(m8 h H).get? b=some o :=
 PySem.W.hideAll_get _ e λ hm=>by
  have q:(H b).isSome=true:=(dS.mp hm).2
  rw [n] at q; simp at q
theorem Ai{o:Obj}(e:(m8 h H).get? b=some o):h.get? b=some o /\ H b=none:=by
 have e':h.get? b=some o:=PySem.W.of_hideAll (Vc h H) e
 refine ⟨e',?_⟩
 cases q:H b with
 | none=>rfl
 | some x =>
  have hm:b∈Vc h H:=dS.mpr ⟨fE.mpr (aF e'),by simp [q]⟩
  have z:(m8 h H).get? b=none:=PySem.W.hideAll_none (Vc h H) hm
  rw [z] at e; cases e
def Iu(g h:Heap)(L:Addr):List (Addr × Obj):=(List.range h.objs.size).filterMap λ a=>if a=L \/ (g.get? a).isSome=true then none else (h.get? a).map λ o=>(a,o)
def rest(g h:Heap)(L d:Addr):List (Addr × Obj):=(Iu g h L).filter λ p=>decide (p.1 ≠ d)
structure Mod (K:aA) (mg:Str->Option Value) (base:Heap):Prop where
 Qq:K.In base
 glob:base.Ns mainGlobals mg
 blt:∃ mb,base.Ns builtinsNs mb /\ ∀ x:Str,x ≠ "__name__" -> mb x=bootBuiltins x
 nolimit:base.NoLimit
structure Cx where
 prog:Program
 w:World
 K:aA
 mg:Str->Option Value
 base:Heap
 A:Around
 N:List Str
 s₀:Shared
 H₀:Hp
 env:Env
 outer:List Env
 stack:List Env
 ex:List Addr
 fn:Str->Bool
 calm:Bool
 pn:List (Addr × Obj)
 xe:Value->Shared->Prop
def frs(l:List Env):List Addr:=l.filterMap (·.frame)
abbrev Cx.fs(X:Cx):List Addr:=frs X.outer
def Wz(sc:Scope)(x:Str):Prop:=sc.names.lookup x=some .local \/ sc.names.lookup x=some .cell \/ sc.names.lookup x=some .free
def Loc(sc:Scope)(x:Str):Prop:=sc.names.lookup x=some .local \/ sc.names.lookup x=some .cell
def Look(env:Env)(h:Heap)(m:Str->Option Value)(x:Str)(u:Value):Prop :=
 (env.kindOf x=some .local /\ m x=some u) \/ ((env.kindOf x=some .cell \/ env.kindOf x=some .free) /\ ∃ c,env.cells.lookup x=some c /\ h.IsCell c (some u))
structure Cx.Ok (X:Cx):Prop where
 mod:Mod X.K X.mg X.base
 kind:X.env.scope.kind=.function
 glob:X.env.globals=mainGlobals
 blt:X.env.builtins=builtinsNs
 above:X.s₀.heap.objs.size <= X.env.locals
 inj:∀ x y c,X.env.cells.lookup x=some c->X.env.cells.lookup y=some c->x=y
 has:∀ x,(X.env.kindOf x=some .cell \/ X.env.kindOf x=some .free)->∃ c,X.env.cells.lookup x=some c
 QL:∀ x c,X.fn x=true->X.env.cells.lookup x=some c->X.s₀.heap.objs.size <= c
 hd:X.calm=true->X.A.handled=none
 frames:X.A.frames=some X.stack
 stk:X.stack=X.outer \/ (X.stack=X.env :: X.outer /\ X.env.frame=some X.env.locals)
 ZQ:∀ b∈X.ex,b ≠ X.env.locals /\ ∀ x c,X.env.cells.lookup x=some c->c ≠ b
 bs:∀ b o,X.base.get? b=some o->X.s₀.heap.get? b=some o /\ X.H₀ b=none
 DU:X.base.objs.size <= X.s₀.heap.objs.size
 BZ:∀ b o,X.base.get? b=some o->b ∉ X.ex
 B0:∀ b∈X.ex,b ∉ X.fs
 m9:X.s₀.heap.FunFrames X.base X.outer
 K9:∀ b∈X.fs,X.H₀ b=none
structure Inv (X:Cx) (pins:List (Addr × Obj)) (σ:List (Option V)) (H:Hp) (s:Shared):Prop where
 ok:X.Ok
 os:s.os=X.s₀.os
 bare:AllBare s.gens
 base:Un X.fs X.ex X.H₀ H X.s₀.heap s.heap
 loc:∃ m,s.heap.Ns X.env.locals m /\ ∀ (i:Nat) (x:Str) (v:V),X.N[i]? = some x->σ[i]? = some (some v)->Wz X.env.scope x->∃ u,RelV v u /\ Look X.env s.heap m x u
 cell:∀ x c,X.env.cells.lookup x=some c->∃ v,s.heap.IsCell c v
 free:H X.env.locals=none
 gM:∀ x c,X.env.cells.lookup x=some c->H c=none
 pin:∀ p∈X.pn++pins,s.heap.get? p.1=some p.2 /\ H p.1=none /\ p.1 ≠ X.env.locals /\ p.1 ∉ X.fs /\ ∀ v,p.2.data ≠ .cell v
 hok:jz X.prog X.w H s.heap
 len:σ.length=X.N.length
section
variable {X:Cx}{pins:List (Addr × Obj)}{σ:List (Option V)}{H H':Hp}{s:Shared}{h':Heap}
theorem Cx.Ok.WA(ok:X.Ok){o:Obj}(e:X.base.get? b=some o):b ∉ X.fs:=λ hb=>by
 have:=(ok.m9.mem hb).1
 rw [e] at this; cases this
theorem Inv.bs(I:Inv X pins σ H s):∀ b o,X.base.get? b=some o->s.heap.get? b=some o /\ H b=none:=λ b o e =>
 ⟨I.base.keep b o (I.ok.bs b o e).1 (I.ok.bs b o e).2 (I.ok.WA e) (I.ok.BZ b o e),I.base.free b o (I.ok.bs b o e).1 (I.ok.bs b o e).2 (I.ok.BZ b o e)⟩
theorem Inv.bk(I:Inv X pins σ H s):∀ b o,X.base.get? b=some o->s.heap.get? b=some o:=λ b o e=>(I.bs b o e).1
theorem Inv.mod(I:Inv X pins σ H s):Mod X.K X.mg X.base:=I.ok.mod
theorem Inv.tS(I:Inv X pins σ H s):X.K.In s.heap:=I.ok.mod.Qq.keeps I.bk
theorem Inv.nolimit(I:Inv X pins σ H s):s.heap.NoLimit:=I.ok.mod.nolimit.keeps I.bk
theorem Inv.fr(I:Inv X pins σ H s):∃ m,Fr X.base X.env.locals s.heap m :=
 let ⟨m,hn,_⟩:=I.loc
 ⟨m,hn,I.bk,bE I.ok.DU I.ok.above⟩
theorem Inv.lt(I:Inv X pins σ H s):X.env.locals < s.heap.objs.size:=let ⟨_,hn,_⟩:=I.loc; hn.lt
theorem Inv.sz(I:Inv X pins σ H s):X.s₀.heap.objs.size <= s.heap.objs.size:=bE I.ok.above (gK I.lt)
theorem Inv.MH(I:Inv X pins σ H s)(h:s.heap.objs.size <= a):a ∉ X.fs:=λ hb=>by
 obtain ⟨_,o,ho,_⟩:=I.ok.m9.mem hb
 exact absurd (cg (aF ho) (bE I.sz h)) (dH _)
theorem Inv.MI(I:Inv X pins σ H s):∀ x c,X.env.cells.lookup x=some c->c ≠ X.env.locals:=λ x c e z=>by
 obtain ⟨v,o,ho,hd⟩:=I.cell x c e
 obtain ⟨m,⟨o',es,ep,ho',hd',_⟩,_⟩:=I.loc
 rw [z,ho'] at ho; cases ho; rw [hd'] at hd; cases hd
theorem Inv.m9(I:Inv X pins σ H s):s.heap.FunFrames X.base X.outer:=by
 have all:∀ (l:List Env),(∀ b∈frs l,b∈X.fs)->X.s₀.heap.FunFrames X.base l->s.heap.FunFrames X.base l:=by
  intro l
  induction l with
  | nil=>intro _ _; trivial
  | cons env r ih =>
   intro hs hl
   obtain ⟨hk,⟨L,o,hf,hn,ho,hd⟩,hr⟩:=hl
   have hL:L∈X.fs:=hs L (by unfold frs; rw [List.filterMap_cons,hf]; exact gI)
   obtain ⟨sl,e⟩:=I.base.slot L o ho (I.ok.K9 L hL) hL λ z=>I.ok.B0 L z hL
   exact ⟨hk,⟨L,_,hf,hn,e,hd⟩,ih (λ b hb=>hs b (by unfold frs; rw [List.filterMap_cons,hf]; exact cV _ hb)) hr⟩
 exact all X.outer (λ _ hb=>hb) I.ok.m9
theorem Inv.stack(I:Inv X pins σ H s):s.heap.FunFrames X.base X.stack:=by
 rcases I.ok.stk with e | ⟨e,hf⟩
 ·rw [e]; exact I.m9
 ·rw [e]
  obtain ⟨m,hn,_⟩:=I.loc
  refine .cons (by rw [I.ok.kind]; decide) hf hn ?_ I.m9
  exact Heap.get?_none_of_le (bE I.ok.DU I.ok.above)
theorem Inv.pU(I:Inv X pins σ H s):∀ b∈frs X.stack,b∈X.env.locals :: X.fs:=λ b hb=>by
 rcases I.ok.stk with e | ⟨e,hf⟩
 ·rw [e] at hb; exact cV _ hb
 ·rw [e] at hb
  unfold frs at hb
  rw [List.filterMap_cons,hf] at hb
  exact hb
theorem Inv.oK(I:Inv X pins σ H s):∀ b∈frs X.stack,H b=none:=λ b hb=>by
 rcases aJ.mp (I.pU b hb) with e | hb
 ·rw [e]; exact I.free
 ·obtain ⟨_,o,ho,_⟩:=I.ok.m9.mem hb
  exact I.base.free b o ho (I.ok.K9 b hb) λ z=>I.ok.B0 b z hb
theorem Inv.step{g':Array GenState}{d':Drawn}(I:Inv X pins σ H s)
  (hch:∀ b∈ch,(b∈X.ex \/ X.s₀.heap.objs.size <= b) /\ b ≠ X.env.locals /\ (∀ x c,X.env.cells.lookup x=some c->c ≠ b) /\ ∀ p∈X.pn++pins,p.1 ≠ b)
  (keep:∀ b o,b ≠ X.env.locals->b ∉ X.fs->b ∉ ch->s.heap.get? b=some o->H b=none->h'.get? b=some o)
  (slot:∀ b o,b ≠ X.env.locals->b∈X.fs->b ∉ ch->s.heap.get? b=some o->H b=none->∃ sl,h'.get? b=some { o with slots:=sl })(free:∀ b o,b ∉ ch->s.heap.get? b=some o->H b=none->H' b=none)
  (there:∀ b o,b ∉ ch->s.heap.get? b=some o->∃ o',h'.get? b=some o')
  (tups:∀ b xs,H b=some (.tup xs)->H' b=some (.tup xs))(k7:∀ b o u,H b=some (.uZ o u)->H' b=some (.uZ o u))(mZ:∀ b ps,H b=some (.mR ps)->∃ more,H' b=some (.mR (ps++more)))
  (ns:∀ m,s.heap.Ns X.env.locals m->h'.Ns X.env.locals m)(hok:jz X.prog X.w H' h')(hg:AllBare g'):
  Inv X pins σ H' { s with heap:=h',gens:=g',drawn:=d',toks:=t' }:=by
 have ZR:∀ b o,X.s₀.heap.get? b=some o->b ≠ X.env.locals:=λ b o e=>aT (cg (aF e) I.ok.above)
 have Vd:∀ b o,X.s₀.heap.get? b=some o->b ∉ X.ex->b ∉ ch:=λ b o e hx hb=>by
  rcases (hch b hb).1 with z | z
  ·exact hx z
  ·exact absurd (cg (aF e) z) (dH _)
 have cellK:∀ x c,X.env.cells.lookup x=some c->∀ v,s.heap.IsCell c v->h'.IsCell c v:=λ x c e v ⟨o,ho,hd⟩=>by
  have QM:c ∉ ch:=λ z=>(hch c z).2.2.1 x c e rfl
  by_cases hc:c∈X.fs
  ·obtain ⟨sl,q⟩:=slot c o (I.MI x c e) hc QM ho (I.gM x c e)
   exact ⟨_,q,hd⟩
  ·exact ⟨o,keep c o (I.MI x c e) hc QM ho (I.gM x c e),hd⟩
 refine ⟨I.ok,I.os,hg,⟨λ b o e n hb hx=>?_,λ b o e n hb hx=>?_,λ b o e n hx=>?_,λ b o e hx=>?_,λ b xs e=>tups b xs (I.base.tups b xs e),λ b o xs e=>k7 b o xs (I.base.k7 b o xs e),λ b ps e=>?_⟩,?_,λ x c e=>?_,?_,λ x c e=>?_,λ p hp=>?_,hok,I.len⟩
 ·exact keep b o (ZR b o e) hb (Vd b o e hx) (I.base.keep b o e n hb hx) (I.base.free b o e n hx)
 ·obtain ⟨sl,e1⟩:=I.base.slot b o e n hb hx
  obtain ⟨DT,e2⟩:=slot b _ (ZR b o e) hb (Vd b o e hx) e1 (I.base.free b o e n hx)
  exact ⟨DT,e2⟩
 ·obtain ⟨o',e1⟩:=I.base.there b o e hx
  exact free b o' (Vd b o e hx) e1 (I.base.free b o e n hx)
 ·obtain ⟨o',e1⟩:=I.base.there b o e hx
  exact there b o' (Vd b o e hx) e1
 ·obtain ⟨m1,e1⟩:=I.base.mZ b ps e
  obtain ⟨m2,e2⟩:=mZ b _ e1
  exact ⟨m1++m2,by rw [e2,Array.append_assoc]⟩
 ·obtain ⟨m,hn,hl⟩:=I.loc
  refine ⟨m,ns m hn,λ i x v e1 e2 e3=>?_⟩
  obtain ⟨u,r,l⟩:=hl i x v e1 e2 e3
  refine ⟨u,r,?_⟩
  rcases l with l | ⟨k,c,e,z⟩
  ·exact .inl l
  ·exact .inr ⟨k,c,e,cellK x c e _ z⟩
 ·obtain ⟨v,z⟩:=I.cell x c e
  exact ⟨v,cellK x c e v z⟩
 ·obtain ⟨m,⟨o,_,_,ho,_⟩,_⟩:=I.loc
  exact free _ o (λ z=>(hch _ z).2.1 rfl) ho I.free
 ·obtain ⟨v,o,ho,hd⟩:=I.cell x c e
  exact free c o (λ z=>(hch c z).2.2.1 x c e rfl) ho (I.gM x c e)
 ·obtain ⟨e,n,ne,nf,d⟩:=I.pin p hp
  have QM:p.1 ∉ ch:=λ z=>(hch p.1 z).2.2.2 p hp rfl
  exact ⟨keep p.1 p.2 ne nf QM e n,free p.1 p.2 QM e n,ne,nf,d⟩
theorem Inv.un(I:Inv X pins σ H s)(u:Un X.fs [] H H' s.heap h')(hok:jz X.prog X.w H' h'):Inv X pins σ H' { s with heap:=h',toks:=t' }:=by
 obtain ⟨m,⟨o,es,ep,ho,r⟩,_⟩:=id I.loc
 obtain ⟨sl,hL⟩:=u.any ho I.free (by simp)
 exact I.step (g':=s.gens) (d':=s.drawn) (ch:=[]) (λ _ z=>nomatch z) (λ b o _ hb _ e n=>u.keep b o e n hb (by simp)) (λ b o _ hb _ e n=>u.slot b o e n hb (by simp)) (λ b o _ e n=>u.free b o e n (by simp)) (λ b o _ e=>u.there b o e (by simp)) u.tups u.k7 u.mZ (λ m' hm=>by
  obtain ⟨o',es',nV,ho',r'⟩:=hm
  rw [ho] at ho'; cases ho'
  exact ⟨_,es',nV,hL,r'⟩) hok I.bare
theorem Inv.call{g':Array GenState}{d':Drawn}(I:Inv X pins σ H s)(u:Un (frs X.stack) ch H H' s.heap h')(hok:jz X.prog X.w H' h')(hg:AllBare g')
  (hch:∀ b∈ch,(b∈X.ex \/ X.s₀.heap.objs.size <= b) /\ b ≠ X.env.locals /\ (∀ x c,X.env.cells.lookup x=some c->c ≠ b) /\ ∀ p∈X.pn++pins,p.1 ≠ b):
  Inv X pins σ H' { s with heap:=h',gens:=g',drawn:=d',toks:=t' }:=by
 obtain ⟨m,⟨o,es,ep,ho,r⟩,_⟩:=id I.loc
 obtain ⟨sl,hL⟩:=u.any ho I.free λ z=>(hch _ z).2.1 rfl
 exact I.step (ch:=ch) hch (λ b o hL hb hc e n=>u.keep b o e n (λ z=>(aJ.mp (I.pU b z)).elim hL hb) hc) (λ b o _ _ hc e n=>u.any e n hc) (λ b o hc e n=>u.free b o e n hc) (λ b o hc e=>u.there b o e hc) u.tups u.k7 u.mZ (λ m' hm=>by
  obtain ⟨o',es',nV,ho',r'⟩:=hm
  rw [ho] at ho'; cases ho'
  exact ⟨_,es',nV,hL,r'⟩) hok hg
theorem Inv.turned{it:Addr}(I:Inv X pins σ H s)(k:∀ b o,b ≠ it->s.heap.get? b=some o->h'.get? b=some o)(hn:H it=none)(hL:it ≠ X.env.locals)
  (h1:it∈X.ex \/ X.s₀.heap.objs.size <= it)(h2:∀ x c,X.env.cells.lookup x=some c->c ≠ it)(h3:∀ p∈X.pn++pins,p.1 ≠ it):Inv X pins σ H { s with heap:=h',toks:=t' }:=by
 have QN:∀ b u,H b=some u->b ≠ it:=λ b u e z=>by rw [z,hn] at e; cases e
 refine I.step (g':=s.gens) (d':=s.drawn) (ch:=[it]) (λ b hb=>?_) (λ b o _ _ hc e _=>k b o (λ z=>hc (by simp [z])) e) (λ b o _ _ hc e _=>⟨o.slots,k b o (λ z=>hc (by simp [z])) e⟩) (λ _ _ _ _ n=>n)
  (λ b o hc e=>⟨o,k b o (λ z=>hc (by simp [z])) e⟩) (λ _ _ e=>e) (λ _ _ _ e=>e) (λ b ps e=>⟨#[],by rw [e]; simp⟩) (λ m hm=>?_) (λ b u e=>?_) I.bare
 ·have e:b=it:=by simpa using hb
  subst e
  exact ⟨h1,hL,h2,h3⟩
 ·obtain ⟨o,es,ep,ho,r⟩:=hm
  exact ⟨o,es,ep,k _ o (bF hL) ho,r⟩
 ·refine (I.hok b u e).stay (λ c v hc q=>k c v ?_ q) (λ _ q=>q) λ _ _ q=>q
  rcases hc with z | z
  ·rw [z]; exact QN b u e
  ·exact QN c _ z
theorem Inv.tok(I:Inv X pins σ H s)(t:Nat):Inv X pins σ H { s with toks:=t }:=I.un (h':=s.heap) (t':=t) Un.refl I.hok
theorem Inv.kept(I:Inv X pins σ H s)(k:∀ b u,s.heap.get? b=some u->h'.get? b=some u):Inv X pins σ H { s with heap:=h',toks:=t' }:=I.un (Un.kept k) (I.hok.kept k)
theorem Inv.laid(I:Inv X pins σ H s)(k:∀ b u,s.heap.get? b=some u->h'.get? b=some u)(hp:s.heap.objs.size <= a)(new:cG X.prog X.w (upd H a o) h' a o):
  Inv X pins σ (upd H a o) { s with heap:=h',toks:=t' }:=I.un (Un.laid k hp (I.hok.fresh hp)) (I.hok.laid k hp new)
theorem Inv.write{x e:Addr}(I:Inv X pins σ H s)(mu:QJ (H x))(he:e=x \/ H e=some (.own x))(k:∀ b u,b ≠ e->s.heap.get? b=some u->h'.get? b=some u)(Qp:∃ u,h'.get? e=some u)
  (new:cG X.prog X.w (upd H x o) h' x o):Inv X pins σ (upd H x o) { s with heap:=h',toks:=t' }:=I.un (Un.write mu he k Qp) (I.hok.write mu he k Qp new)
theorem Inv.jW{D5:List (Addr × Obj)}(I:Inv X pins σ H s)(h:∀ p∈D5,s.heap.get? p.1=some p.2 /\ H p.1=none /\ p.1 ≠ X.env.locals /\ p.1 ∉ X.fs /\ ∀ v,p.2.data ≠ .cell v):Inv X D5 σ H s :=
 ⟨I.ok,I.os,I.bare,I.base,I.loc,I.cell,I.free,I.gM,λ p hp=>(aO.mp hp).elim (λ z=>I.pin p (iK _ z)) (h p),I.hok,I.len⟩
theorem vc(hN:N.Nodup){j:Nat}(a:N[i]? = some x)(b:N[j]? = some x):i=j:=by
 obtain ⟨h1,e1⟩:=fu a
 obtain ⟨h2,e2⟩:=fu b
 exact (pP hN).mp (e1.trans e2.symm)
theorem nh(I:Inv X pins σ H s)(hN:X.N.Nodup)(hi:X.N[i]? = some x)(hx:Loc X.env.scope x)(r:RelV v u)
  (h:∀ s',Inv X pins (σ.set i (some v)) H s'->(∃ a,Heap.SameBut a s.heap s'.heap /\ (a=X.env.locals \/ X.env.cells.lookup x=some a))->Q () s')(hf:X.fn x=true \/ X.env.scope.names.lookup x=some .local:=by first | exact .inl rfl | exact .inr rfl | assumption):wpAny M A (storeName X.env x u) Q E s:=by
 obtain ⟨m,hn,hl⟩:=id I.loc
 have hcls:(X.env.scope.kind == .class || (X.env.scope.kind == .module && X.env.locals != X.env.globals))=false:=by rw [I.ok.kind]; rfl
 have ZS:i < σ.length:=by rw [I.len]; exact (fu hi).1
 have MI:=I.MI
 have tracked:∀ {a:Addr} {h':Heap},(∃ o,s.heap.get? a=some o /\ H a=none)->Heap.SameBut a s.heap h'->jz X.prog X.w H h':=λ {a h'} ha hs b ob e=>by
  obtain ⟨_,_,hfree⟩:=ha
  refine (I.hok b ob e).stay (λ c w' hc q=>(hs.2 c ?_).trans q) (λ _ q=>q) λ _ _ q=>q
  rintro rfl
  rcases hc with rfl | hc
  ·rw [hfree] at e; cases e
  ·rw [hfree] at hc; cases hc
 rcases hx with hk | hk
 ·refine wpAny_storeName_local hk hn (λ h' hn' hs=>?_) hcls
  obtain ⟨oL,_,_,hoL,_⟩:=id hn
  refine h _ ⟨I.ok,I.os,I.bare,⟨λ b o e n hb hx=>?_,λ b o e n hb hx=>?_,I.base.free,λ b o e hx=>?_,I.base.tups,I.base.k7,I.base.mZ⟩,⟨_,hn',λ j y v' e1 e2 e3=>?_⟩,λ y c e=>?_,I.free,I.gM,λ p hp=>?_,tracked ⟨oL,hoL,I.free⟩ hs,by simpa using I.len⟩ ⟨_,hs,.inl rfl⟩
  ·exact (hs.2 b (aT (cg (aF e) I.ok.above))).trans (I.base.keep b o e n hb hx)
  ·obtain ⟨sl,e1⟩:=I.base.slot b o e n hb hx
   exact ⟨sl,(hs.2 b (aT (cg (aF e) I.ok.above))).trans e1⟩
  ·obtain ⟨o',e1⟩:=I.base.there b o e hx
   exact ⟨o',(hs.2 b (aT (cg (aF e) I.ok.above))).trans e1⟩
  ·by_cases hj:j=i
   ·subst hj
    rw [hi] at e1; cases e1
    rw [List.getElem?_set_self ZS] at e2
    cases e2
    exact ⟨u,r,.inl ⟨hk,by simp⟩⟩
   ·rw [List.getElem?_set_ne (bF hj)] at e2
    obtain ⟨u',r',q⟩:=hl j y v' e1 e2 e3
    refine ⟨u',r',?_⟩
    rcases q with ⟨k,e⟩ | ⟨k,c,e,z⟩
    ·refine .inl ⟨k,?_⟩
     have:y ≠ x:=λ e=>hj (vc hN e1 (e ▸ hi))
     simp [this,e]
    ·exact .inr ⟨k,c,e,z.sameBut hs (MI y c e)⟩
  ·obtain ⟨w',z⟩:=I.cell y c e
   exact ⟨w',z.sameBut hs (MI y c e)⟩
  ·obtain ⟨e,n,ne,nf,d⟩:=I.pin p hp
   exact ⟨(hs.2 p.1 ne).trans e,n,ne,nf,d⟩
 ·have hfn:X.fn x=true:=by
   rcases hf with z | z
   ·exact z
   ·rw [z] at hk; cases hk
  obtain ⟨c,hc⟩:=I.ok.has x (.inl hk)
  obtain ⟨w',z⟩:=I.cell x c hc
  refine wpAny_storeName_cell I.ok.kind hk hc z (λ h' hc' hs=>?_)
  obtain ⟨oc,hoc,WB⟩:=id z
  refine h { s with heap:=h' } ⟨I.ok,I.os,I.bare,⟨λ b o e n hb hx=>?_,λ b o e n hb hx=>?_,I.base.free,λ b o e hx=>?_,I.base.tups,I.base.k7,I.base.mZ⟩,⟨m,hn.sameBut hs (bF (MI x c hc)),λ j y v' e1 e2 e3=>?_⟩,λ y c' e=>?_,I.free,I.gM,λ p hp=>?_,tracked ⟨oc,hoc,I.gM x c hc⟩ hs,by simpa using I.len⟩ ⟨c,hs,.inr hc⟩
  ·exact (hs.2 b (aT (cg (aF e) (I.ok.QL x c hfn hc)))).trans (I.base.keep b o e n hb hx)
  ·obtain ⟨sl,e1⟩:=I.base.slot b o e n hb hx
   exact ⟨sl,(hs.2 b (aT (cg (aF e) (I.ok.QL x c hfn hc)))).trans e1⟩
  ·obtain ⟨o',e1⟩:=I.base.there b o e hx
   exact ⟨o',(hs.2 b (aT (cg (aF e) (I.ok.QL x c hfn hc)))).trans e1⟩
  ·by_cases hj:j=i
   ·subst hj
    rw [hi] at e1; cases e1
    rw [List.getElem?_set_self ZS] at e2
    cases e2
    exact ⟨u,r,.inr ⟨.inl hk,c,hc,hc'⟩⟩
   ·rw [List.getElem?_set_ne (bF hj)] at e2
    obtain ⟨u',r',q⟩:=hl j y v' e1 e2 e3
    refine ⟨u',r',?_⟩
    rcases q with q | ⟨k,c',e,z'⟩
    ·exact .inl q
    ·refine .inr ⟨k,c',e,z'.sameBut hs ?_⟩
     rintro rfl
     exact hj (vc hN e1 (I.ok.inj _ _ _ e hc ▸ hi))
  ·by_cases hcc:c'=c
   ·subst hcc; exact ⟨_,hc'⟩
   ·obtain ⟨w2,z2⟩:=I.cell y c' e
    exact ⟨w2,z2.sameBut hs hcc⟩
  ·obtain ⟨e,n,ne,nf,d⟩:=I.pin p hp
   refine ⟨(hs.2 p.1 ?_).trans e,n,ne,nf,d⟩
   intro q
   rw [q,hoc] at e
   have q':oc=p.2:=Option.some.inj e
   exact d w' (by rw [<- q']; exact WB)
theorem pV(I:Inv X pins σ H s)(hN:X.N.Nodup)(hi:X.N[i]? = some x)(hx:Loc X.env.scope x)(r:RelV v u)
  (h:∀ s',Inv X pins (σ.set i (some v)) H s'->Q () s')(hf:X.fn x=true \/ X.env.scope.names.lookup x=some .local:=by first | exact .inl rfl | exact .inr rfl | assumption):wpAny M A (storeName X.env x u) Q E s :=
 nh I hN hi hx r (λ s' I' _=>h s' I') hf
theorem Inv.D6{s':Shared}(I:Inv X pins σ H s)(ho:s'.os=s.os)(u:Un (frs X.stack) ch H H' s.heap s'.heap)(hok:jz X.prog X.w H' s'.heap)(hg:AllBare s'.gens)
  (hch:∀ b∈ch,(b∈X.ex \/ X.s₀.heap.objs.size <= b) /\ b ≠ X.env.locals /\ (∀ x c,X.env.cells.lookup x=some c->c ≠ b) /\ ∀ p∈X.pn++pins,p.1 ≠ b):Inv X pins σ H' s':=by
 obtain ⟨h',g',d',t',o'⟩:=s'
 have e:o'=s.os:=ho
 subst e
 exact I.call (g':=g') (t':=t') (d':=d') u hok hg hch
end
abbrev XK:=Value->Option Addr->Hp->Prop
abbrev St:=List (Option V)
abbrev VK:=V->Hp->Prop
abbrev TE:=St->Hp->VK->Prop
abbrev TT:=St->Hp->(Bool->Hp->Prop)->Prop
abbrev TA:=St->Hp->(List V->Hp->Prop)->Prop
structure Ends where
 nx:St->Hp->Prop
 rt:VK
 bk:St->Hp->Prop:=λ _ _=>False
 ct:St->Hp->Prop:=λ _ _=>False
abbrev TS:=Ends->St->Hp->Prop
def EP(X:Cx)(pins:List (Addr × Obj))(σ:St)(Q:VK)(u:Value)(s':Shared):Prop:=∃ v H',Inv X pins σ H' s' /\ RelV v u /\ Q v H'
def TP(X:Cx)(pins:List (Addr × Obj))(σ:St)(Q:Bool->Hp->Prop)(b:Bool)(s':Shared):Prop:=∃ H',Inv X pins σ H' s' /\ Q b H'
def AP(X:Cx)(pins:List (Addr × Obj))(σ:St)(Q:List V->Hp->Prop)(us:List Value)(s':Shared):Prop:=∃ vs H',Inv X pins σ H' s' /\ Vals vs us /\ Q vs H'
def SP(X:Cx)(pins:List (Addr × Obj))(D:Ends)(f:Flow)(s':Shared):Prop :=
 match f with
 | .next=>∃ σ' H',Inv X pins σ' H' s' /\ D.nx σ' H'
 | .brk=>∃ σ' H',Inv X pins σ' H' s' /\ D.bk σ' H'
 | .cont=>∃ σ' H',Inv X pins σ' H' s' /\ D.ct σ' H'
 | .ret u=>∃ v σ' H',Inv X pins σ' H' s' /\ RelV v u /\ D.rt v H'
def PE(X:Cx)(e:Expr)(t:TE):Prop :=
 ∀ (pins:List (Addr × Obj)) (s:Shared) (σ:St) (H:Hp) (Q:VK),Inv X pins σ H s->t σ H Q->wpAny (model X.prog X.w) X.A (eval e X.env) (EP X pins σ Q) X.xe s
def PT(X:Cx)(e:Expr)(t:TT):Prop :=
 ∀ (pins:List (Addr × Obj)) (s:Shared) (σ:St) (H:Hp) (Q:Bool->Hp->Prop),Inv X pins σ H s->t σ H Q->wpAny (model X.prog X.w) X.A (isTrue e X.env (eval e X.env)) (TP X pins σ Q) X.xe s
def PW(X:Cx)(e:Expr)(t:TT):Prop :=
 ∀ (whole:Sem Value) (pins:List (Addr × Obj)) (s:Shared) (σ:St) (H:Hp) (Q:Bool->Hp->Prop),Inv X pins σ H s->t σ H Q->wpAny (model X.prog X.w) X.A (isTrue e X.env whole) (TP X pins σ Q) X.xe s
theorem PW.pt{t:TT}(h:PW X e t):PT X e t:=h _
def PA(X:Cx)(es:List Expr)(t:TA):Prop :=
 ∀ (pos:Pos) (pins:List (Addr × Obj)) (s:Shared) (σ:St) (H:Hp) (Q:List V->Hp->Prop),Inv X pins σ H s->t σ H Q->wpAny (model X.prog X.w) X.A (spliced (backTo pos (starEach es X.env))) (AP X pins σ Q) X.xe s
def PS(X:Cx)(st:Stmt)(t:TS):Prop :=
 ∀ (pins:List (Addr × Obj)) (s:Shared) (σ:St) (H:Hp) (D:Ends),Inv X pins σ H s->t D σ H->wpAny (model X.prog X.w) X.A (exec st X.env) (SP X pins D) X.xe s
def rM(X:Cx)(st:List Stmt)(t:TS):Prop :=
 ∀ (pins:List (Addr × Obj)) (s:Shared) (σ:St) (H:Hp) (D:Ends),Inv X pins σ H s->t D σ H->wpAny (model X.prog X.w) X.A (execs st X.env) (SP X pins D) X.xe s
theorem cL{α:Type}{t:Sem α}{Q Q':α->Shared->Prop}(h:wpAny M A t Q E s)(hQ:∀ a s,Q a s->Q' a s):wpAny M A t Q' E s:=wpAny_mono h hQ λ _ _ x=>x
section
variable {X:Cx}
theorem bin{a b:Expr}{ta tb:TE}(ha:PE X a ta)(hb:PE X b tb){σ:St}{R:V->V->Hp->Prop}(I:Inv X pins σ H s)(h:ta σ H λ x H1=>tb σ H1 λ y H2=>R x y H2)
  {α:Type}{Q:α->Shared->Prop}{f:Value->Value->Sem α}
  (hf:∀ v u s2 x y H2,Inv X pins σ H2 s2->RelV x v->RelV y u->R x y H2->wpAny (model X.prog X.w) X.A (f v u) Q X.xe s2):
  wpAny (model X.prog X.w) X.A (eval a X.env) (λ v s₁=>wpAny (model X.prog X.w) X.A (eval b X.env) (λ u s₂=>wpAny (model X.prog X.w) X.A (f v u) Q X.xe s₂) X.xe s₁) X.xe s:=by
 refine cL (ha pins s σ H _ I h) λ v s1 ⟨x,H1,I1,r1,q1⟩=>?_
 refine cL (hb pins s1 σ H1 _ I1 q1) λ u s2 ⟨y,H2,I2,r2,q2⟩=>?_
 exact hf v u s2 x y H2 I2 r1 r2 q2
def j9(i:Nat):TE:=λ σ H Q=>∃ v,σ[i]? = some (some v) /\ Q v H
def tC(v:V):TE:=λ _ H Q=>Q v H
theorem MJ(hN:X.N[i]? = some x)(hv:Wz X.env.scope x)(hd:(x == ("__debug__" : Str))=false:=by decide)(hcd:(x == ("__classdict__" : Str))=false:=by decide):PE X (.Name x pos) (j9 i):=by
 intro pins s σ H Q I h
 obtain ⟨v,e,h⟩:=h
 obtain ⟨m,hn,hl⟩:=I.loc
 obtain ⟨u,r,l⟩:=hl i x v hN e hv
 have fin:EP X pins σ Q u s:=⟨v,H,I,r,h⟩
 rcases l with ⟨hk,hm⟩ | ⟨hk,c,hc,hcell⟩
 ·exact wpAny_Name (wpAny_loadName_local I.ok.kind hk hn hm fin) hd
 ·rcases hk with hk | hk
  ·exact wpAny_Name (wpAny_loadName_cell I.ok.kind hk hc hcell fin) hd
  ·exact wpAny_Name (wpAny_loadName_free I.ok.kind hk hc hcell fin hcd) hd
theorem ak{i j pos}:PE X (.Constant (.int i) j pos) (tC (.int i)):=λ _ _ _ H _ I h=>wpAny_Constant_int ⟨.int i,H,I.tok _,⟨_,rfl⟩,h⟩
theorem kj{b j pos}:PE X (.Constant (.bool b) j pos) (tC (.bl b)):=λ _ _ _ H _ I h=>Constant_bool ⟨.bl b,H,I,rfl,h⟩
theorem kN{j pos}:PE X (.Constant .none j pos) (tC .c6):=λ _ _ _ H _ I h=>Constant_none ⟨.c6,H,I,rfl,h⟩
theorem bA{x j pos}:PE X (.Constant (.str x) j pos) (tC (.str x)):=λ _ _ _ H _ I h=>Calls.Constant_str ⟨.str x,H,I.tok _,⟨_,rfl⟩,h⟩
def Gl(X:Cx)(x:Str):Prop:=X.env.kindOf x=some .globalImplicit
theorem Aj{σ:St}{Q:Value->Shared->Prop}(I:Inv X pins σ H s)(hg:Gl X x)(hm:X.mg x=some u)(h:Q u s)
  (hd:(x == ("__debug__" : Str))=false:=by decide):wpAny (model X.prog X.w) X.A (eval (.Name x pos) X.env) Q E s :=
 Calls.Name_function_global I.ok.kind hg (Calls.loadGlobal_global (by rw [I.ok.glob]; exact I.mod.glob.keeps I.bk) hm h) hd
theorem gO{σ:St}{Q:Value->Shared->Prop}(I:Inv X pins σ H s)(hg:Gl X x)(hm:X.mg x=none)(hv:bootBuiltins x=some u)(h:Q u s)
  (hn:x ≠ "__name__" := by decide)(hd:(x == ("__debug__" : Str))=false:=by decide):wpAny (model X.prog X.w) X.A (eval (.Name x pos) X.env) Q E s:=by
 obtain ⟨mb,h1,h2⟩:=I.mod.blt
 exact Calls.Name_function_global I.ok.kind hg (Calls.loadGlobal_builtin (by rw [I.ok.glob]; exact I.mod.glob.keeps I.bk) hm (by rw [I.ok.blt]; exact h1.keeps I.bk) ((h2 x hn).trans hv) h) hd
theorem ie(hg:Gl X x)(hm:X.mg x=some u)(r:RelV v u)(hd:(x == ("__debug__" : Str))=false:=by decide):PE X (.Name x pos) (tC v) :=
 λ _ _ _ H _ I h=>Aj I hg hm ⟨v,H,I,r,h⟩ hd
theorem lg{u:Value}(hg:Gl X x)(hm:X.mg x=none)(hv:bootBuiltins x=some u)(r:RelV v u)(hn:x ≠ "__name__" := by decide)(hd:(x == ("__debug__" : Str))=false:=by decide):PE X (.Name x pos) (tC v) :=
 λ _ _ _ H _ I h=>gO I hg hm hv ⟨v,H,I,r,h⟩ hn hd
variable {a b:Expr}{ta tb:TE}{pos:Pos}
def PC(X:Cx)(op:CmpOp)(a b:Expr)(t:TE):Prop :=
 ∀ (pins:List (Addr × Obj)) (s:Shared) (σ:St) (H:Hp) (Q:VK),Inv X pins σ H s->t σ H Q ->
  wpAny (model X.prog X.w) X.A (eval a X.env) (λ v s₁=>wpAny (model X.prog X.w) X.A (eval b X.env) (λ u s₂=>wpAny (model X.prog X.w) X.A (compareOp op v u) (EP X pins σ Q) X.xe s₂) X.xe s₁) X.xe s
theorem D7(b:Expr)(h:op ≠ .In)(h2:op ≠ .NotIn):behindInMarks op b=false:=by
 have e1:(op == CmpOp.In)=false:=by cases op <;> first | rfl | exact absurd rfl h
 have e2:(op == CmpOp.NotIn)=false:=by cases op <;> first | rfl | exact absurd rfl h2
 cases b <;> simp [behindInMarks,e1,e2]
def tB(t:TE):TT:=λ σ H Q=>t σ H λ x H1=>∃ c,x=.bl c /\ Q c H1
theorem ML(h:PC X op a b t)(h1:behindInMarks op b=false:=by first | exact D7 _ (by decide) (by decide) | rfl):PT X (.Compare a [op] [b] pos) (tB t):=by
 intro pins s σ H Q I hw
 refine wpAny_isTrue_Compare1 (cL (h pins s σ H _ I hw) λ v s1 h1=>cL h1 λ u s2 h2=>cL h2 λ c s3 ⟨x,H1,I1,r1,q1⟩=>?_) h1
 obtain ⟨d,rfl,q⟩:=q1
 cases r1
 exact wpAny_truthy_bool ⟨H1,I1,q⟩
theorem pW(h:PE X e t)(he:∀ whole,isTrue e X.env whole=(do let v <- whole; standAt e.pos; holding [v] (truthy v)):=by intro _; rfl):PT X e (tB t):=by
 intro pins s σ H Q I hw
 refine isTrue_plain (cL (h pins s σ H _ I hw) λ v s1 ⟨x,H1,I1,r1,q1⟩=>?_) (he _)
 obtain ⟨d,rfl,q⟩:=q1
 cases r1
 exact wpAny_truthy_bool ⟨H1,I1,q⟩
variable {tA Ve:TT}{rest:List Expr}
def QO(t u:TT):TT:=λ σ H Q=>t σ H λ c H1=>if c=true then u σ H1 Q else Q false H1
def ZT(t u:TT):TT:=λ σ H Q=>t σ H λ c H1=>if c=true then Q true H1 else u σ H1 Q
def QS(t:TT):TT:=λ σ H Q=>t σ H λ c H1=>Q (!c) H1
theorem ig(ha:PT X a tA):PW X (.BoolOp .And [a] pos) tA:=by
 intro wh pins s σ H Q I h
 refine isTrue_and (cL (ha pins s σ H Q I h) λ c s1 e=>?_)
 cases c with
 | true=>exact isTrue_and_nil e
 | false=>exact e
theorem jh(ha:PT X a tA):PW X (.BoolOp .Or [a] pos) tA:=by
 intro wh pins s σ H Q I h
 refine isTrue_or (cL (ha pins s σ H Q I h) λ c s1 e=>?_)
 cases c with
 | false=>exact isTrue_or_nil e
 | true=>exact e
theorem jG(ha:PT X a tA)(hb:PW X (.BoolOp .And (b :: rest) pos) Ve):PW X (.BoolOp .And (a :: b :: rest) pos) (QO tA Ve):=by
 intro wh pins s σ H Q I h
 refine isTrue_and (cL (ha pins s σ H _ I h) λ c s1 ⟨H1,I1,q1⟩=>?_)
 cases c with
 | true=>exact hb wh pins s1 σ H1 Q I1 q1
 | false=>exact ⟨H1,I1,q1⟩
theorem ko(ha:PT X a tA)(hb:PW X (.BoolOp .Or (b :: rest) pos) Ve):PW X (.BoolOp .Or (a :: b :: rest) pos) (ZT tA Ve):=by
 intro wh pins s σ H Q I h
 refine isTrue_or (cL (ha pins s σ H _ I h) λ c s1 ⟨H1,I1,q1⟩=>?_)
 cases c with
 | true=>exact ⟨H1,I1,q1⟩
 | false=>exact hb wh pins s1 σ H1 Q I1 q1
theorem tT(ha:PT X a tA):PT X (.UnaryOp .Not a pos) (QS tA):=by
 intro pins s σ H Q I h
 exact isTrue_not (ha pins s σ H (λ c H1=>Q (!c) H1) I h)
def La(ta tb:TE):TE:=λ σ H Q=>ta σ H λ x H1=>∃ c,x=.bl c /\ if c=true then tb σ H1 Q else Q (.bl false) H1
def QT(ta tb:TE):TE:=λ σ H Q=>ta σ H λ x H1=>∃ c,x=.bl c /\ if c=true then Q (.bl true) H1 else tb σ H1 Q
def Lb(ta:TE):TE:=λ σ H Q=>ta σ H λ x H1=>∃ c,x=.bl c /\ Q (.bl (!c)) H1
theorem yG{op}(h:PE X a t):PE X (.BoolOp op [a] pos) t:=λ pins s σ H Q I hw=>BoolOp_one (h pins s σ H Q I hw)
theorem tU(ha:PE X a ta)(hb:PE X (.BoolOp .And (b :: rest) pos) tb):PE X (.BoolOp .And (a :: b :: rest) pos) (La ta tb):=by
 intro pins s σ H Q I h
 refine BoolOp_and (cL (ha pins s σ H _ I h) λ v s1 ⟨x,H1,I1,r1,q1⟩=>?_)
 obtain ⟨c,rfl,q1⟩:=q1
 cases r1
 refine wpAny_truthy_bool ?_
 cases c with
 | true=>exact hb pins s1 σ H1 Q I1 q1
 | false=>exact ⟨.bl false,H1,I1,rfl,q1⟩
theorem QU(ha:PE X a ta)(hb:PE X (.BoolOp .Or (b :: rest) pos) tb):PE X (.BoolOp .Or (a :: b :: rest) pos) (QT ta tb):=by
 intro pins s σ H Q I h
 refine BoolOp_or (cL (ha pins s σ H _ I h) λ v s1 ⟨x,H1,I1,r1,q1⟩=>?_)
 obtain ⟨c,rfl,q1⟩:=q1
 cases r1
 refine wpAny_truthy_bool ?_
 cases c with
 | false=>exact hb pins s1 σ H1 Q I1 q1
 | true=>exact ⟨.bl true,H1,I1,rfl,q1⟩
theorem MM(ha:PE X a ta):PE X (.UnaryOp .Not a pos) (Lb ta):=by
 intro pins s σ H Q I h
 refine UnaryOp_ (cL (ha pins s σ H _ I h) λ v s1 ⟨x,H1,I1,r1,q1⟩=>?_)
 obtain ⟨c,rfl,q1⟩:=q1
 cases r1
 exact not_of (wpAny_truthy_bool ⟨.bl (!c),H1,I1,rfl,q1⟩)
def ZU(t:TT)(ta tb:TE):TE:=λ σ H Q=>t σ H λ c H1=>if c=true then ta σ H1 Q else tb σ H1 Q
theorem gP(hc:PT X c tA)(ha:PE X a ta)(hb:PE X b tb):PE X (.IfExp c a b pos) (ZU tA ta tb):=by
 intro pins s σ H Q I h
 refine wpAny_IfExp (cL (hc pins s σ H _ I h) λ d s1 ⟨H1,I1,q1⟩=>?_)
 cases d with
 | true=>exact ha pins s1 σ H1 Q I1 q1
 | false=>exact hb pins s1 σ H1 Q I1 q1
end
def bD(K:aA)(H:Hp)(a:Addr)(xs:List V):Prop :=
 Rd H a (.lst xs) \/
  ∃ (o:Obj) (its:Array Value) (n:Nat),K.lookup a=some o /\ o.cls=.type "list" /\ o.dict=none /\ o.data=.seq its n /\ its.size <= sizeLine /\ Vals xs its.toList
def gm(K:aA)(H:Hp)(a:Addr)(xs:List V):Prop :=
 Rd H a (.tup xs) \/
  ∃ (o:Obj) (its:Array Value) (n:Nat),K.lookup a=some o /\ o.cls=.type "tuple" /\ o.data=.seq its n /\ its.size <= sizeLine /\ Vals xs its.toList
def WC:Value->Option V
 | .none=>some .c6
 | .bool b=>some (.bl b)
 | .int i _=>some (.int i)
 | .str x _=>some (.str x)
 | .bytes b _=>some (.BX b)
 | .float b _=>some (.Qo b)
 | .ref a=>some (.ref a)
 | .type n=>some (.ty n)
 | _=>none
theorem RelV.abs{x:V}(r:RelV x u):WC u=some x:=by
 cases x with
 | c6=>cases r; rfl
 | bl _=>cases r; rfl
 | int _=>obtain ⟨t,rfl⟩:=r; rfl
 | str _=>obtain ⟨t,rfl⟩:=r; rfl
 | BX _=>obtain ⟨t,rfl⟩:=r; rfl
 | Qo _=>obtain ⟨t,rfl⟩:=r; rfl
 | ref _=>cases r; rfl
 | ty _=>cases r; rfl
theorem RelV.inj{x y:V}(r:RelV x u)(q:RelV y u):x=y:=Option.some.inj (r.abs.symm.trans q.abs)
theorem Vals.inj:∀ {xs ys:List V} {us:List Value},Vals xs us->Vals ys us->xs=ys
 | _,_,_,.nil,.nil=>rfl
 | _,_,_,.cons r t,.cons r' t'=>by rw [r.inj r',Vals.inj t t']
section
variable {X:Cx}{pins:List (Addr × Obj)}{σ:St}{H:Hp}{s:Shared}{a:Addr}{xs ys:List V}
theorem bD.of(h:H a=some (.lst xs)):bD K H a xs:=.inl (.inl h)
theorem gm.of(h:H a=some (.tup xs)):gm K H a xs:=.inl (.inl h)
theorem Inv.list(I:Inv X pins σ H s)(h:bD X.K H a xs):∃ its:List Value,Vals xs its /\ PlainL s.heap a its.toArray /\ xs.length <= sizeLine:=by
 rcases h with h | ⟨o,its,n,hk,hc,hd,hs,hz,r⟩
 ·obtain ⟨z,its,n,r,e⟩:=h.ok I.hok
  exact ⟨its,r,⟨_,n,e,rfl,rfl,rfl⟩,z⟩
 ·refine ⟨its.toList,r,⟨o,n,I.tS a o hk,hc,hd,by simpa using hs⟩,?_⟩
  have e:=r.length
  simp only [cC] at e
  omega
theorem Inv.tuple(I:Inv X pins σ H s)(h:gm X.K H a xs):∃ its:List Value,Vals xs its /\ IsTup s.heap a its.toArray /\ xs.length <= sizeLine:=by
 rcases h with h | ⟨o,its,n,hk,hc,hs,hz,r⟩
 ·obtain ⟨z,its,r,p⟩:=h.ok I.hok
  exact ⟨its,r,p,z⟩
 ·refine ⟨its.toList,r,⟨o,I.tS a o hk,hc,n,by simpa using hs⟩,?_⟩
  have e:=r.length
  simp only [cC] at e
  omega
theorem Inv.D8(I:Inv X pins σ H s)(h:bD X.K H a xs)(h':bD X.K H a ys):xs=ys:=by
 obtain ⟨its,r,⟨o,n,e,_,_,d⟩,_⟩:=I.list h
 obtain ⟨its',r',⟨o',n',e',_,_,d'⟩,_⟩:=I.list h'
 rw [e] at e'; cases e'
 rw [d] at d'
 injection d' with d1 _
 have:its=its':=by simpa using congrArg Array.toList d1
 subst this
 exact r.inj r'
theorem Inv.B3(I:Inv X pins σ H s)(h:gm X.K H a xs)(h':gm X.K H a ys):xs=ys:=by
 obtain ⟨its,r,⟨o,e,_,n,d⟩,_⟩:=I.tuple h
 obtain ⟨its',r',⟨o',e',_,n',d'⟩,_⟩:=I.tuple h'
 rw [e] at e'; cases e'
 rw [d] at d'
 injection d' with d1 _
 have:its=its':=by simpa using congrArg Array.toList d1
 subst this
 exact r.inj r'
end
abbrev Cx.nj(X:Cx)(E:Value->Shared->Prop):Cx:={ X with xe:=E }
abbrev Cx.B4(X:Cx):Cx:=X.nj λ _ _=>False
theorem Cx.Ok.nj(ok:X.Ok)(E:Value->Shared->Prop):(X.nj E).Ok :=
 ⟨ok.mod,ok.kind,ok.glob,ok.blt,ok.above,ok.inj,ok.has,ok.QL,ok.hd,ok.frames,ok.stk,ok.ZQ,ok.bs,ok.DU,ok.BZ,ok.B0,ok.m9,ok.K9⟩
theorem Cx.Ok.iL(ok:(X.nj E).Ok):X.Ok :=
 ⟨ok.mod,ok.kind,ok.glob,ok.blt,ok.above,ok.inj,ok.has,ok.QL,ok.hd,ok.frames,ok.stk,ok.ZQ,ok.bs,ok.DU,ok.BZ,ok.B0,ok.m9,ok.K9⟩
section
variable {X:Cx}{pins:List (Addr × Obj)}{σ:St}{H:Hp}{s:Shared}{E:Value->Shared->Prop}
theorem Inv.nj(I:Inv X pins σ H s)(E:Value->Shared->Prop):Inv (X.nj E) pins σ H s:=⟨I.ok.nj E,I.os,I.bare,I.base,I.loc,I.cell,I.free,I.gM,I.pin,I.hok,I.len⟩
theorem Inv.iL(I:Inv (X.nj E) pins σ H s):Inv X pins σ H s:=⟨I.ok.iL,I.os,I.bare,I.base,I.loc,I.cell,I.free,I.gM,I.pin,I.hok,I.len⟩
theorem SP.iL{f:Flow}{s':Shared}(h:SP (X.nj E) pins D f s'):SP X pins D f s':=by
 cases f with
 | next=>obtain ⟨σ',H',I,q⟩:=h; exact ⟨σ',H',I.iL,q⟩
 | brk=>obtain ⟨σ',H',I,q⟩:=h; exact ⟨σ',H',I.iL,q⟩
 | cont=>obtain ⟨σ',H',I,q⟩:=h; exact ⟨σ',H',I.iL,q⟩
 | ret u=>obtain ⟨v,σ',H',I,r,q⟩:=h; exact ⟨v,σ',H',I.iL,r,q⟩
theorem PE.B4(h:PE X.B4 e t):PE X e t:=λ pins s σ H Q I hw =>
 wpAny_mono (h pins s σ H Q (I.nj _) hw) (λ _ _ ⟨v,H',I',r,q⟩=>⟨v,H',I'.iL,r,q⟩) λ _ _ z=>False.elim z
theorem PT.B4{t:TT}(h:PT X.B4 e t):PT X e t:=λ pins s σ H Q I hw =>
 wpAny_mono (h pins s σ H Q (I.nj _) hw) (λ _ _ ⟨H',I',q⟩=>⟨H',I'.iL,q⟩) λ _ _ z=>False.elim z
theorem rM.B4{st:List Stmt}{t:TS}(h:rM X.B4 st t):rM X st t:=λ pins s σ H D I hw =>
 wpAny_mono (h pins s σ H D (I.nj _) hw) (λ _ _ q=>q.iL) λ _ _ z=>False.elim z
end
section
variable {X:Cx}{st:Stmt}{rest:List Stmt}{t u:TS}{e:Expr}{te:TE}{pos:Pos}
def Lc:TS:=λ D σ H=>D.nx σ H
def MN(t u:TS):TS:=λ D σ H=>t { D with nx:=u D } σ H
theorem aX:rM X [] Lc:=λ _ _ σ H _ I h=>wpAny_execs_nil ⟨σ,H,I,h⟩
theorem ai(h1:PS X st t)(h2:rM X rest u):rM X (st :: rest) (MN t u):=by
 intro pins s σ H D I h
 refine wpAny_execs_cons (cL (h1 pins s σ H { D with nx:=u D } I h) λ f s1 q=>?_)
 cases f with
 | next =>
  obtain ⟨σ',H',I',q⟩:=q
  exact h2 pins s1 σ' H' D I' q
 | ret v=>exact q
 | brk=>exact q
 | cont=>exact q
theorem aq(h1:PS X st t):rM X [st] t:=by
 intro pins s σ H D I h
 refine wpAny_execs_cons (cL (h1 pins s σ H D I h) λ f s1 q=>?_)
 cases f with
 | next=>exact wpAny_execs_nil q
 | ret v=>exact q
 | brk=>exact q
 | cont=>exact q
theorem Inv.quiet{σ:St}(I:Inv X pins σ H s):interactive X.env=false:=by simp [interactive,I.ok.kind]
def Ld(te:TE):TS:=λ D σ H=>te σ H λ _ H1=>D.nx σ H1
theorem di(he:PE X e te)(hs:swapsWith e none pos.line X.env=pure false:=by rfl):PS X (.Expr e pos) (Ld te):=by
 intro pins s σ H D I h
 exact wpAny_Expr_any (cL (he pins s σ H _ I h) λ v s1 ⟨x,H1,I1,r1,q1⟩=>⟨σ,H1,I1,q1⟩) I.quiet hs
def QV(te:TE):TS:=λ D σ H=>te σ H D.rt
theorem aI(he:PE X e te):PS X (.Return (some e) pos) (QV te):=by
 intro pins s σ H D I h
 exact wpAny_Return_some (cL (he pins s σ H _ I h) λ v s1 ⟨x,H1,I1,r1,q1⟩=>⟨x,σ,H1,I1,r1,q1⟩)
def QW(c:TT)(t u:TS):TS:=λ D σ H=>c σ H λ b H1=>if b=true then t D σ H1 else u D σ H1
theorem bZ{a b:List Stmt}{tc:TT}(hc:PT X c tc)(ha:rM X a t)(hb:rM X b u):PS X (.If c a b pos) (QW tc t u):=by
 intro pins s σ H D I h
 refine wpAny_If (cL (hc pins s σ H _ I h) λ d s1 ⟨H1,I1,q1⟩=>?_)
 cases d with
 | true=>exact ha pins s1 σ H1 D I1 q1
 | false=>exact hb pins s1 σ H1 D I1 q1
end
abbrev TG:=V->St->Hp->(St->Hp->Prop)->Prop
abbrev B5:=List V->St->Hp->(St->Hp->Prop)->Prop
def PG(X:Cx)(target:Expr)(t:TG):Prop :=
 ∀ (pins:List (Addr × Obj)) (s:Shared) (σ:St) (H:Hp) (v:V) (u:Value) (Q:St->Hp->Prop),Inv X pins σ H s->RelV v u->t v σ H Q ->
  wpAny (model X.prog X.w) X.A (assign target X.env u) (λ _ s'=>∃ σ' H',Inv X pins σ' H' s' /\ Q σ' H') X.xe s
def Qs(X:Cx)(ts:List Expr)(t:B5):Prop :=
 ∀ (pins:List (Addr × Obj)) (s:Shared) (σ:St) (H:Hp) (vs:List V) (us:List Value) (Q:St->Hp->Prop),Inv X pins σ H s->Vals vs us->t vs σ H Q ->
  wpAny (model X.prog X.w) X.A (assignInOrder ((assignEach ts X.env).map (·.2)) us) (λ _ s'=>∃ σ' H',Inv X pins σ' H' s' /\ Q σ' H') X.xe s
abbrev Iv:=V->V->V->Hp->(Hp->Prop)->Prop
def QX(X:Cx)(t:Iv):Prop :=
 ∀ (pins:List (Addr × Obj)) (s:Shared) (σ:St) (H:Hp) (o i v:V) (ov iv u:Value) (Q:Hp->Prop),Inv X pins σ H s->RelV o ov->RelV i iv->RelV v u->t o i v H Q ->
  wpAny (model X.prog X.w) X.A (setItem ov iv u) (λ _ s'=>∃ H',Inv X pins σ H' s' /\ Q H') X.xe s
section
variable {X:Cx}{pos:Pos}
def gq(i:Nat):TG:=λ v σ H Q=>Q (σ.set i (some v)) H
theorem bg(hN:X.N.Nodup)(hi:X.N[i]? = some x)(hx:Loc X.env.scope x)(hf:X.fn x=true \/ X.env.scope.names.lookup x=some .local:=by first | exact .inl rfl | exact .inr rfl | assumption):PG X (.Name x pos) (gq i):=by
 intro pins s σ H v u Q I r h
 exact wpAny_assign_Name (pV I hN hi hx r (λ s' I'=>⟨_,H,I',h⟩) hf)
def QY:B5:=λ vs σ H Q=>vs=[] /\ Q σ H
def Le(t:TG)(u:B5):B5:=λ vs σ H Q=>∃ v r,vs=v :: r /\ t v σ H λ σ' H'=>u r σ' H' Q
theorem ir:Qs X [] QY:=by
 intro pins s σ H vs us Q I r h
 obtain ⟨e,h⟩:=h
 subst e
 cases r
 exact assignInOrder_nil ⟨σ,H,I,h⟩
theorem cE{es:List Expr}{t:TG}{u:B5}(h1:PG X e t)(h2:Qs X es u)
  (hs:(assignEach (e :: es) X.env).map (·.2)=assign e X.env :: (assignEach es X.env).map (·.2):=by rfl):Qs X (e :: es) (Le t u):=by
 intro pins s σ H vs us Q I r h
 obtain ⟨v,vr,e1,h⟩:=h
 subst e1
 cases r with
 | cons r rr =>
  rw [hs]
  refine assignInOrder_cons (cL (h1 pins s σ H _ _ _ I r h) λ _ s1 ⟨σ1,H1,I1,q1⟩=>?_)
  exact h2 pins s1 σ1 H1 _ _ Q I1 rr q1
def MO(K:aA)(n:Nat)(t:B5):TG:=λ v σ H Q=>∃ a xs,v=.ref a /\ gm K H a xs /\ xs.length=n /\ t xs σ H Q
theorem nu{es:List Expr}{t:B5}(hc:X.calm=true)(h:Qs X es t)
  (hn:(assignEach es X.env).length=n:=by rfl)(hst:(assignEach es X.env).findIdx? (·.1)=none:=by rfl):PG X (.Tuple es k pos) (MO X.K n t):=by
 intro pins s σ H v u Q I r hw
 obtain ⟨a,xs,e1,hq,hl,hw⟩:=hw
 subst e1
 cases r
 obtain ⟨its,rv,ht,hz⟩:=I.tuple hq
 refine assign_Tuple_tuple (I.ok.hd hc) ht (by simp [hn,<- hl,rv.length]) hst λ h' hx=>?_
 have I1:Inv X pins σ H { s with heap:=h' }:=I.kept (t':=s.toks) λ b o e=>hx b o (aT (aF e)) e
 exact h pins _ σ H xs _ Q I1 (by simpa using rv) hw
def QZ(to ti:TE)(t:Iv):TG:=λ v σ H Q=>to σ H λ o H1=>ti σ H1 λ i H2=>t o i v H2 λ H3=>Q σ H3
theorem D9{o i:Expr}{to ti:TE}{t:Iv}(ho:PE X o to)(hi:PE X i ti)(hs:QX X t)
  (ha:∀ v,assign (.Subscript o i pos) X.env v=(do
   let ov <- holding [v] (eval o X.env)
   let iv <- holding [v,ov] (eval i X.env)
   standAt pos
   holding [v,ov,iv] (setItem ov iv v)
   release [v,ov,iv] []):=by intro _; rfl):PG X (.Subscript o i pos) (QZ to ti t):=by
 intro pins s σ H v u Q I r h
 rw [ha]
 refine ao (wpAny_holding (cL (ho pins s σ H _ I h) λ ov s1 ⟨x,H1,I1,r1,q1⟩=>?_))
 refine ao (wpAny_holding (cL (hi pins s1 σ H1 _ I1 q1) λ iv s2 ⟨y,H2,I2,r2,q2⟩=>?_))
 refine ao (wpAny_standAt (ao (wpAny_holding (cL (hs pins s2 σ H2 x y v ov iv u _ I2 r1 r2 r q2) λ _ s3 ⟨H3,I3,q3⟩=>?_))))
 exact wpAny_release ⟨σ,H3,I3,q3⟩
def MP(te:TE)(g:TG):TS:=λ D σ H=>te σ H λ x H1=>g x σ H1 D.nx
theorem tV{te:TE}(he:PE X e te)(hg:PG X tg g)(hs:swapsWithSole [tg] e pos.line X.env=pure false:=by rfl)(hw:swappedStores [tg] e X.env=pure none:=by rfl)
  (h1:(assignEach [tg] X.env).map (·.2)=[assign tg X.env]:=by rfl):PS X (.Assign [tg] e pos) (MP te g):=by
 intro pins s σ H D I h
 refine wpAny_Assign_stores (cL (he pins s σ H _ I h) λ v s1 ⟨x,H1,I1,r1,q1⟩=>?_) hs hw
 rw [h1]
 exact cL (hg pins s1 σ H1 x v _ I1 r1 q1) λ _ s2 q=>q
theorem aN{te:TE}{pos':Pos}(hN:X.N.Nodup)(hi:X.N[i]? = some x)(hx:Loc X.env.scope x)(he:PE X e te)(hs:swapsWith e (some (.Name x pos')) pos.line X.env=pure false:=by rfl)(hf:X.fn x=true \/ X.env.scope.names.lookup x=some .local:=by first | exact .inl rfl | exact .inr rfl | assumption):
  PS X (.Assign [.Name x pos'] e pos) (MP te (gq i)):=by
 intro pins s σ H D I h
 refine wpAny_Assign_Name (cL (he pins s σ H _ I h) λ v s1 ⟨y,H1,I1,r1,q1⟩=>?_) hs
 exact pV I1 hN hi hx r1 (λ s2 I2=>⟨_,H1,I2,q1⟩) hf
def Ea(c:TT)(tb:TS):TS:=λ D σ H=>∃ W:Nat->St->Hp->Prop,(∃ m,W m σ H) /\ ∀ m σ H,W m σ H ->
 c σ H λ b H1=>if b=true then ∃ N:St->Hp->Prop,(∀ σ' H',N σ' H'->∃ m',m' < m /\ W m' σ' H') /\ tb { D with nx:=N,ct:=N,bk:=D.nx } σ H1 else D.nx σ H1
theorem lq{tc:TT}(hp:PassesOwn (model X.prog X.w) X.A X.env X.xe)(hc:PT X c tc)(hb:rM X body tb):PS X (.While c body [] pos) (Ea tc tb):=by
 intro pins s σ H D I h
 obtain ⟨W,⟨m0,w0⟩,turn⟩:=h
 refine wpAny_While (codeAny_whileLoop (λ n s'=>∃ σ' H',Inv X pins σ' H' s' /\ W n σ' H') ?_ m0 ⟨σ,H,I,w0⟩)
 rintro n s1 ⟨σ1,H1,I1,w1⟩
 refine wpAny_passesOwn hp (cL (hc pins s1 σ1 H1 _ I1 (turn n σ1 H1 w1)) λ b s2 ⟨H2,I2,q2⟩=>?_)
 cases b with
 | true =>
  obtain ⟨N,hN,q2⟩:=q2
  rw [if_pos rfl]
  refine wpAny_passesOwn hp (cL (hb pins s2 σ1 H2 _ I2 q2) λ f s3 q3=>?_)
  cases f with
  | next =>
   obtain ⟨σ3,H3,I3,n3⟩:=q3
   obtain ⟨m',hm,w3⟩:=hN σ3 H3 n3
   exact ⟨m',hm,σ3,H3,I3,w3⟩
  | cont =>
   obtain ⟨σ3,H3,I3,n3⟩:=q3
   obtain ⟨m',hm,w3⟩:=hN σ3 H3 n3
   exact ⟨m',hm,σ3,H3,I3,w3⟩
  | brk=>exact q3
  | ret v=>exact q3
 | false =>
  rw [if_neg ic]
  exact wpAny_execs_nil ⟨σ1,H2,I2,q2⟩
end
structure It where
 go:Nat->Hp->Prop
 DV:Nat->Hp->V->Hp->Prop
 stop:Nat->Hp->Prop
def dU(X:Cx)(pins:List (Addr × Obj))(H:Hp)(b:Addr):Prop :=
 H b=none /\ b ≠ X.env.locals /\ b ∉ X.fs /\ (b∈X.ex \/ X.s₀.heap.objs.size <= b) /\ (∀ x c,X.env.cells.lookup x=some c->c ≠ b) /\ ∀ p∈X.pn++pins,p.1 ≠ b
theorem Inv.kg{σ:St}{H':Hp}{s:Shared}(I:Inv X pins σ H s)(hb:s.heap.objs.size <= b)(hn:H' b=none):dU X pins H' b:=by
 refine ⟨hn,jE (cg I.lt hb),I.MH hb,.inr (bE I.sz hb),λ x c e z=>?_,λ p hp z=>?_⟩
 ·obtain ⟨v,q⟩:=I.cell x c e
  exact absurd (cg q.lt (by rw [z]; exact hb)) (dH _)
 ·exact absurd (cg (aF (I.pin p hp).1) (by rw [z]; exact hb)) (dH _)
structure Turn (P:Program) (w:World) (K:aA) (tg:Expr) (J:It) (fp:List Addr) (it:Addr) (tn:Nat->Heap->Prop):Prop where
 mem:it∈fp
 obj:∀ i h,tn i h->∀ b∈fp,∃ o,h.get? b=some o /\ ∀ v,o.data ≠ .cell v
 keep:∀ i h h',tn i h->(∀ b∈fp,∀ o,h.get? b=some o->h'.get? b=some o)->tn i h'
 item:∀ (X:Cx),X.prog=P->X.w=w->X.K=K->X.calm=true->∀ (i:Nat) (pins:List (Addr × Obj)) (s:Shared) (σ:St) (H:Hp) (E:Value->Shared->Prop),Inv X pins σ H s->(∀ b∈fp,dU X pins H b)->tn i s.heap->J.go i H ->
  wpAny (model P w) X.A (pyNext (.ref it)) (λ r s1=>∃ u,r=some u /\
   wpAny (model P w) X.A (letOwnedTupleGo tg (.ref it) u) (λ _ s2=>∃ x H',Inv X pins σ H' s2 /\ RelV x u /\ J.DV i H x H' /\ tn (i + 1) s2.heap /\ ∀ b∈fp,H' b=none) E s1) E s
 done:∀ (X:Cx),X.prog=P->X.w=w->X.K=K->X.calm=true->∀ (i:Nat) (pins:List (Addr × Obj)) (s:Shared) (σ:St) (H:Hp) (E:Value->Shared->Prop),Inv X pins σ H s->(∀ b∈fp,dU X pins H b)->tn i s.heap->J.stop i H ->
  wpAny (model P w) X.A (pyNext (.ref it)) (λ r s1=>r=none /\ Inv X pins σ H s1) E s
 self:∀ (A:Around) (i:Nat) (s:Shared) (Q:Value->Shared->Prop) (E:Value->Shared->Prop),tn i s.heap->Q (.ref it) s->wpAny (model P w) A (pyIter (.ref it)) Q E s
abbrev TI:=St->Hp->(It->Hp->Prop)->Prop
def ZV(X:Cx)(pins:List (Addr × Obj))(σ:St)(tg:Expr)(R:It->Hp->Prop)(itv:Value)(s2:Shared):Prop :=
 ∃ (it:Addr) (fp:List Addr) (tn:Nat->Heap->Prop) (J:It) (H':Hp),itv=.ref it /\ Inv X pins σ H' s2 /\ Turn X.prog X.w X.K tg J fp it tn /\ tn 0 s2.heap /\ (∀ b∈fp,dU X pins H' b) /\ R J H'
def PI(X:Cx)(tg iter:Expr)(wi:TI):Prop :=
 ∀ (pins:List (Addr × Obj)) (s:Shared) (σ:St) (H:Hp) (R:It->Hp->Prop),Inv X pins σ H s->wi σ H R ->
  wpAny (model X.prog X.w) X.A (eval iter X.env) (λ v s1=>wpAny (model X.prog X.w) X.A (pyIter v) (ZV X pins σ tg R) X.xe s1) X.xe s
theorem vd{it:Addr}{o:Obj}{n:String}{vs:Array Value}(ho:s.heap.get? it=some o)(hc:o.cls=.type n)(hd:o.data=.fields vs)
    (hn:["enumerate", "zip", "dict_itemiterator", "dict_reverseitemiterator", "odict_iterator", "itertools.zip_longest", "itertools.pairwise"].contains n=false)(hQ:Q () s):wpAny M A (letOwnedTupleGo tg (.ref it) u) Q E s:=by
  unfold letOwnedTupleGo
  cases tg <;> first
    | exact aH hQ
    | (cases u <;> first
        | exact aH hQ
        | (refine ao (wpAny_load ho ?_)
           rw [hc,hd]
           show wpAny M A (if (["enumerate", "zip", "dict_itemiterator", "dict_reverseitemiterator", "odict_iterator", "itertools.zip_longest", "itertools.pairwise"].contains n && vs[0]? == some (rawInt _))=true then _ else _) Q E s
           rw [if_neg (by intro h; rw [hn,pK] at h; cases h)]
           exact aH hQ))
def Iw(K:aA)(a:Addr):It :=
 ⟨λ i H=>∃ xs x,bD K H a xs /\ xs[i]? = some x,λ i H x H'=>H'=H /\ ∀ xs,bD K H a xs->xs[i]? = some x,λ i H=>∃ xs,bD K H a xs /\ xs.length <= i⟩
def Lf(K:aA)(a:Addr):It :=
 ⟨λ i H=>∃ xs x,gm K H a xs /\ xs[i]? = some x,λ i H x H'=>H'=H /\ ∀ xs,gm K H a xs->xs[i]? = some x,λ i H=>∃ xs,gm K H a xs /\ xs.length <= i⟩
def kq(lo:Int)(n:Nat):It:=⟨λ i _=>i < n,λ i H x H'=>H'=H /\ x=.int (lo + i),λ i _=>n <= i⟩
theorem B6(a it:Addr):Turn P w K tg (Iw K a) [it] it (λ i h=>h.IsListIter it a i) where
 mem:=by simp
 obj:=λ i h st b hb=>by
  have e:b=it:=by simpa using hb
  subst e
  obtain ⟨o,e,c,d⟩:=st
  exact ⟨o,e,λ v z=>by rw [d] at z; cases z⟩
 keep:=λ i h h' st k=>st.at λ o e=>k it (by simp) o e
 item:=by
  intro X hP hw hK hc i pins s σ H E I hf st hg
  subst hP hw hK
  obtain ⟨xs,x,hq,hx⟩:=hg
  obtain ⟨its,rv,p,hz⟩:=I.list hq
  obtain ⟨u,hu,ru⟩:=rv.get hx
  obtain ⟨f0,f1,f2,f3,f4,f5⟩:=hf it (by simp)
  refine wpAny_pyNext_list_item st p.isList (x:=u) (by simpa using hu) λ h' st' sb=>?_
  have I1:Inv X pins σ H { s with heap:=h' }:=I.turned (t':=s.toks) (λ b o hb e=>(sb.2 b hb).trans e) f0 f1 f3 f4 f5
  obtain ⟨o,e,c,d⟩:=id st'
  exact ⟨u,rfl,vd (s:={ s with heap:=h' }) e c d (by decide) ⟨x,H,I1,ru,⟨rfl,λ ys hy=>by rw [I.D8 hy hq]; exact hx⟩,st',λ b hb=>(hf b hb).1⟩⟩
 done:=by
  intro X hP hw hK hc i pins s σ H E I hf st hg
  subst hP hw hK
  obtain ⟨xs,hq,hx⟩:=hg
  obtain ⟨its,rv,p,hz⟩:=I.list hq
  obtain ⟨f0,f1,f2,f3,f4,f5⟩:=hf it (by simp)
  have hl:=rv.length
  exact wpAny_pyNext_list_end (I.ok.hd hc) st p.isList (by simp; omega) λ h' eb=>⟨rfl,I.turned (t':=s.toks) (λ b o hb e=>eb b o hb e) f0 f1 f3 f4 f5⟩
 self:=λ _ _ _ _ _ st h=>wpAny_pyIter_listiter st h
theorem yH(a it:Addr):Turn P w K tg (Lf K a) [it] it (λ i h=>h.IsTupleIter it a i) where
 mem:=by simp
 obj:=λ i h st b hb=>by
  have e:b=it:=by simpa using hb
  subst e
  obtain ⟨o,e,c,d⟩:=st
  exact ⟨o,e,λ v z=>by rw [d] at z; cases z⟩
 keep:=λ i h h' st k=>st.at λ o e=>k it (by simp) o e
 item:=by
  intro X hP hw hK hc i pins s σ H E I hf st hg
  subst hP hw hK
  obtain ⟨xs,x,hq,hx⟩:=hg
  obtain ⟨its,rv,p,hz⟩:=I.tuple hq
  obtain ⟨u,hu,ru⟩:=rv.get hx
  obtain ⟨f0,f1,f2,f3,f4,f5⟩:=hf it (by simp)
  refine wpAny_pyNext_tuple_item st (show s.heap.IsTuple a its.toArray from p) (x:=u) (by simpa using hu) λ h' st' sb=>?_
  have I1:Inv X pins σ H { s with heap:=h' }:=I.turned (t':=s.toks) (λ b o hb e=>(sb.2 b hb).trans e) f0 f1 f3 f4 f5
  obtain ⟨o,e,c,d⟩:=id st'
  exact ⟨u,rfl,vd (s:={ s with heap:=h' }) e c d (by decide) ⟨x,H,I1,ru,⟨rfl,λ ys hy=>by rw [I.B3 hy hq]; exact hx⟩,st',λ b hb=>(hf b hb).1⟩⟩
 done:=by
  intro X hP hw hK hc i pins s σ H E I hf st hg
  subst hP hw hK
  obtain ⟨xs,hq,hx⟩:=hg
  obtain ⟨its,rv,p,hz⟩:=I.tuple hq
  obtain ⟨f0,f1,f2,f3,f4,f5⟩:=hf it (by simp)
  have hl:=rv.length
  exact wpAny_pyNext_tuple_end (I.ok.hd hc) st (show s.heap.IsTuple a its.toArray from p) (by simp; omega) λ h' eb=>⟨rfl,I.turned (t':=s.toks) (λ b o hb e=>eb b o hb e) f0 f1 f3 f4 f5⟩
 self:=λ _ _ _ _ _ st h=>wpAny_pyIter_tupleiter st h
theorem yI(it:Addr)(lo:Int)(n:Nat):Turn P w K tg (kq lo n) [it] it (λ i h=>IsRangeIter h it (lo + (i:Nat) * 1) ((n:Int) - (i:Nat)) 1) where
 mem:=by simp
 obj:=λ i h st b hb=>by
  have e:b=it:=by simpa using hb
  subst e
  exact ⟨_,st,λ v z=>by
   have z':Data.fields _=Data.cell v:=z
   cases z'⟩
 keep:=λ i h h' st k=>k it (by simp) _ st
 item:=by
  intro X hP hw hK hc i pins s σ H E I hf st hg
  subst hP hw hK
  obtain ⟨f0,f1,f2,f3,f4,f5⟩:=hf it (by simp)
  have W:=Walks.range (prog:=X.prog) (w:=X.w) (I.ok.hd hc) it lo 1 n
  refine W.item i s _ _ hg st λ v h' tk hv st' kk=>?_
  obtain ⟨t,rfl⟩:=hv
  have I1:Inv X pins σ H { s with heap:=h',toks:=tk }:=I.turned (λ b o hb e=>kk b o (by simpa using hb) e) f0 f1 f3 f4 f5
  refine ⟨_,rfl,vd (s:={ s with heap:=h',toks:=tk }) (n := "range_iterator") st' rfl rfl (by decide) ⟨.int (lo + i),H,I1,⟨t,?_⟩,⟨rfl,rfl⟩,st',λ b hb=>(hf b hb).1⟩⟩
  rw [Int.mul_one]
 done:=by
  intro X hP hw hK hc i pins s σ H E I hf st hg
  subst hP hw hK
  obtain ⟨f0,f1,f2,f3,f4,f5⟩:=hf it (by simp)
  exact wpAny_pyNext_range_end (I.ok.hd hc) st (by have:n <= i:=hg; omega) λ h' eb=>⟨rfl,I.turned (t':=s.toks) (λ b o hb e=>eb b o hb e) f0 f1 f3 f4 f5⟩
 self:=λ _ _ _ _ _ st h=>wpAny_pyIter_rangeiter st h
section
variable {X:Cx}{tg:Expr}
def Lg(K:aA)(tl:TE):TI:=λ σ H R=>tl σ H λ x H1=>∃ a,x=.ref a /\ (∃ xs,bD K H1 a xs) /\ R (Iw K a) H1
def Q0(K:aA)(tl:TE):TI:=λ σ H R=>tl σ H λ x H1=>∃ a,x=.ref a /\ (∃ xs,gm K H1 a xs) /\ R (Lf K a) H1
theorem bR{l:Expr}{tl:TE}(hl:PE X l tl):PI X tg l (Lg X.K tl):=by
 intro pins s σ H R I h
 refine cL (hl pins s σ H _ I h) λ v s1 ⟨x,H1,I1,r1,q1⟩=>?_
 obtain ⟨a,e,⟨xs,hq⟩,q⟩:=q1
 subst e
 cases r1
 obtain ⟨its,rv,p,hz⟩:=I1.list hq
 refine wpAny_pyIter_list p.isList ?_
 refine ⟨s1.heap.objs.size,[s1.heap.objs.size],_,_,H1,rfl,I1.kept (t':=s1.toks) λ b o e=>cB _ e,B6 a _,⟨_,fR _ rfl,rfl,rfl⟩,λ b hb=>?_,q⟩
 have e:b=s1.heap.objs.size:=by simpa using hb
 subst e
 exact I1.kg (az _) (I1.hok.fresh (az _))
theorem MQ{l:Expr}{tl:TE}(hl:PE X l tl):PI X tg l (Q0 X.K tl):=by
 intro pins s σ H R I h
 refine cL (hl pins s σ H _ I h) λ v s1 ⟨x,H1,I1,r1,q1⟩=>?_
 obtain ⟨a,e,⟨xs,hq⟩,q⟩:=q1
 subst e
 cases r1
 obtain ⟨its,rv,p,hz⟩:=I1.tuple hq
 refine wpAny_pyIter_tuple (show s1.heap.IsTuple a its.toArray from p) ?_
 refine ⟨s1.heap.objs.size,[s1.heap.objs.size],_,_,H1,rfl,I1.kept (t':=s1.toks) λ b o e=>cB _ e,yH a _,⟨_,fR _ rfl,rfl,rfl⟩,λ b hb=>?_,q⟩
 have e:b=s1.heap.objs.size:=by simpa using hb
 subst e
 exact I1.kg (az _) (I1.hok.fresh (az _))
theorem ve{σ:St}{R:It->Hp->Prop}{lo hi:Int}{t u v:Tok}{tk:Nat}(I:Inv X pins σ H s)(h1:-(2 ^ 62) <= lo)(h2:lo < 2 ^ 62)(h3:-(2 ^ 62) <= hi)(h4:hi < 2 ^ 62)
  (q:R (kq lo (hi - lo).toNat) H):wpAny (model X.prog X.w) X.A (pyIter (.ref s.heap.objs.size)) (ZV X pins σ tg R) E { s with heap:=s.heap.push { cls:=.type "range", data:=.fields #[.int lo t,.int hi u,.int 1 v] },toks:=tk }:=by
 refine wpAny_pyIter_range (IsRange.new ..) (small_one h1 h2 h3 h4) ?_
 have I1:Inv X pins σ H { s with heap:=s.heap.push { cls:=.type "range", data:=.fields #[.int lo t,.int hi u,.int 1 v] },toks:=tk }:=I.kept λ b o e=>cB _ e
 refine ⟨(s.heap.push { cls:=.type "range", data:=.fields #[.int lo t,.int hi u,.int 1 v] }).objs.size,[(s.heap.push { cls:=.type "range", data:=.fields #[.int lo t,.int hi u,.int 1 v] }).objs.size],_,_,H,rfl,
  I1.kept (t':=tk) λ b o e=>cB _ e,yI _ lo (hi - lo).toNat,?_,λ b hb=>?_,q⟩
 ·have e1:lo + ((0:Nat):Int) * 1=lo:=by simp
  have e2:(((hi - lo).toNat:Nat):Int) - ((0:Nat):Int)=Builtin.Range.rangeSize lo hi 1:=by rw [rangeSize_one]; split <;> omega
  show IsRangeIter _ _ (lo + ((0:Nat):Int) * 1) ((((hi - lo).toNat:Nat):Int) - ((0:Nat):Int)) 1
  rw [e1,e2]
  exact fR _ rfl
 ·have e:b=(s.heap.push { cls:=.type "range", data:=.fields #[.int lo t,.int hi u,.int 1 v] }).objs.size:=by simpa using hb
  subst e
  exact I1.kg (az _) (I1.hok.fresh (az _))
def Lh(ta:TA):TI:=λ σ H R=>ta σ H λ vs H1=>∃ j:Int,vs=[.int j] /\ -(2 ^ 62) <= j /\ j < 2 ^ 62 /\ R (kq 0 j.toNat) H1
def Li(ta:TA):TI:=λ σ H R=>ta σ H λ vs H1=>∃ i j:Int,vs=[.int i,.int j] /\ (-(2 ^ 62) <= i /\ i < 2 ^ 62 /\ -(2 ^ 62) <= j /\ j < 2 ^ 62) /\ R (kq i (j - i).toNat) H1
theorem dF{a:Expr}{ta:TA}{p:Pos}(hg:Gl X "range")(hm:X.mg "range" = none)(ha:PA X [a] ta)(hs:starEach [a] X.env=[(false,eval a X.env)]:=by rfl):PI X tg (.Call (.Name "range" p) [a] [] pos) (Lh ta):=by
 intro pins s σ H R I h
 refine Call_ (gO I hg hm boot_range (jg (cL (ha pos pins s σ H _ I h) λ us s1 ⟨vs,H1,I1,r1,q1⟩=>?_) hs rfl))
 obtain ⟨j,e,q1,q2,q⟩:=q1
 subst e
 cases r1 with
 | cons r rr =>
  cases rr
  obtain ⟨t,rfl⟩:=r
  exact call_range_1 (ve I1 (by omega) (by omega) q1 q2 (by simpa using q))
theorem B7{a b:Expr}{ta:TA}{p:Pos}(hg:Gl X "range")(hm:X.mg "range" = none)(ha:PA X [a,b] ta)(hs:starEach [a,b] X.env=[(false,eval a X.env),(false,eval b X.env)]:=by rfl)(hs2:starEach [b] X.env=[(false,eval b X.env)]:=by rfl):
  PI X tg (.Call (.Name "range" p) [a,b] [] pos) (Li ta):=by
 intro pins s σ H R I h
 refine Call_ (gO I hg hm boot_range (jg (cL (ha pos pins s σ H _ I h) λ us s1 ⟨vs,H1,I1,r1,q1⟩=>?_) (by rw [hs,hs2]) (by rw [hs2]; rfl)))
 obtain ⟨i,j,e,⟨q1,q2,q3,q4⟩,q⟩:=q1
 subst e
 cases r1 with
 | cons r rr =>
  cases rr with
  | cons r' rr =>
   cases rr
   obtain ⟨t,rfl⟩:=r
   obtain ⟨t',rfl⟩:=r'
   exact call_range_2 (ve I1 q1 q2 q3 q4 q)
def Q2(wi:TI)(g:TG)(tb:TS):TS:=λ D σ H=>wi σ H λ J H1=>∃ W:Nat->Nat->St->Hp->Prop,(∃ m,W 0 m σ H1) /\ ∀ i m σ H,W i m σ H ->
 (J.stop i H /\ D.nx σ H) \/ (J.go i H /\ ∃ N:St->Hp->Prop,(∀ σ' H',N σ' H'->∃ m',m' < m /\ W (i + 1) m' σ' H') /\ ∀ x H',J.DV i H x H'->g x σ H' λ σ2 H2=>tb { D with nx:=N,ct:=N,bk:=D.nx } σ2 H2)
def jH(fp:List Addr)(h:Heap):List (Addr × Obj):=fp.filterMap λ b=>(h.get? b).map λ o=>(b,o)
theorem cW{o:Obj}(hb:b∈fp)(e:h.get? b=some o):(b,o)∈jH fp h:=List.mem_filterMap.mpr ⟨b,hb,by rw [e]; rfl⟩
theorem nv{p:Addr × Obj}(hp:p∈jH fp h):p.1∈fp /\ h.get? p.1=some p.2:=by
 obtain ⟨b,hb,e⟩:=List.mem_filterMap.mp hp
 cases q:h.get? b with
 | none=>rw [q] at e; cases e
 | some o =>
  rw [q] at e
  have e':(b,o)=p:=Option.some.inj e
  subst e'
  exact ⟨hb,q⟩
theorem Inv.pinned{σ:St}(I:Inv X pins σ H s)(hf:∀ b∈fp,dU X pins H b)(ho:∀ b∈fp,∃ o,s.heap.get? b=some o /\ ∀ v,o.data ≠ .cell v):Inv X (pins++jH fp s.heap) σ H s :=
 I.jW λ p hp=>(aO.mp hp).elim (λ z=>I.pin p (bI _ z)) λ z=>by
  obtain ⟨hb,e⟩:=nv z
  obtain ⟨f0,f1,f2,_⟩:=hf p.1 hb
  obtain ⟨o,e',d⟩:=ho p.1 hb
  rw [e] at e'; cases e'
  exact ⟨e,f0,f1,f2,d⟩
theorem Inv.jI{pl:List (Addr × Obj)}{σ:St}(I:Inv X (pins++pl) σ H s):Inv X pins σ H s:=I.jW λ p hp=>I.pin p (bI _ (iK _ hp))
theorem cM{iter:Expr}{wi:TI}(hp:PassesOwn (model X.prog X.w) X.A X.env X.xe)(hc:X.calm=true)(hi:PI X tg iter wi)(hg:PG X tg g)(hb:rM X body tb)
  (hs:∀ x,foldedSetIterable iter X.env x=pure x:=by intro _; rfl):PS X (.For tg iter body [] pos) (Q2 wi g tb):=by
 intro pins s σ H D I h
 refine wpAny_For (cL (hi pins s σ H _ I h) λ v s1 h1=>cL h1 λ itv s2 h2=>?_) hs
 obtain ⟨it,fp,tn,J,H2,e,I2,T,st2,f2,W,⟨m0,w0⟩,turn⟩:=h2
 subst e
 have pX:∀ {H':Hp},(∀ b∈fp,H' b=none)->∀ b∈fp,dU X pins H' b:=λ hn b hb=>⟨hn b hb,(f2 b hb).2⟩
 refine codeAny_forLoop_any (λ n s'=>∃ i σ' H',Inv X pins σ' H' s' /\ tn i s'.heap /\ (∀ b∈fp,H' b=none) /\ W i n σ' H') ?_ m0 ⟨0,σ,H2,I2,st2,λ b hb=>(f2 b hb).1,w0⟩
 rintro n s3 ⟨i,σ3,H3,I3,st3,Lj,w3⟩
 rcases turn i n σ3 H3 w3 with ⟨stop,qn⟩ | ⟨go,N,hN,step⟩
 ·refine wpAny_passesOwn hp (cL (T.done X rfl rfl rfl hc i pins s3 σ3 H3 X.xe I3 (pX Lj) st3 stop) λ r s4 ⟨hr,I4⟩=>?_)
  subst hr
  exact wpAny_execs_nil ⟨σ3,H3,I4,qn⟩
 ·refine wpAny_passesOwn hp (cL (T.item X rfl rfl rfl hc i pins s3 σ3 H3 X.xe I3 (pX Lj) st3 go) λ r s4 ⟨u,hr,h4⟩=>?_)
  subst hr
  refine wpAny_passesOwn hp (cL h4 λ _ s5 ⟨x,H5,I5,r5,y5,yJ,Q3⟩=>?_)
  have Q4:=I5.pinned (pX Q3) (T.obj _ _ yJ)
  refine wpAny_passesOwn hp (cL (hg _ s5 σ3 H5 x u _ Q4 r5 (step x H5 y5)) λ _ s6 ⟨σ6,H6,I6,q6⟩=>?_)
  refine wpAny_passesOwn hp (cL (hb _ s6 σ6 H6 _ I6 q6) λ f s7 q7=>?_)
  have again:∀ {σ7:St} {H7:Hp},Inv X (pins++jH fp s5.heap) σ7 H7 s7->N σ7 H7->∃ m,m < n /\ ∃ i σ' H',Inv X pins σ' H' s7 /\ tn i s7.heap /\ (∀ b∈fp,H' b=none) /\ W i m σ' H':=λ {σ7 H7} I7 n7=>by
   obtain ⟨m',hm,w7⟩:=hN σ7 H7 n7
   refine ⟨m',hm,i + 1,σ7,H7,I7.jI,T.keep _ _ _ yJ λ b hb o e=>(I7.pin (b,o) (bI _ (bI _ (cW hb e)))).1,λ b hb=>?_,w7⟩
   obtain ⟨o,e,d⟩:=T.obj _ _ yJ b hb
   exact (I7.pin (b,o) (bI _ (bI _ (cW hb e)))).2.1
  cases f with
  | next=>obtain ⟨σ7,H7,I7,n7⟩:=q7; exact again I7 n7
  | cont=>obtain ⟨σ7,H7,I7,n7⟩:=q7; exact again I7 n7
  | brk=>obtain ⟨σ7,H7,I7,q7⟩:=q7; exact ⟨σ7,H7,I7.jI,q7⟩
  | ret v=>obtain ⟨x7,σ7,H7,I7,r7,q7⟩:=q7; exact ⟨x7,σ7,H7,I7.jI,r7,q7⟩
end
theorem Eb{σ:St}(Pv:Nat->St->Hp->Prop)(h0:Pv 0 σ H)(hl:∀ i σ H,i <= xs.length->Pv i σ H->bD K H a xs)
  (hs:∀ i x σ H,xs[i]? = some x->Pv i σ H->g x σ H λ σ2 H2=>tb { D with nx:=Pv (i + 1),ct:=Pv (i + 1),bk:=D.nx } σ2 H2)(hd:∀ σ H,Pv xs.length σ H->D.nx σ H):
  ∃ W:Nat->Nat->St->Hp->Prop,(∃ m,W 0 m σ H) /\ ∀ i m σ H,W i m σ H ->
   ((Iw K a).stop i H /\ D.nx σ H) \/ ((Iw K a).go i H /\ ∃ N:St->Hp->Prop,(∀ σ' H',N σ' H'->∃ m',m' < m /\ W (i + 1) m' σ' H') /\ ∀ x H',(Iw K a).DV i H x H'->g x σ H' λ σ2 H2=>tb { D with nx:=N,ct:=N,bk:=D.nx } σ2 H2):=by
 refine ⟨λ i m σ H=>m=xs.length - i /\ i <= xs.length /\ Pv i σ H,⟨xs.length,by simp,aQ _,h0⟩,?_⟩
 rintro i m σ H ⟨rfl,hi,p⟩
 have q:=hl i σ H hi p
 by_cases hlt:i < xs.length
 ·refine .inr ⟨⟨xs,xs[i],q,by simp [hlt]⟩,Pv (i + 1),λ σ' H' p'=>⟨xs.length - (i + 1),by omega,rfl,hlt,p'⟩,λ x H' y=>?_⟩
  obtain ⟨e,y⟩:=y
  subst e
  exact hs i x σ _ (y xs q) p
 ·have e:i=xs.length:=by omega
  subst e
  exact .inl ⟨⟨xs,q,az _⟩,hd σ H p⟩
theorem Iz{σ:St}(Pv:Nat->St->Hp->Prop)(h0:Pv 0 σ H)(hl:∀ i σ H,i <= xs.length->Pv i σ H->gm K H a xs)
  (hs:∀ i x σ H,xs[i]? = some x->Pv i σ H->g x σ H λ σ2 H2=>tb { D with nx:=Pv (i + 1),ct:=Pv (i + 1),bk:=D.nx } σ2 H2)(hd:∀ σ H,Pv xs.length σ H->D.nx σ H):
  ∃ W:Nat->Nat->St->Hp->Prop,(∃ m,W 0 m σ H) /\ ∀ i m σ H,W i m σ H ->
   ((Lf K a).stop i H /\ D.nx σ H) \/ ((Lf K a).go i H /\ ∃ N:St->Hp->Prop,(∀ σ' H',N σ' H'->∃ m',m' < m /\ W (i + 1) m' σ' H') /\ ∀ x H',(Lf K a).DV i H x H'->g x σ H' λ σ2 H2=>tb { D with nx:=N,ct:=N,bk:=D.nx } σ2 H2):=by
 refine ⟨λ i m σ H=>m=xs.length - i /\ i <= xs.length /\ Pv i σ H,⟨xs.length,by simp,aQ _,h0⟩,?_⟩
 rintro i m σ H ⟨rfl,hi,p⟩
 have q:=hl i σ H hi p
 by_cases hlt:i < xs.length
 ·refine .inr ⟨⟨xs,xs[i],q,by simp [hlt]⟩,Pv (i + 1),λ σ' H' p'=>⟨xs.length - (i + 1),by omega,rfl,hlt,p'⟩,λ x H' y=>?_⟩
  obtain ⟨e,y⟩:=y
  subst e
  exact hs i x σ _ (y xs q) p
 ·have e:i=xs.length:=by omega
  subst e
  exact .inl ⟨⟨xs,q,az _⟩,hd σ H p⟩
theorem B8{lo:Int}{σ:St}(Pv:Nat->St->Hp->Prop)(h0:Pv 0 σ H)
  (hs:∀ i σ H,i < n->Pv i σ H->g (.int (lo + i)) σ H λ σ2 H2=>tb { D with nx:=Pv (i + 1),ct:=Pv (i + 1),bk:=D.nx } σ2 H2)(hd:∀ σ H,Pv n σ H->D.nx σ H):
  ∃ W:Nat->Nat->St->Hp->Prop,(∃ m,W 0 m σ H) /\ ∀ i m σ H,W i m σ H ->
   ((kq lo n).stop i H /\ D.nx σ H) \/ ((kq lo n).go i H /\ ∃ N:St->Hp->Prop,(∀ σ' H',N σ' H'->∃ m',m' < m /\ W (i + 1) m' σ' H') /\ ∀ x H',(kq lo n).DV i H x H'->g x σ H' λ σ2 H2=>tb { D with nx:=N,ct:=N,bk:=D.nx } σ2 H2):=by
 refine ⟨λ i m σ H=>m=n - i /\ i <= n /\ Pv i σ H,⟨n,by simp,aQ _,h0⟩,?_⟩
 rintro i m σ H ⟨rfl,hi,p⟩
 by_cases hlt:i < n
 ·refine .inr ⟨hlt,Pv (i + 1),λ σ' H' p'=>⟨n - (i + 1),by omega,rfl,hlt,p'⟩,λ x H' y=>?_⟩
  obtain ⟨e,y⟩:=y
  subst e y
  exact hs i σ _ hlt p
 ·have e:i=n:=by omega
  subst e
  exact .inl ⟨az _,hd σ H p⟩
abbrev R2:=V->V->Hp->VK->Prop
def ju(X:Cx)(f:Value->Value->Sem Value)(r:R2):Prop :=
 ∀ (pins:List (Addr × Obj)) (s:Shared) (σ:St) (H:Hp) (x y:V) (v u:Value) (Q:VK),Inv X pins σ H s->RelV x v->RelV y u->r x y H Q ->
  wpAny (model X.prog X.w) X.A (f v u) (EP X pins σ Q) X.xe s
def WD(X:Cx)(f:Value->Sem Value)(r:V->Hp->VK->Prop):Prop :=
 ∀ (pins:List (Addr × Obj)) (s:Shared) (σ:St) (H:Hp) (x:V) (v:Value) (Q:VK),Inv X pins σ H s->RelV x v->r x H Q ->
  wpAny (model X.prog X.w) X.A (f v) (EP X pins σ Q) X.xe s
def cO(X:Cx)(f:Value)(r:List V->Hp->VK->Prop):Prop :=
 ∀ (pins:List (Addr × Obj)) (s:Shared) (σ:St) (H:Hp) (xs:List V) (us:List Value) (Q:VK),Inv X pins σ H s->Vals xs us->r xs H Q ->
  wpAny (model X.prog X.w) X.A (call f us) (EP X pins σ Q) X.xe s
def WE(X:Cx)(r:V->Hp->(Bool->Hp->Prop)->Prop):Prop :=
 ∀ (pins:List (Addr × Obj)) (s:Shared) (σ:St) (H:Hp) (x:V) (v:Value) (Q:Bool->Hp->Prop),Inv X pins σ H s->RelV x v->r x H Q ->
  wpAny (model X.prog X.w) X.A (truthy v) (TP X pins σ Q) X.xe s
def MR(r:R2)(ta tb:TE):TE:=λ σ H Q=>ta σ H λ x H1=>tb σ H1 λ y H2=>r x y H2 Q
def ZW(r:V->Hp->VK->Prop)(ta:TE):TE:=λ σ H Q=>ta σ H λ x H1=>r x H1 Q
def rI(C:Int->Int->Prop)(g:Int->Int->V):R2:=λ x y H Q=>∃ i j,x=.int i /\ y=.int j /\ C i j /\ Q (g i j) H
def IA(g:Int->Int->V):R2:=λ x y H Q=>∃ i j,x=.int i /\ y=.int j /\ Q (g i j) H
def rU(g:Int->V):V->Hp->VK->Prop:=λ x H Q=>∃ i,x=.int i /\ Q (g i) H
section
variable {X:Cx}{a b c:Expr}{ta tb tc:TE}{pos:Pos}
theorem MS(ha:PE X a ta)(hb:PE X b tb){σ:St}{R:V->V->Hp->Prop}(I:Inv X pins σ H s)
  (h:ta σ H λ x H1=>tb σ H1 λ y H2=>R x y H2){Q:Value->Shared->Prop}
  (hf:∀ v u s2 x y H2,Inv X pins σ H2 s2->RelV x v->RelV y u->R x y H2->wpAny (model X.prog X.w) X.A (f v u) Q X.xe s2):
  wpAny (model X.prog X.w) X.A (eval a X.env) (λ v s₁=>wpAny (model X.prog X.w) X.A (eval b X.env) (λ u s₂=>wpAny (model X.prog X.w) X.A (f v u) Q X.xe s₂) X.xe s₁) X.xe s:=by
 refine cL (ha pins s σ H _ I h) λ v s1 ⟨x,H1,I1,r1,q1⟩=>?_
 refine cL (hb pins s1 σ H1 _ I1 q1) λ u s2 ⟨y,H2,I2,r2,q2⟩=>?_
 exact hf v u s2 x y H2 I2 r1 r2 q2
theorem aL{op:Operator}(ho:ju X (binaryOp op) r)(ha:PE X a ta)(hb:PE X b tb):PE X (.BinOp a op b pos) (MR r ta tb):=by
 intro pins s σ H Q I h
 exact wpAny_BinOp (MS ha hb I h λ v u s2 x y H2 I2 rx ry q=>ho pins s2 σ H2 x y v u Q I2 rx ry q)
theorem Lk{op:UnaryOp}{r:V->Hp->VK->Prop}(ho:WD X (unaryOp op) r)(ha:PE X a ta):PE X (.UnaryOp op a pos) (ZW r ta):=by
 intro pins s σ H Q I h
 exact UnaryOp_ (cL (ha pins s σ H _ I h) λ v s1 ⟨x,H1,I1,r1,q1⟩=>ho pins s1 σ H1 x v Q I1 r1 q1)
theorem MT{C:Int->Int->Prop}{g:Int->Int->Int}
  (rule:∀ (i j:Int) (t u:Tok) (s:Shared) (Q:Value->Shared->Prop) (E:Value->Shared->Prop),C i j->Q (.int (g i j) s.toks) { s with toks:=s.toks + 1 } -> wpAny (model X.prog X.w) X.A (f (.int i t) (.int j u)) Q E s):
  ju X f (rI C λ i j=>.int (g i j)):=by
 intro pins s σ H x y v u Q I rx ry h
 obtain ⟨i,j,rfl,rfl,hc,q⟩:=h
 obtain ⟨t,rfl⟩:=rx
 obtain ⟨t',rfl⟩:=ry
 exact rule i j t t' s _ _ hc ⟨.int (g i j),H,I.tok _,⟨_,rfl⟩,q⟩
theorem IB{g:Int->Int->Int}
  (rule:∀ (i j:Int) (t u:Tok) (s:Shared) (Q:Value->Shared->Prop) (E:Value->Shared->Prop),Q (.int (g i j) s.toks) { s with toks:=s.toks + 1 } -> wpAny (model X.prog X.w) X.A (f (.int i t) (.int j u)) Q E s):
  ju X f (IA λ i j=>.int (g i j)):=by
 intro pins s σ H x y v u Q I rx ry h
 obtain ⟨i,j,rfl,rfl,q⟩:=h
 obtain ⟨t,rfl⟩:=rx
 obtain ⟨t',rfl⟩:=ry
 exact rule i j t t' s _ _ ⟨.int (g i j),H,I.tok _,⟨_,rfl⟩,q⟩
theorem Q5{g:Int->Int->Bool}
  (rule:∀ (i j:Int) (t u:Tok) (s:Shared) (Q:Value->Shared->Prop) (E:Value->Shared->Prop),Q (.bool (g i j)) s->wpAny (model X.prog X.w) X.A (f (.int i t) (.int j u)) Q E s):
  ju X f (IA λ i j=>.bl (g i j)):=by
 intro pins s σ H x y v u Q I rx ry h
 obtain ⟨i,j,rfl,rfl,q⟩:=h
 obtain ⟨t,rfl⟩:=rx
 obtain ⟨t',rfl⟩:=ry
 exact rule i j t t' s _ _ ⟨.bl (g i j),H,I,rfl,q⟩
def WG(i j:Int):Prop:=0 < j /\ j < 1073741824
def Q6(i j:Int):Prop:=0 <= j /\ j <= 1000000 /\ i.natAbs < 2 ^ 64
def MU(i j:Int):Prop:=(-(2 ^ 64) < i /\ i < 2 ^ 64) \/ (-(2 ^ 64) < j /\ j < 2 ^ 64)
theorem MU.ok{i j:Int}(h:MU i j):IntMulOk i j:=by
 rcases h with ⟨h1,h2⟩ | ⟨h1,h2⟩
 ·exact .of_left (intBits_le_64 h1 h2)
 ·exact .of_right (intBits_le_64 h1 h2)
theorem yK(k:Nat):(0:Int) <= 2 ^ k:=by
 rw [two_pow_cast]
 exact Int.natCast_nonneg _
theorem dj:ju X (binaryOp .Add) (IA λ i j=>.int (i + j)):=IB λ _ _ _ _ _ _ _ q=>add_int q
theorem yL:ju X (binaryOp .Sub) (IA λ i j=>.int (i - j)):=IB λ _ _ _ _ _ _ _ q=>sub_int q
theorem iM:ju X (binaryOp .Mult) (rI MU λ i j=>.int (i * j)):=MT λ _ _ _ _ _ _ _ hc q=>mul_int q hc.ok
theorem eK:ju X (binaryOp .FloorDiv) (rI WG λ i j=>.int (i / j)):=MT λ i j _ _ _ _ _ hc q=>by
 have h1:(0:Int) < j:=hc.1
 have h2:j < 1073741824:=hc.2
 exact floordiv_int (by omega) (by rw [Int.fdiv_eq_ediv_of_nonneg i (by omega)]; exact q) (.inl (PyProof.noPylong_small (by omega)))
theorem cz:ju X (binaryOp .Mod) (rI (λ _ j=>0 < j) λ i j=>.int (i % j)):=MT λ i j _ _ _ _ _ hc q=>by
 have h1:(0:Int) < j:=hc
 exact mod_int' (by omega) (by rw [Int.fmod_eq_emod_of_nonneg i (by omega)]; exact q)
theorem MV:ju X (binaryOp .Pow) (rI Q6 λ i j=>.int (i ^ j.toNat)):=MT λ _ _ _ _ _ _ _ hc q=>pow_int_small hc.1 hc.2.1 hc.2.2 q
theorem Ec:ju X (binaryOp .LShift) (rI Q6 λ i j=>.int (i * 2 ^ j.toNat)):=MT λ _ _ _ _ _ _ _ hc q=>lshift_int_small hc.1 hc.2.1 hc.2.2 q
theorem MW:ju X (binaryOp .RShift) (rI (λ _ j=>0 <= j) λ i j=>.int (i / 2 ^ j.toNat)):=MT λ i j _ _ _ _ _ hc q =>
 rshift_int hc (by rw [Int.fdiv_eq_ediv_of_nonneg i (yK _)]; exact q)
theorem Ed:ju X (binaryOp .BitAnd) (IA λ i j=>.int (Builtin.bitAnd i j)):=IB λ _ _ _ _ _ _ _ q=>and_int q
theorem Ll:ju X (binaryOp .BitOr) (IA λ i j=>.int (Builtin.bitOr i j)):=IB λ _ _ _ _ _ _ _ q=>or_int q
theorem unI{f:Value->Sem Value}{g:Int->Int}
  (rule:∀ (i:Int) (t:Tok) (s:Shared) (Q:Value->Shared->Prop) (E:Value->Shared->Prop),Q (.int (g i) s.toks) { s with toks:=s.toks + 1 } -> wpAny (model X.prog X.w) X.A (f (.int i t)) Q E s):
  WD X f (rU λ i=>.int (g i)):=by
 intro pins s σ H x v Q I rx h
 obtain ⟨i,rfl,q⟩:=h
 obtain ⟨t,rfl⟩:=rx
 exact rule i t s _ _ ⟨.int (g i),H,I.tok _,⟨_,rfl⟩,q⟩
theorem Ef:WD X (unaryOp .USub) (rU λ i=>.int (-i)):=unI λ _ _ _ _ _ q=>neg_int q
end
def Q7:V->V->Bool
 | .c6,.c6=>true | .c6,.int _=>true | .int _,.c6=>true | .c6,.bl _=>true | .bl _,.c6=>true | .c6,.str _=>true | .str _,.c6=>true
 | .int _,.int _=>true | .bl _,.bl _=>true | .str _,.str _=>true | .BX _,.BX _=>true
 | .int _,.str _=>true | .str _,.int _=>true | .bl _,.str _=>true | .str _,.bl _=>true
 | _,_=>false
def WH:R2:=λ x y H Q=>Q7 x y=true /\ Q (.bl (decide (x=y))) H
def ZX:R2:=λ x y H Q=>Q7 x y=true /\ Q (.bl (!decide (x=y))) H
theorem Ak{i j:Int}:decide (V.int i=V.int j)=(i == j):=by
 rw [Bool.eq_iff_iff]
 simp
theorem Eg{i j:Bool}:decide (V.bl i=V.bl j)=(i == j):=by
 rw [Bool.eq_iff_iff]
 simp
theorem Al{i j:Str}:decide (V.str i=V.str j)=(i == j):=by
 rw [Bool.eq_iff_iff]
 simp
theorem Am{i j:Array UInt8}:decide (V.BX i=V.BX j)=(i.toList == j.toList):=by
 rw [Bool.eq_iff_iff]
 cases i
 cases j
 simp
section
variable {X:Cx}{a b c:Expr}{ta tb tc:TE}{pos:Pos}
theorem bP{σ:St}{Q:VK}{k k':Bool}(I:Inv X pins σ H s)(q:Q (.bl k) H)(e:k=k'):EP X pins σ Q (.bool k') s:=by
 subst e
 exact ⟨.bl k,H,I,rfl,q⟩
theorem c9:ju X (compareOp .Eq) WH:=by
 intro pins s σ H x y v u Q I rx ry h
 obtain ⟨hs,q⟩:=h
 cases x with
 | c6 =>
  cases rx
  cases y with
  | c6=>cases ry; exact PySem.EqNone.eq_none_none (bP I q (by simp))
  | bl j=>cases ry; exact PySem.EqNone.eq_none_bool (bP I q (by simp))
  | int j=>obtain ⟨t',rfl⟩:=ry; exact PySem.EqNone.eq_none_int (bP I q (by simp))
  | str j=>obtain ⟨t',rfl⟩:=ry; exact PySem.EqNone.eq_none_str (bP I q (by simp))
  | _=>exact absurd (show false=true from hs) ic
 | bl i =>
  cases rx
  cases y with
  | c6=>cases ry; exact PySem.EqNone.eq_bool_none (bP I q (by simp))
  | bl j=>cases ry; exact eq_bool (bP I q Eg)
  | str j=>obtain ⟨t',rfl⟩:=ry; exact PySem.EqMixed.eq_bool_str (bP I q (by simp))
  | _=>exact absurd (show false=true from hs) ic
 | int i =>
  obtain ⟨t,rfl⟩:=rx
  cases y with
  | c6=>cases ry; exact PySem.EqNone.eq_int_none (bP I q (by simp))
  | int j=>obtain ⟨t',rfl⟩:=ry; exact eq_int (bP I q Ak)
  | str j=>obtain ⟨t',rfl⟩:=ry; exact PySem.EqMixed.eq_int_str (bP I q (by simp))
  | _=>exact absurd (show false=true from hs) ic
 | str i =>
  obtain ⟨t,rfl⟩:=rx
  cases y with
  | c6=>cases ry; exact PySem.EqNone.eq_str_none (bP I q (by simp))
  | bl j=>cases ry; exact PySem.EqMixed.eq_str_bool (bP I q (by simp))
  | int j=>obtain ⟨t',rfl⟩:=ry; exact PySem.EqMixed.eq_str_int (bP I q (by simp))
  | str j=>obtain ⟨t',rfl⟩:=ry; exact eq_str (bP I q Al)
  | _=>exact absurd (show false=true from hs) ic
 | BX i =>
  obtain ⟨t,rfl⟩:=rx
  cases y with
  | BX j=>obtain ⟨t',rfl⟩:=ry; exact PySem.W.eq_bytes (bP I q Am)
  | _=>exact absurd (show false=true from hs) ic
 | _=>cases y <;> exact absurd (show false=true from hs) ic
theorem An:ju X (compareOp .NotEq) ZX:=by
 intro pins s σ H x y v u Q I rx ry h
 obtain ⟨hs,q⟩:=h
 cases x with
 | c6 =>
  cases rx
  cases y with
  | c6=>cases ry; exact PySem.EqNone.ne_none_none (bP I q (by simp))
  | bl j=>cases ry; exact PySem.EqNone.ne_none_bool (bP I q (by simp))
  | int j=>obtain ⟨t',rfl⟩:=ry; exact PySem.EqNone.ne_none_int (bP I q (by simp))
  | str j=>obtain ⟨t',rfl⟩:=ry; exact PySem.EqNone.ne_none_str (bP I q (by simp))
  | _=>exact absurd (show false=true from hs) ic
 | bl i =>
  cases rx
  cases y with
  | c6=>cases ry; exact PySem.EqNone.ne_bool_none (bP I q (by simp))
  | bl j=>cases ry; exact ne_bool (bP I q (congrArg not Eg))
  | str j=>obtain ⟨t',rfl⟩:=ry; exact PySem.EqMixed.ne_bool_str (bP I q (by simp))
  | _=>exact absurd (show false=true from hs) ic
 | int i =>
  obtain ⟨t,rfl⟩:=rx
  cases y with
  | c6=>cases ry; exact PySem.EqNone.ne_int_none (bP I q (by simp))
  | int j=>obtain ⟨t',rfl⟩:=ry; exact ne_int (bP I q (congrArg not Ak))
  | str j=>obtain ⟨t',rfl⟩:=ry; exact PySem.EqMixed.ne_int_str (bP I q (by simp))
  | _=>exact absurd (show false=true from hs) ic
 | str i =>
  obtain ⟨t,rfl⟩:=rx
  cases y with
  | c6=>cases ry; exact PySem.EqNone.ne_str_none (bP I q (by simp))
  | bl j=>cases ry; exact PySem.EqMixed.ne_str_bool (bP I q (by simp))
  | int j=>obtain ⟨t',rfl⟩:=ry; exact PySem.EqMixed.ne_str_int (bP I q (by simp))
  | str j=>obtain ⟨t',rfl⟩:=ry; exact ne_str (bP I q (congrArg not Al))
  | _=>exact absurd (show false=true from hs) ic
 | BX i =>
  obtain ⟨t,rfl⟩:=rx
  cases y with
  | BX j=>obtain ⟨t',rfl⟩:=ry; exact PySem.W.ne_bytes (bP I q (congrArg not Am))
  | _=>exact absurd (show false=true from hs) ic
 | _=>cases y <;> exact absurd (show false=true from hs) ic
theorem lu:ju X (compareOp .Lt) (IA λ i j=>.bl (decide (i < j))):=Q5 λ _ _ _ _ _ _ _ q=>lt_int q
theorem Lm:ju X (compareOp .GtE) (IA λ i j=>.bl (decide (j <= i))):=Q5 λ _ _ _ _ _ _ _ q=>ge_int q
theorem MY:ju X (compareOp .Is) (λ x y H Q=>y=.c6 /\ Q (.bl (decide (x=.c6))) H):=by
 intro pins s σ H x y v u Q I rx ry h
 obtain ⟨rfl,q⟩:=h
 cases ry
 refine is_none_gen (bP I q ?_)
 cases x <;> first
  | (cases rx; rfl)
  | (obtain ⟨t,rfl⟩:=rx; rfl)
theorem ju.or{r':R2}(h:ju X f r)(h':ju X f r'):ju X f (λ x y H Q=>r x y H Q \/ r' x y H Q):=by
 intro pins s σ H x y v u Q I rx ry q
 rcases q with q | q
 ·exact h pins s σ H x y v u Q I rx ry q
 ·exact h' pins s σ H x y v u Q I rx ry q
theorem aU(b:Expr)(h:op ≠ .In:=by decide)(h2:op ≠ .NotIn:=by decide):behindInMarks op b=false:=by
 have e1:(op == CmpOp.In)=false:=by cases op <;> first | rfl | exact absurd rfl h
 have e2:(op == CmpOp.NotIn)=false:=by cases op <;> first | rfl | exact absurd rfl h2
 cases b <;> simp [behindInMarks,e1,e2]
theorem ji(ho:ju X (compareOp op) r)(ha:PE X a ta)(hb:PE X b tb)(hm:behindInMarks op b=false):PE X (.Compare a [op] [b] pos) (MR r ta tb):=by
 intro pins s σ H Q I h
 exact wpAny_Compare1 (MS ha hb I h λ v u s2 x y H2 I2 rx ry q=>ho pins s2 σ H2 x y v u Q I2 rx ry q) hm
def Ln(t:TE):TT:=λ σ H Q=>t σ H λ x H'=>∃ k,x=.bl k /\ Q k H'
theorem aD(ho:ju X (compareOp op) r)(ha:PE X a ta)(hb:PE X b tb)(hm:behindInMarks op b=false):PT X (.Compare a [op] [b] pos) (Ln (MR r ta tb)):=by
 intro pins s σ H Q I h
 refine wpAny_isTrue_Compare1 (cL (ha pins s σ H _ I h) λ v s1 ⟨x,H1,I1,r1,q1⟩=>cL (hb pins s1 σ H1 _ I1 q1) λ u s2 ⟨y,H2,I2,r2,q2⟩ =>
  cL (ho pins s2 σ H2 x y v u _ I2 r1 r2 q2) λ c s3 ⟨z,H3,I3,r3,k,e,q3⟩=>?_) hm
 subst e
 cases r3
 exact wpAny_truthy_bool ⟨H3,I3,q3⟩
def IC(K:aA)(x:V)(H:Hp)(k:Bool):Prop :=
 match x with
 | .c6=>k=false
 | .bl b=>k=b
 | .int i=>k=(i != 0)
 | .str y=>y.length <= sizeLine /\ k=((y.length:Int) != 0)
 | .BX y=>y.size <= sizeLine /\ k=((y.size:Int) != 0)
 | .ref p=>(∃ xs,bD K H p xs /\ k = !xs.isEmpty) \/ (∃ xs,gm K H p xs /\ k = !xs.isEmpty) \/ ∃ kvs,H p=some (.dK kvs) /\ k = !kvs.isEmpty
 | _=>False
theorem yM{κ:Type}{kvs:List (κ × V)}{vs:List (κ × Value)}(r:KV kvs vs):(!vs.isEmpty) = !kvs.isEmpty:=by
 cases r <;> rfl
theorem pY{its:List Value}(r:Vals xs its):(!its.toArray.isEmpty) = !xs.isEmpty:=by
 cases r <;> simp
theorem ny:(sizeLine:Nat) < 2 ^ 63:=by rw [sizeLine_eq]; decide
theorem MZ:WE X (λ x H Q=>∃ k,IC X.K x H k /\ Q k H):=by
 intro pins s σ H x v Q I rx h
 obtain ⟨k,e,q⟩:=h
 have hl:=ny
 have hs:sizeLine=16777216:=sizeLine_eq
 cases x with
 | c6 =>
  cases rx
  have e':k=false:=e
  subst e'
  exact truthy_none ⟨H,I,q⟩
 | bl b =>
  cases rx
  have e':k=b:=e
  subst e'
  exact wpAny_truthy_bool ⟨H,I,q⟩
 | int i =>
  obtain ⟨t,rfl⟩:=rx
  have e':k=(i != 0):=e
  subst e'
  exact PySem.P.truthy_int ⟨H,I,q⟩
 | str y =>
  obtain ⟨t,rfl⟩:=rx
  obtain ⟨hy,e'⟩:y.length <= sizeLine /\ k=((y.length:Int) != 0):=e
  subst e'
  exact PySem.P.truthy_str (by omega) ⟨H,I.tok _,q⟩
 | BX y =>
  obtain ⟨t,rfl⟩:=rx
  obtain ⟨hy,e'⟩:y.size <= sizeLine /\ k=((y.size:Int) != 0):=e
  subst e'
  exact PySem.W.truthy_bytes (by omega) ⟨H,I.tok _,q⟩
 | ref p =>
  cases rx
  have e':(∃ xs,bD X.K H p xs /\ k = !xs.isEmpty) \/ (∃ xs,gm X.K H p xs /\ k = !xs.isEmpty) \/ ∃ kvs,H p=some (.dK kvs) /\ k = !kvs.isEmpty:=e
  rcases e' with ⟨xs,hx,e'⟩ | ⟨xs,hx,e'⟩ | ⟨kvs,hx,e'⟩
  ·subst e'
   obtain ⟨its,r,pl,hz⟩:=I.list hx
   have hlen:=r.length
   exact wpAny_truthy_list pl.isList (by simp only [aV]; omega) ⟨H,I.tok _,by rw [pY r]; exact q⟩
  ·subst e'
   obtain ⟨its,r,pl,hz⟩:=I.tuple hx
   have hlen:=r.length
   exact truthy_tuple pl (by simp only [aV]; omega) ⟨H,I.tok _,by rw [pY r]; exact q⟩
  ·subst e'
   obtain ⟨hz,hS,vs,r,m⟩:kvs.length <= sizeLine /\ (p == sysModules)=false /\ ∃ vs,KV kvs vs /\ s.heap.DictOf (bW X.prog X.w) p vs:=I.hok p _ hx
   have hlen:kvs.length=vs.length:=gu r
   exact wpAny_truthy_dict hS m (by omega) ⟨H,I.tok _,by rw [yM r]; exact q⟩
 | _=>exact (show False from e).elim
theorem Eh(ha:PE X a ta)(he:∀ whole,isTrue a X.env whole=(do let v <- whole; standAt a.pos; holding [v] (truthy v))):
  PT X a (λ σ H Q=>ta σ H λ x H'=>∃ k,IC X.K x H' k /\ Q k H'):=by
 intro pins s σ H Q I h
 exact isTrue_plain (cL (ha pins s σ H _ I h) λ v s1 ⟨x,H1,I1,r1,q1⟩=>MZ pins s1 σ H1 x v Q I1 r1 q1) (he _)
theorem vals1{x:V}(r:Vals [x] us):∃ u,us=[u] /\ RelV x u:=by
 cases r with
 | cons r1 r2=>cases r2; exact ⟨_,rfl,r1⟩
theorem vals2{x y:V}(r:Vals [x,y] us):∃ u w',us=[u,w'] /\ RelV x u /\ RelV y w':=by
 cases r with
 | cons r1 r2 =>
  cases r2 with
  | cons r3 r4=>cases r4; exact ⟨_,_,rfl,r1,r3⟩
theorem B9(hc:X.calm=true):cO X (.builtin "min") (λ xs H Q=>∃ i j,xs=[.int i,.int j] /\ Q (.int (if j < i then j else i)) H):=by
 intro pins s σ H xs us Q I r h
 obtain ⟨i,j,rfl,q⟩:=h
 obtain ⟨u,w',rfl,⟨t,rfl⟩,⟨t',rfl⟩⟩:=vals2 r
 refine min_two_ints (I.ok.hd hc) λ h' tk k=>⟨_,H,I.kept k,?_,q⟩
 by_cases hj:j < i
 ·rw [if_pos hj,if_pos hj]; exact ⟨_,rfl⟩
 ·rw [if_neg hj,if_neg hj]; exact ⟨_,rfl⟩
theorem Ca:cO X (.type "int") (λ xs H Q=>(∃ i,xs=[.int i] /\ Q (.int i) H) \/ ∃ k,xs=[.bl k] /\ Q (.int (if k then 1 else 0)) H):=by
 intro pins s σ H xs us Q I r h
 rcases h with ⟨i,rfl,q⟩ | ⟨k,rfl,q⟩
 ·obtain ⟨u,rfl,t,rfl⟩:=vals1 r
  exact call_int_int ⟨.int i,H,I,⟨_,rfl⟩,q⟩
 ·obtain ⟨u,rfl,r1⟩:=vals1 r
  cases r1
  exact call_int_bool ⟨.int (if k then 1 else 0),H,I.tok _,⟨_,rfl⟩,q⟩
end
structure M0 (h:Heap) (x dx C:Addr) (mA:Str->Option Value):Prop where
 obj:h.get? x=some (PySem.W.instObj C dx)
 ns:h.Ns1 dx mA
 ne:dx ≠ x
theorem Cb{dx:Addr}{mA:Str->Option Value}(n:h.Ns1 dx mA):∃ od,h.get? dx=some od /\ ∀ name,PySem.W.lookIn name od=some (mA name):=by
 obtain ⟨o,es,ep,ho,hd,hk,_,hm⟩:=n
 refine ⟨o,ho,λ name=>?_⟩
 have e:=hm name
 unfold nsFind findBy at e
 rw [<- Array.find?_toList] at e
 unfold PySem.W.lookIn
 rw [hd]
 dsimp only
 split
 ·rename_i y q
  rw [q] at e
  exact congrArg some e
 ·rename_i q
  rw [q] at e
  have a:es.toList.any (·.refKey)=false:=by
   rw [List.any_eq_false]
   intro y hy
   obtain ⟨z,t,hkey⟩:=hk y (Array.mem_toList_iff.mp hy)
   simp [DictEntry.refKey,hkey]
  have a':¬ es.toList.any (·.refKey)=true:=by rw [a]; exact ic
  rw [if_neg a']
  exact congrArg some e
theorem M0.look{x dx C:Addr}{mA:Str->Option Value}(I:M0 h x dx C mA):∃ od,PySem.W.InstAt h x (PySem.W.instObj C dx) C (some od) /\ ∀ name,PySem.W.lookIn name od=some (mA name) :=
 let ⟨od,ho,hl⟩:=Cb I.ns
 ⟨od,⟨I.obj,rfl,rfl,ho⟩,hl⟩
section
variable {prog:Program}{w:World}{A:Around}{E:Value->Shared->Prop}{s:Shared}{K:aA}{x dx C f:Addr}{mA:Str->Option Value}{name:Str}{v:Value}
end
theorem kM.some_of{o:Option Value}(r:kM (some v) o):∃ u,o=some u /\ RelV v u:=by
 cases o with
 | none=>exact (show False from r).elim
 | some u=>exact ⟨u,rfl,r⟩
section
variable {P:Program}{w:World}{H H':Hp}{h h':Heap}{a C dx:Addr}{fs fs':List (Str × V)}
theorem ID(hok:jz P w H h)(e:H a=some (.ins C dx fs)):∃ mA,M0 h a dx C mA /\ (∀ f,kM (fs.lookup f) (mA f)) /\ PySem.Within mA (fs.map (·.1)) /\ fs.length <= 1000 /\ H dx=some (.own a):=by
 obtain ⟨d,z,ne,ob,mA,n,r,q⟩:=(show cG P w H h a (.ins C dx fs) from hok a _ e)
 exact ⟨mA,⟨ob,n,ne⟩,r,q,z,d⟩
end
structure WI (K:aA) (C:Addr):Prop where
 pg:PySem.W.plainGet K C Str.empty=true
 hd:PySem.W.hasDictIn K C=true
 po:PySem.W.plainOver K C=true
 sa:PySem.W.findIn K (.ref C) "__setattr__" = some (some (.builtin "object.__setattr__"))
theorem WI.get{C:Addr}(c:WI K C)(f:Str):PySem.W.plainGet K C f=true:=c.pg
section
variable {X:Cx}{pins:List (Addr × Obj)}{σ:St}{H:Hp}{s:Shared}{a C dx:Addr}{fs:List (Str × V)}{f:Str}{v:V}{A:Around}{E:Value->Shared->Prop}
theorem Inv.made(I:Inv X pins σ H s):Inv X pins σ (upd (upd H s.heap.objs.size (.own (s.heap.objs.size + 1))) (s.heap.objs.size + 1) (.ins C s.heap.objs.size []))
  { s with heap:=(s.heap.push PySem.W.emptyDict).push (PySem.W.instObj C s.heap.objs.size) }:=by
 have e1:(s.heap.push PySem.W.emptyDict).get? s.heap.objs.size=some PySem.W.emptyDict:=fR s.heap rfl
 have e2:((s.heap.push PySem.W.emptyDict).push (PySem.W.instObj C s.heap.objs.size)).get? (s.heap.objs.size + 1)=some (PySem.W.instObj C s.heap.objs.size):=by
  have:=fR (s.heap.push PySem.W.emptyDict) (o:=PySem.W.instObj C s.heap.objs.size) rfl
  rwa [dP] at this
 have e3:(s.heap.push PySem.W.emptyDict).Ns s.heap.objs.size (λ _=>none):=⟨PySem.W.emptyDict,#[],_,e1,rfl,(λ e he=>absurd he (by simp)),λ _=>rfl⟩
 have I1:=I.laid (a:=s.heap.objs.size) (o:=.own (s.heap.objs.size + 1)) (h':=s.heap.push PySem.W.emptyDict) (t':=s.toks) (λ b u q=>cB _ q) (az _) ⟨_,e1⟩
 refine I1.laid (a:=s.heap.objs.size + 1) (o:=.ins C s.heap.objs.size []) (t':=s.toks) (λ b u q=>cB _ q) (Nat.le_of_eq (dP _ _)) ?_
 have ne:s.heap.objs.size ≠ s.heap.objs.size + 1:=aT (kK _)
 refine ⟨by rw [aZ ne,cS],aQ _,ne,e2,λ _=>none,(Heap.Ns1.of_empty e3).at λ o q=>cB _ q,λ _=>eG,λ y hy=>absurd rfl hy⟩
end
def Q8(X:Cx)(op:Operator)(rd:V->V->Hp->VK->Prop):Prop :=
 ∀ (pins:List (Addr × Obj)) (s:Shared) (σ:St) (H:Hp) (x y:V) (u v:Value) (Q:VK),Inv X pins σ H s->RelV x u->RelV y v->rd x y H Q->wpAny (model X.prog X.w) X.A (inplaceOp op u v) (EP X pins σ Q) X.xe s
section
variable {X:Cx}{o e value:Expr}{f:Str}{pos pos' tpos:Pos}{ta tv:TE}
def Q9:V->V->Hp->VK->Prop:=λ x y H Q=>∃ i j,x=.int i /\ y=.int j /\ Q (.int (i - j)) H
theorem M1:Q8 X .Sub Q9:=by
 rintro pins s σ H x y u v Q I rx ry ⟨i,j,rfl,rfl,q⟩
 obtain ⟨t,rfl⟩:=(show ∃ t,u=Value.int i t from rx)
 obtain ⟨t',rfl⟩:=(show ∃ t',v=Value.int j t' from ry)
 exact PyProof.Rows.isub_int ⟨.int (i - j),H,I.tok _,⟨_,rfl⟩,q⟩
end
section
variable {X:Cx}{pins:List (Addr × Obj)}{σ:St}{H:Hp}{s:Shared}{A:Around}{E:Value->Shared->Prop}{Q:Value->Shared->Prop}{c:Value}{b:Bool}
inductive g7 (K:aA) (H:Hp):V->Value->Prop where
 | c6:g7 K H .c6 (.type "NoneType")
 | bl (x:Bool):g7 K H (.bl x) (.type "bool")
 | int (i:Int):g7 K H (.int i) (.type "int")
 | str (x:Str):g7 K H (.str x) (.type "str")
 | Qo (x:UInt64):g7 K H (.Qo x) (.type "float")
 | lst {a:Addr} {xs:List V} (e:H a=some (.lst xs)):g7 K H (.ref a) (.type "list")
 | uZ {a:Addr} {o:Obj} {xs:List V} (e:H a=some (.uZ o (.lst xs))):g7 K H (.ref a) (.type "list")
 | tup {a:Addr} {xs:List V} (e:H a=some (.tup xs)):g7 K H (.ref a) (.type "tuple")
 | dK {a:Addr} {kvs:List (Key × V)} (e:H a=some (.dK kvs)):g7 K H (.ref a) (.type "dict")
 | dT {a:Addr} {kvs:List (List Key × V)} (e:H a=some (.dT kvs)):g7 K H (.ref a) (.type "dict")
 | ins {a C dx:Addr} {fs:List (Str × V)} (e:H a=some (.ins C dx fs)) (cl:WI K C) (ha:PySem.W.findIn K (.ref C) "__class__" = some (some (.builtin "object.__class__")))
   (hn:PySem.W.specialIn K (.builtin "object.__class__") "__get__" = some (some (.builtin "getset_descriptor.__get__"))) (htk:PySem.W.takesIn K (.builtin "object.__class__")=some true)
   (hm:PySem.W.mroIn K C (.type "object")=some true):g7 K H (.ref a) (.ref C)
theorem Cc{x:V}{t:Value}(I:Inv X pins σ H s)(rx:RelV x u)(ty:g7 X.K H x t)(e:PySem.W.kitOne X.K t c=some b)(h:∀ tk,Q (.bool b) { s with toks:=tk }):
  wpAny (model X.prog X.w) A (call (.builtin "isinstance") [u,c]) Q E s:=by
 cases ty with
 | c6=>cases (show u=Value.none from rx); exact eF PySem.W.kitx_none I.tS eG e (λ z=>nomatch z) h
 | bl y=>cases (show u=Value.bool y from rx); exact eF PySem.W.kitx_bool I.tS eG e (λ z=>nomatch z) h
 | int i=>obtain ⟨t,q⟩:=(show ∃ t,u=Value.int i t from rx); cases q; exact eF PySem.W.kitx_int I.tS eG e (λ z=>nomatch z) h
 | str y=>obtain ⟨t,q⟩:=(show ∃ t,u=Value.str y t from rx); cases q; exact eF PySem.W.kitx_str I.tS eG e (λ z=>nomatch z) h
 | Qo y=>obtain ⟨t,q⟩:=(show ∃ t,u=Value.float y t from rx); cases q; exact eF PySem.W.kitx_float I.tS eG e (λ z=>nomatch z) h
 | @lst a xs ea =>
  cases (show u=Value.ref a from rx)
  obtain ⟨_,_,n,_,h1⟩:=(show cG X.prog X.w H s.heap a (.lst xs) from I.hok a _ ea)
  exact eF PySem.W.kitx_list I.tS ⟨_,h1,rfl⟩ e (λ z=>nomatch z) h
 | @uZ a ob xs ea =>
  cases (show u=Value.ref a from rx)
  obtain ⟨_,_,_,n,_,h1⟩:=(show cG X.prog X.w H s.heap a (.uZ ob (.lst xs)) from I.hok a _ ea)
  exact eF PySem.W.kitx_list I.tS ⟨_,h1,rfl⟩ e (λ z=>nomatch z) h
 | @tup a xs ea =>
  cases (show u=Value.ref a from rx)
  obtain ⟨_,_,_,p⟩:=(show cG X.prog X.w H s.heap a (.tup xs) from I.hok a _ ea)
  obtain ⟨o,h1,h2,_⟩:=p
  exact eF PySem.W.kitx_tuple I.tS ⟨o,h1,h2⟩ e (λ z=>nomatch z) h
 | @dK a kvs ea =>
  cases (show u=Value.ref a from rx)
  obtain ⟨_,_,vs,_,p⟩:=(show cG X.prog X.w H s.heap a (.dK kvs) from I.hok a _ ea)
  obtain ⟨o,es,ep,h1,h2,_⟩:=p
  exact eF PySem.W.kitx_dict I.tS ⟨o,h1,h2.1⟩ e (λ z=>nomatch z) h
 | @dT a kvs ea =>
  cases (show u=Value.ref a from rx)
  obtain ⟨_,_,xs,_,o,es,ep,h1,h2,_⟩:=(show cG X.prog X.w H s.heap a (.dT kvs) from I.hok a _ ea)
  exact eF PySem.W.kitx_dict I.tS ⟨o,h1,h2.1⟩ e (λ z=>nomatch z) h
 | @ins a C dx fs ea cl ha hn htk hm =>
  cases (show u=Value.ref a from rx)
  obtain ⟨mA,O,_⟩:=ID I.hok ea
  obtain ⟨od,J,_⟩:=O.look
  exact eF (PySem.W.kitx_own (cl.get _) cl.hd ha hn htk hm) I.tS J e (λ z=>nomatch z) h
end
structure f6 (k:Nat) (A:Around):Prop where
 hd:A.handled=none
 dp:A.depth + 3 * k + 5 < recursionLimit
 un:A.units + 16 * k + 200 < cLine
theorem f6.mono{j k:Nat}{A:Around}(r:f6 k A)(h:j <= k):f6 j A:=⟨r.hd,by have:=r.dp; omega,by have:=r.un; omega⟩
theorem f6.deeper(r:f6 (k + 1) A)(env:Env):f6 k (A.deeper env) :=
 ⟨r.hd,by have:=r.dp; show A.depth + 1 + 3 * k + 5 < _; omega,by have:=r.un; show A.units + 3 + 16 * k + 200 < _; omega⟩
theorem f6.in1(r:f6 (k + 1) A):f6 k A.in1 :=
 ⟨r.hd,by have:=r.dp; show A.depth + 3 * k + 5 < _; omega,by have:=r.un; show A.units + 1 + 16 * k + 200 < _; omega⟩
theorem f6.depth(r:f6 k A):A.depth < recursionLimit:=by have:=r.dp; omega
theorem f6.units(r:f6 k A):A.units + 64 < cLine:=by have:=r.un; omega
def Ra:TA:=λ _ H Q=>Q [] H
def Lo(ta:TE)(tr:TA):TA:=λ σ H Q=>ta σ H λ x H1=>tr σ H1 λ xs H2=>Q (x :: xs) H2
section
variable {X:Cx}{e:Expr}{es:List Expr}{te:TE}{t:TA}{pos:Pos}
theorem af:PA X [] Ra:=λ _ _ _ _ H Q I h=>Calls.spliced_nil ⟨[],H,I,.nil,h⟩
theorem aa(ha:PE X e te)(hr:PA X es t)(hs:starEach (e :: es) X.env=(false,eval e X.env) :: starEach es X.env:=by rfl):PA X (e :: es) (Lo te t):=by
 intro pos pins s σ H Q I h
 rw [hs]
 show wpAny _ _ (spliced ((false,eval e X.env) :: backTo pos (starEach es X.env))) _ _ s
 refine Calls.spliced_cons (cL (ha pins s σ H _ I h) λ u s1 ⟨x,H1,I1,r1,q1⟩=>?_)
 exact cL (hr pos pins s1 σ H1 _ I1 q1) λ us s2 ⟨xs,H2,I2,r2,q2⟩=>⟨x :: xs,H2,I2,.cons r1 r2,q2⟩
def Rb(t:TA):TE:=λ σ H Q=>t σ H λ xs H1=>xs.length <= sizeLine /\ ∀ p,H1 p=none->Q (.ref p) (upd H1 p (.tup xs))
def Rc(t:TA):TE:=λ σ H Q=>t σ H λ xs H1=>xs.length <= sizeLine /\ ∀ p,H1 p=none->Q (.ref p) (upd H1 p (.lst xs))
theorem cF{x1}(h:PA X es t):PE X (.Tuple es x1 pos) (Rb t):=by
 intro pins s σ H Q I hq
 refine wpAny_Tuple_spliced (cL (h pos pins s σ H _ I hq) λ us s1 ⟨xs,H1,I1,r,z,q⟩=>⟨by rw [<- r.length]; exact z,?_⟩)
 have hf:H1 s1.heap.objs.size=none:=I1.hok.fresh (az _)
 refine ⟨.ref s1.heap.objs.size,upd H1 s1.heap.objs.size (.tup xs),I1.laid (t':=s1.toks) (λ b u e=>cB _ e) (az _) ?_,rfl,q _ hf⟩
 exact ⟨z,us,r,⟨_,fR _ rfl,rfl,_,rfl⟩⟩
theorem bT(h:PA X es t):PE X (.List es pos) (Rc t):=by
 intro pins s σ H Q I hq
 refine wpAny_List_spliced (cL (h pos pins s σ H _ I hq) λ us s1 ⟨xs,H1,I1,r,z,q⟩=>⟨by rw [<- r.length]; exact z,?_⟩)
 have hf:H1 s1.heap.objs.size=none:=I1.hok.fresh (az _)
 refine ⟨.ref s1.heap.objs.size,upd H1 s1.heap.objs.size (.lst xs),I1.laid (t':=s1.toks) (λ b u e=>cB _ e) (az _) ?_,rfl,q _ hf⟩
 exact ⟨z,us,0,r,fR _ rfl⟩
end
abbrev Sp:=List V->Hp->VK->XK->Prop
abbrev Ao:=List Env->Hp->Shared->XK->Value->Shared->Prop
structure vf (P:Program) (w:World) (K:aA) (mg:Str->Option Value) (base:Heap) (A:Around) (outer:List Env) (s:Shared) (H:Hp):Prop where
 frames:A.frames=some outer
 mod:Mod K mg base
 bs:∀ b o,base.get? b=some o->s.heap.get? b=some o /\ H b=none
 DU:base.objs.size <= s.heap.objs.size
 m9:s.heap.FunFrames base outer
 K9:∀ b∈frs outer,H b=none
 hok:jz P w H s.heap
 bare:AllBare s.gens
def CE(outer:List Env)(P:Program)(w:World)(H:Hp)(s:Shared)(Q:VK)(u:Value)(s':Shared):Prop :=
 ∃ v H',s'.os=s.os /\ AllBare s'.gens /\ Un (frs outer) [] H H' s.heap s'.heap /\ jz P w H' s'.heap /\ RelV v u /\ Q v H'
def CR(CX:Ao)(outer:List Env)(P:Program)(w:World)(H:Hp)(s:Shared)(Q:VK)(E:XK)(r:Result)(s':Shared):Prop :=
 match r with
 | .ok (.ret u)=>CE outer P w H s Q u s'
 | .ok _=>False
 | .error e=>CX outer H s E e s'
structure bY (P:Program) (w:World) (K:aA) (mg:Str->Option Value) (base:Heap) (CX:Ao) (k:Nat) (f:Addr) (fd:FuncData) (ps:List Str) (sp:Sp):Prop where
 len:∀ vs H Q E,sp vs H Q E->vs.length=ps.length
 run:∀ (A:Around) (outer:List Env) (s:Shared) (H:Hp) (args:Args) (us:List Value) (vs:List V) (Q:VK) (E:XK),f6 k A->vf P w K mg base A outer s H->BindsTo s fd args (ps.zip us)->Vals vs us->sp vs H Q E ->
  codeAny (model P w) A (.call (.ref f) args) (CR CX outer P w H s Q E) s
theorem bY.mono{P:Program}{w:World}{K:aA}{mg:Str->Option Value}{base:Heap}{CX:Ao}{j k:Nat}{f:Addr}{fd:FuncData}{ps:List Str}{sp:Sp}(F:bY P w K mg base CX j f fd ps sp)(h:j <= k):
  bY P w K mg base CX k f fd ps sp:=⟨F.len,λ A outer s H args us vs Q E hr=>F.run A outer s H args us vs Q E (hr.mono h)⟩
theorem bY.imp{f:Addr}{fd:FuncData}{sp ZY:Sp}(F:bY P w K mg base CX k f fd ps sp)
  (h:∀ vs H Q E,ZY vs H Q E->sp vs H Q E):bY P w K mg base CX k f fd ps ZY :=
 ⟨λ vs H Q E q=>F.len vs H Q E (h _ _ _ _ q),λ A outer s H args us vs Q E hr he hb hv hs=>F.run A outer s H args us vs Q E hr he hb hv (h _ _ _ _ hs)⟩
theorem vf.in1{outer:List Env}(e:vf P w K mg base A outer s H):
  vf P w K mg base A.in1 outer s H:=⟨e.frames,e.mod,e.bs,e.DU,e.m9,e.K9,e.hok,e.bare⟩
section
variable {X:Cx}{pins:List (Addr × Obj)}{σ:St}{H:Hp}{s s':Shared}
theorem Inv.WJ(I:Inv X pins σ H s):vf X.prog X.w X.K X.mg X.base X.A X.stack s H :=
 ⟨I.ok.frames,I.ok.mod,I.bs,bE I.ok.DU I.sz,I.stack,I.oK,I.hok,I.bare⟩
theorem Inv.after{Q:VK}(I:Inv X pins σ H s)(h:CE X.stack X.prog X.w H s Q u s'):EP X pins σ Q u s':=by
 obtain ⟨v,H',os,bare,un,hok,r,q⟩:=h
 obtain ⟨hh,g,d,t,os'⟩:=s'
 obtain rfl:os'=s.os:=os
 exact ⟨v,H',I.call (h':=hh) (g':=g) (d':=d) (t':=t) (ch:=[]) un hok bare (λ b z=>absurd z (by simp)),r,q⟩
end
def Ei(sp:Sp)(Lp:List V)(E:XK)(t:TA):TE:=λ σ H Q=>t σ H λ vs H1=>sp (vs++Lp) H1 Q E
def Binds(K:aA)(fd:FuncData)(ps:List Str)(ds:List Value):Prop :=
 ∀ (s:Shared) (us:List Value),K.In s.heap->(us++ds).length=ps.length->BindsTo s fd ⟨us,[]⟩ (ps.zip (us++ds))
theorem Binds.all{fd:FuncData}(h:∀ us:List Value,us.length=ps.length->bindArgs fd ⟨us,[]⟩=pure (ps.zip us)):Binds K fd ps []:=λ s us _ hl=>by
 rw [dQ] at hl ⊢
 exact .of_eq (h us hl)
def Passes(CX:Ao)(X:Cx)(E:XK):Prop:=∀ (pins:List (Addr × Obj)) (σ:St) (H:Hp) (s:Shared) (e:Value) (s':Shared),Inv X pins σ H s->CX X.stack H s E e s'->X.xe e s'
section
variable {X:Cx}{CX:Ao}{k:Nat}{f C:Addr}{fd:FuncData}{ps:List Str}{sp:Sp}{Lp:List V}{ds:List Value}{E:XK}{x m:Str}{p pos apos:Pos}{e o:Expr}{es:List Expr}{ta:TE}{t:TA}
theorem M3{σ:St}{Q:VK}{vs:List V}(F:bY X.prog X.w X.K X.mg X.base CX k f fd ps sp)(hr:f6 k X.A)(hb:Binds X.K fd ps ds)(hd:Vals Lp ds)(hx:Passes CX X E)
  (I:Inv X pins σ H s)(r:Vals vs us)(h:sp (vs++Lp) H Q E):wpAny (model X.prog X.w) X.A (call (.ref f) us) (EP X pins σ Q) X.xe s:=by
 have r2:Vals (vs++Lp) (us++ds):=r.append hd
 have hl:(us++ds).length=ps.length:=by rw [<- r2.length]; exact F.len _ _ _ _ h
 refine wpAny_call (codeAny_mono (F.run X.A X.stack s H ⟨us,[]⟩ (us++ds) (vs++Lp) Q E hr I.WJ (hb s us I.tS hl) r2 h) λ r s' hq=>?_)
 cases r with
 | error e=>exact hx pins σ H s e s' I hq
 | ok fl =>
  cases fl with
  | ret u=>exact I.after hq
  | next=>exact False.elim hq
  | brk=>exact False.elim hq
  | cont=>exact False.elim hq
theorem IE(F:bY X.prog X.w X.K X.mg X.base CX k f fd ps sp)(hr:f6 k X.A)(hg:Gl X x)(hm:X.mg x=some (.ref f))(hk:PySem.W.keepIn X.K (.ref f)=true)(hb:Binds X.K fd ps ds)(hd:Vals Lp ds)(hx:Passes CX X E)
  (ha:PA X (e :: es) t)(hdb:(x == ("__debug__" : Str))=false:=by decide)(he:starEach (e :: es) X.env=(false,eval e X.env) :: starEach es X.env:=by rfl)(hpl:(backTo pos (starEach es X.env)).any (·.1)=false:=by rfl):
  PE X (.Call (.Name x p) (e :: es) [] pos) (Ei sp Lp E t):=by
 intro pins s σ H Q I h
 refine wpAny_Call_Name_kw (Aj I hg hm ?_ hdb)
 refine PySem.W.callWith_K (h₀:=X.base) I.ok.mod.Qq hk (cL (ha pos pins s σ H _ I h) λ us s1 ⟨vs,H1,I1,r,q⟩=>⟨I1.tS,?_⟩) he hpl
 exact M3 F hr hb hd hx I1 r q
end
section
variable {X:Cx}{CX:Ao}{k:Nat}{f C:Addr}{fd:FuncData}{ps ks:List Str}{sp:Sp}{E:XK}{x m:Str}{p pos apos kpos:Pos}{e o:Expr}{es:List Expr}{kws:List Keyword}{te ta:TE}{t tk:TA}{nm:Option Str}
variable {g:List Value->List Value->List Value}{gV:List V->List V->List V}
end
structure aP (N P:List Str) (sc:Scope):Prop where
 kind:sc.kind=.function
 co:sc.isCoroutine=false
 gen:sc.isGenerator=false
 nd:N.Nodup
 pre:N.take P.length=P
 par:∀ x∈P,sc.names.lookup x=some .local \/ sc.names.lookup x=some .cell
 M4:∀ y∈sc.names,y.2 ≠ .free
theorem sf{kindOf:Str->Option NameKind}{x:Str}:∀ {binds:List (Str × Value)} {m:Str->Option Value},(∀ v,(x,v) ∉ binds)->bindL kindOf binds m x=m x
 | [],_,_=>rfl
 | (n,v) :: r,m,h=>by
  unfold bindL
  rw [sf λ w hw=>h w (cV _ hw)]
  split
  ·have:x ≠ n:=by rintro rfl; exact h v gI
   simp [this]
  ·rfl
theorem sj{kindOf:Str->Option NameKind}{x:Str}:∀ {binds:List (Str × Value)} {m:Str->Option Value},(∀ v,(x,v) ∉ binds)->bindC kindOf binds m x=m x
 | [],_,_=>rfl
 | (n,v) :: r,m,h=>by
  unfold bindC
  rw [sj λ w hw=>h w (cV _ hw)]
  split
  ·rfl
  ·have:x ≠ n:=by rintro rfl; exact h v gI
   simp [this]
theorem sr{kindOf:Str->Option NameKind}{x:Str}{v:Value}:∀ {P:List Str} {vs:List Value} {i:Nat} {m:Str->Option Value},P.Nodup->P[i]? = some x->vs[i]? = some v->kindOf x=some .local ->
  bindL kindOf (P.zip vs) m x=some v
 | [],_,_,_,_,h,_,_=>by simp at h
 | _ :: _,[],_,_,_,_,h,_=>by simp at h
 | p :: P,w :: vs,0,m,nd,h1,h2,hk=>by
  simp at h1 h2; subst h1; subst h2
  show bindL kindOf ((p,w) :: P.zip vs) m p=_
  unfold bindL
  rw [sf λ v hv=>(fZ.mp nd).1 (List.of_mem_zip hv).1,if_pos hk]
  simp
 | p :: P,w :: vs,i + 1,m,nd,h1,h2,hk=>by
  show bindL kindOf ((p,w) :: P.zip vs) m x=_
  unfold bindL
  exact sr (i:=i) (fZ.mp nd).2 (by simpa using h1) (by simpa using h2) hk
theorem su{kindOf:Str->Option NameKind}{x:Str}{v:Value}:∀ {P:List Str} {vs:List Value} {i:Nat} {m:Str->Option Value},P.Nodup->P[i]? = some x->vs[i]? = some v->kindOf x ≠ some .local ->
  bindC kindOf (P.zip vs) m x=some v
 | [],_,_,_,_,h,_,_=>by simp at h
 | _ :: _,[],_,_,_,_,h,_=>by simp at h
 | p :: P,w :: vs,0,m,nd,h1,h2,hk=>by
  simp at h1 h2; subst h1; subst h2
  show bindC kindOf ((p,w) :: P.zip vs) m p=_
  unfold bindC
  rw [sj λ v hv=>(fZ.mp nd).1 (List.of_mem_zip hv).1,if_neg hk]
  simp
 | p :: P,w :: vs,i + 1,m,nd,h1,h2,hk=>by
  show bindC kindOf ((p,w) :: P.zip vs) m x=_
  unfold bindC
  exact su (i:=i) (fZ.mp nd).2 (by simpa using h1) (by simpa using h2) hk
def start(N:List Str)(vs:List V):St:=vs.map some++List.replicate (N.length - vs.length) none
def tW(CX:Ao)(P:Program)(w:World)(K:aA)(mg:Str->Option Value)(base:Heap)(N:List Str)(qual:Str)(scope:Scope)(f:Addr)(cd:Value)(A:Around)(outer:List Env)(s:Shared)(H:Hp)(E:XK):Cx where
 prog:=P
 w:=w
 K:=K
 mg:=mg
 base:=base
 A:=A.deeper (envOfC qual scope s.heap.objs.size f cd)
 N:=N
 s₀:=s
 H₀:=H
 env:=envOfC qual scope s.heap.objs.size f cd
 outer:=outer
 stack:=envOfC qual scope s.heap.objs.size f cd :: outer
 ex:=[]
 calm:=true
 fn:=λ _=>true
 pn:=[]
 xe:=λ e s'=>wpAny (model P w) (A.deeper (envOfC qual scope s.heap.objs.size f cd)) (leaving (envOfC qual scope s.heap.objs.size f cd) e) (λ _ s''=>CX outer H s E e s'') (λ e' s''=>CX outer H s E e' s'') s'
theorem vg{sc:Scope}(h:sc.names.lookup x=some .cell):∃ c,(cellsFrom n sc.names []).lookup x=some c:=by
 have q:=PySem.W.cellsFrom_some sc.names n [] (.inl h)
 exact Option.isSome_iff_exists.mp q
theorem Cd{qual:Str}{scope:Scope}{f:Addr}{cd:Value}{outer:List Env}{s1:Shared}{E:XK}{vs:List V}
  (S:aP N ps scope)(hd:A.handled=none)(e0:vf P w K mg base A outer s H)(hl:vs.length=ps.length)(r:Vals vs us)
  (x:InCallC s s.heap.objs.size (bindL (envOfC qual scope s.heap.objs.size f cd).kindOf (ps.zip us) λ _=>none) (cellsFrom (s.heap.objs.size + 1) scope.names []) (bindC (envOfC qual scope s.heap.objs.size f cd).kindOf (ps.zip us) λ _=>none) s1):
  Inv (tW CX P w K mg base N qual scope f cd A outer s H E) [] (start N vs) H s1:=by
 have hpl:ps.length <= N.length:=by have:=congrArg List.length S.pre; rw [cu] at this; omega
 obtain ⟨h1,tk,rfl,hk⟩:=x.done
 have Rf:∀ b:Addr,b ∉ (tW CX P w K mg base N qual scope f cd A outer s H E).ex:=λ b z=>absurd (show b∈([]:List Addr) from z) (by simp)
 refine ⟨⟨e0.mod,S.kind,rfl,rfl,az _,λ y z c h1 h2=>?_,λ y hy=>?_,λ y c _ h=>?_,λ _=>hd,Around.frames_deeper e0.frames,.inr ⟨rfl,rfl⟩,λ b z=>absurd z (Rf b),e0.bs,e0.DU,λ b _ _=>Rf b,λ b z=>absurd z (Rf b),e0.m9,e0.K9⟩,
  rfl,e0.bare,Un.kept hk,⟨_,x.toInCall.ns,λ i y v h1 h2 h3=>?_⟩,λ y c h=>⟨_,x.cell y c h⟩,e0.hok.fresh (az _),λ y c h=>?_,λ p hp=>absurd (show p∈([]:List (Addr × Obj)) from hp) (by simp),e0.hok.kept hk,?_⟩
 ·exact name_of_addr x.apart (fG h1) (fG h2)
 ·have hy:scope.names.lookup y=some .cell \/ scope.names.lookup y=some .free:=hy
  rcases hy with hy | hy
  ·exact vg hy
  ·exact absurd rfl (S.M4 _ (fG hy))
 ·exact gK (x.above y c (fG h))
 ·have hi:i < vs.length:=by
   unfold start at h2
   by_cases hi:i < vs.length
   ·exact hi
   ·rw [tR (by simpa using hi)] at h2
    rw [List.getElem?_replicate] at h2
    split at h2 <;> cases h2
  have ha:vs[i]? = some v:=by
   unfold start at h2
   rw [List.getElem?_append_left (by simpa using hi),aY] at h2
   cases e:vs[i]? with
   | none=>rw [e] at h2; cases h2
   | some a=>rw [e] at h2; cases h2; rfl
  obtain ⟨u,hu,rv⟩:=r.get ha
  have hp:ps[i]? = some y:=by
   rw [<- S.pre,pO (by omega)]; exact h1
  have ZZ:ps.Nodup:=by rw [<- S.pre]; exact S.nd.sublist (List.take_sublist _ _)
  refine ⟨u,rv,?_⟩
  rcases S.par y (fS hp) with k | k
  ·exact .inl ⟨k,sr ZZ hp hu k⟩
  ·obtain ⟨c,e⟩:=vg (n:=s.heap.objs.size + 1) k
   refine .inr ⟨.inl k,c,e,?_⟩
   have q:=x.cell y c e
   rw [su ZZ hp hu (by show scope.names.lookup y ≠ _; rw [k]; decide)] at q
   exact q
 ·exact e0.hok.fresh (gK (x.above y c (fG h)))
 ·unfold start
  show _=N.length
  rw [bh,au,List.length_replicate]
  omega
theorem Ej{f:Addr}{name qual:Str}{params:Arguments}{scope:Scope}{dV kV doc pm cdv ct oc:Value}{an od:Option Addr}
  {osl:Array (Option Value)}{sp:Sp}(lk:K.lookup f=some ⟨oc,od,.func (PySem.W.fnOf name qual params body scope dV kV doc pm an cdv ct),osl⟩)(hcd:PySem.W.codeIn K cdv qual=true)(S:aP N ps scope)
  (len:∀ vs H Q E,sp vs H Q E->vs.length=ps.length)
  (hbody:∀ (A:Around) (outer:List Env) (s:Shared) (H:Hp) (vs:List V) (Q:VK) (E:XK),f6 k (A.deeper (envOfC qual scope s.heap.objs.size f cdv))->sp vs H Q E ->
   ∃ t,rM (tW CX P w K mg base N qual scope f cdv A outer s H E) body t /\ t { nx:=λ _ H'=>Q .c6 H',rt:=Q } (start N vs) H):
  bY P w K mg base CX (k + 1) f (PySem.W.fnOf name qual params body scope dV kV doc pm an cdv ct) ps sp:=by
 refine ⟨len,λ A outer s H args us vs Q E hr e0 hb r u5=>?_⟩
 have hl:=len _ _ _ _ u5
 have KX:K.In s.heap:=e0.mod.Qq.keeps λ b o e=>(e0.bs b o e).1
 have lim:s.heap.NoLimit:=e0.mod.nolimit.keeps λ b o e=>(e0.bs b o e).1
 have hkind:∀ y∈ps.zip us,scope.names.lookup y.1=some .local \/ (scope.names.lookup y.1=some .cell /\ ((cellsFrom (s.heap.objs.size + 1) scope.names []).lookup y.1).isSome=true):=λ ⟨n,v⟩ hy=>by
  rcases S.par n (List.of_mem_zip hy).1 with q | q
  ·exact .inl q
  ·exact .inr ⟨q,PySem.W.cellsFrom_some _ _ _ (.inl q)⟩
 refine codeAny_call_function hr.depth (KX _ _ lk) rfl S.co S.gen rfl (PySem.W.codeRec_of KX hcd) (hb _ _ _ _ ?_)
 refine wpAny_newFunctionEnv_cells S.kind hkind λ env he s1 x=>?_
 subst he
 refine ⟨lim.keeps x.toInCall.keep,codeAny_func ?_⟩
 obtain ⟨t,ht,hq⟩:=hbody A outer s H vs Q E (hr.deeper _) u5
 have I:Inv (tW CX P w K mg base N qual scope f cdv A outer s H E) [] (start N vs) H s1:=Cd S hr.hd e0 hl r x
 refine wpAny_mono (ht [] s1 (start N vs) H _ I hq) (λ fl s' hs=>?_) λ e s' hs=>hs
 have fin:∀ {σ':St} {H':Hp} {v:V} {u:Value},Inv (tW CX P w K mg base N qual scope f cdv A outer s H E) [] σ' H' s'->RelV v u->Q v H'->CE outer P w H s Q u s' :=
  λ {σ' H' v u} J rv q=>⟨v,H',J.os,J.bare,J.base,J.hok,rv,q⟩
 cases fl with
 | ret u =>
  obtain ⟨v,σ',H',J,rv,q⟩:=hs
  exact fin J rv q
 | next =>
  obtain ⟨σ',H',J,q⟩:=hs
  exact fin (v:=V.c6) (u:=Value.none) J rfl q
 | brk =>
  obtain ⟨_,_,_,q⟩:=hs
  exact False.elim q
 | cont =>
  obtain ⟨_,_,_,q⟩:=hs
  exact False.elim q
section
variable {X:Cx}{x:Str}{p pos:Pos}{e:Expr}{es:List Expr}{t:TA}{id T:String}{r:List V->Hp->VK->Prop}
def WK(r:List V->Hp->VK->Prop)(t:TA):TE:=λ σ H Q=>t σ H λ vs H1=>r vs H1 Q
theorem bz(hc:cO X (.builtin id) r)(hg:Gl X x)(hm:X.mg x=none)(hv:bootBuiltins x=some (.builtin id))(ha:PA X (e :: es) t)(hn:x ≠ "__name__" := by decide)(hdb:(x == ("__debug__" : Str))=false:=by decide)
  (he:starEach (e :: es) X.env=(false,eval e X.env) :: starEach es X.env:=by rfl)(hpl:(backTo pos (starEach es X.env)).any (·.1)=false:=by rfl):PE X (.Call (.Name x p) (e :: es) [] pos) (WK r t):=by
 intro pins s σ H Q I h
 refine wpAny_Call_Name_kw (gO I hg hm hv ?_ hn hdb)
 exact PyProof.Rows.callWith_builtin1 (cL (ha pos pins s σ H _ I h) λ us s1 ⟨vs,H1,I1,r1,q1⟩=>hc pins s1 σ H1 vs us Q I1 r1 q1) he hpl
theorem c7(hc:cO X (.type T) r)(hg:Gl X x)(hm:X.mg x=none)(hv:bootBuiltins x=some (.type T))(ha:PA X (e :: es) t)(hn:x ≠ "__name__" := by decide)(hdb:(x == ("__debug__" : Str))=false:=by decide)
  (he:starEach (e :: es) X.env=(false,eval e X.env) :: starEach es X.env:=by rfl)(hpl:(backTo pos (starEach es X.env)).any (·.1)=false:=by rfl):PE X (.Call (.Name x p) (e :: es) [] pos) (WK r t):=by
 intro pins s σ H Q I h
 refine wpAny_Call_Name_kw (gO I hg hm hv ?_ hn hdb)
 exact jg (cL (ha pos pins s σ H _ I h) λ us s1 ⟨vs,H1,I1,r1,q1⟩=>hc pins s1 σ H1 vs us Q I1 r1 q1) he hpl
end
end L2
namespace HT
open PySem PyProof.Rows
section
open PySem.SeqAt
open PySem.AutoSeq1 (wpAny_loadPart')
open PySem.MeetsSeq PySem.MeetsSeq2 PySem.MeetsSeq3
end
section
variable {prog:Program}{w:World}{A:Around}{E:Value->Shared->Prop}{s:Shared}
def fT(n d:Nat):Option Int->Nat
 | none=>d
 | some v=>if v < 0 then (v + (n:Int)).toNat else min v.toNat n
theorem Ek(n d:Nat):fT n d none=d:=rfl
theorem IF(n d k:Nat):fT n d (some (k:Int))=min k n:=by
 show (if (k:Int) < 0 then ((k:Int) + (n:Int)).toNat else min (k:Int).toNat n)=min k n
 rw [if_neg (by omega),gE]
theorem M5(n d:Nat)(hd:d <= n)(o:Option Int):fT n d o <= n:=by
 cases o with
 | none=>exact hd
 | some v =>
  show (if v < 0 then (v + (n:Int)).toNat else min v.toNat n) <= n
  by_cases hv:v < 0
  ·rw [if_pos hv]; omega
  ·rw [if_neg hv]; exact Nat.min_le_right _ _
theorem Aq(v:Int)(n d:Nat):(if v < 0 then max (v + (n:Int)) 0 else min v (n:Int))=((fT n d (some v):Nat):Int):=by
 show (if v < 0 then max (v + (n:Int)) 0 else min v (n:Int))=(((if v < 0 then (v + (n:Int)).toNat else min v.toNat n):Nat):Int)
 by_cases hv:v < 0
 ·simp only [if_pos hv]; omega
 ·simp only [if_neg hv]; omega
theorem yN(lo hi:Option Int)(n:Nat):Builtin.Slice.sliceAdjust lo hi 1 (n:Int)=(((fT n 0 lo:Nat):Int),((fT n n hi:Nat):Int)):=by
 have h1:¬ ((1:Int) < 0):=by omega
 unfold Builtin.Slice.sliceAdjust
 simp only [h1,if_false]
 refine Prod.ext ?_ ?_
 ·cases lo with
  | none=>rfl
  | some v=>exact Aq v n 0
 ·cases hi with
  | none=>rfl
  | some v=>exact Aq v n n
theorem yO(i j:Nat):Builtin.Slice.slicePlaces (i:Int) (j:Int) 1=j - i:=by
 unfold Builtin.Slice.slicePlaces
 have h1:(1:Int) > 0:=by omega
 simp only [h1,if_true,Int.ediv_one]
 split <;> omega
theorem pZ{v:Value}{o:Option Int}{Q:Option Int->Shared->Prop}(p:IsPart v o)(h:Q o s):wpAny (model prog w) A (Builtin.Slice.slicePartIndex v) Q E s:=by
 cases p with
 | none=>exact slicePart_none h
 | int i t=>exact slicePart_int h
theorem nA{sl:Addr}{vl vu:Value}{lo hi:Option Int}{n:Nat}{Q:Int × Int × Nat->Shared->Prop}(hs:s.heap.IsSliceOf sl vl vu .none)(pl:IsPart vl lo)(pu:IsPart vu hi)
  (h:Q (((fT n 0 lo:Nat):Int),1,fT n n hi - fT n 0 lo) s):wpAny (model prog w) A (Builtin.Slice.sliceApplied (.ref sl) (pure (n:Int))) Q E s:=by
 obtain ⟨os,hos,hcs,hds⟩:=id hs
 unfold Builtin.Slice.sliceApplied Builtin.Slice.sliceFields
 refine ao (ao (wpAny_field hos hds (x:=vl) rfl (ao (wpAny_field hos hds (x:=vu) rfl (ao (wpAny_field hos hds (x:=.none) rfl (aH ?_)))))))
 refine ao (slicePart_none ?_)
 show wpAny _ _ (if ((1:Int) == 0)=true then _ else _) _ _ s
 rw [if_neg (by decide)]
 refine ao (pZ pl (ao (pZ pu (ao (aH ?_)))))
 show wpAny _ _ (match Builtin.Slice.sliceAdjust lo hi 1 (n:Int) with | (lo,hi)=>pure (lo,(1:Int),Builtin.Slice.slicePlaces lo hi 1)) _ _ s
 rw [yN lo hi n]
 show wpAny _ _ (pure (((fT n 0 lo:Nat):Int),(1:Int),Builtin.Slice.slicePlaces ((fT n 0 lo:Nat):Int) ((fT n n hi:Nat):Int) 1)) _ _ s
 rw [yO]
 exact aH h
theorem El(xs:Array Value)(i k:Nat):((List.range k).filterMap λ (m:Nat)=>xs[((i:Int) + (m:Int) * 1).toNat]?).toArray=((xs.toList.drop i).take k).toArray:=by
 have e:(λ (m:Nat)=>xs[((i:Int) + (m:Int) * 1).toNat]?)=λ m=>xs[i + m]?:=by
  funext m
  have:((i:Int) + (m:Int) * 1).toNat=i + m:=by omega
  rw [this]
 rw [e]
 have:=pick_run xs i k
 rw [List.filterMap_map] at this
 have e2:((λ x=>xs[x]?) ∘ λ x=>i + x)=λ m=>xs[i + m]?:=rfl
 rw [e2] at this
 rw [this]
theorem ly{t sl:Addr}{items:Array Value}{vl vu:Value}{lo hi:Option Int}{Q:Value->Shared->Prop}(ht:IsTup s.heap t items)(hs:s.heap.IsSliceOf sl vl vu .none)(pl:IsPart vl lo)(pu:IsPart vu hi)
  (hw:¬ (fT items.size 0 lo=0 /\ fT items.size items.size hi=items.size))
  (h:Q (.ref s.heap.objs.size) { s with heap:=s.heap.push { cls:=.type "tuple", data:=.seq ((items.toList.drop (fT items.size 0 lo)).take (fT items.size items.size hi - fT items.size 0 lo)).toArray } })
  (hsz:items.size <= sizeLine):wpAny (model prog w) A (getItem (.ref t) (.ref sl)) Q E s:=by
 have Ar:sizeOk (.seq ((items.toList.drop (fT items.size 0 lo)).take (fT items.size items.size hi - fT items.size 0 lo)).toArray):=by
  show ((items.toList.drop (fT items.size 0 lo)).take (fT items.size items.size hi - fT items.size 0 lo)).toArray.size <= sizeLine
  rw [aV,cu,List.length_drop,cC]
  omega
 have hj:fT items.size items.size hi <= items.size:=M5 _ _ (az _) hi
 obtain ⟨os,hos,hcs,hds⟩:=id hs
 have hTs:s.TypeIs (.ref sl) "slice" := ⟨os,hos,hcs⟩
 unfold getItem
 try with_reducible refine wpAny_holding ?_
 first | refine ao (aH ?_) | skip
 refine ao (wpAny_sequenceKey ht.typeIs (by decide) ?_)
 refine ao (wpAny_callSpecial?_slot (name:=Str.ofString "__getitem__") ht.typeIs PyProof.Rows.slot_tuple_getitem
  (wpAny_call_entry PyProof.Rows.slot_tuple_getitem ht.typeIs entry_tuple_getitem ?_ (args_tuple_getitem _ _)))
 show wpAny _ _ (Builtin.Tuple.tupleItemsOf (.ref t) >>= _) _ _ s
 refine ao (tupleItemsOf_ ht ?_)
 refine ao (wpAny_typeOf hTs ?_)
 rw [if_pos (by decide)]
 refine ao (nA hs pl pu ?_)
 have hno:¬ ((((fT items.size 0 lo:Nat):Int) == 0 && (1:Int) == 1 && (fT items.size items.size hi - fT items.size 0 lo) == items.size)=true):=by
  intro q
  rw [nU,nU] at q
  have q1:((fT items.size 0 lo:Nat):Int)=0:=eq_of_beq q.1.1
  have q2:fT items.size items.size hi - fT items.size 0 lo=items.size:=eq_of_beq q.2
  exact hw ⟨by omega,by omega⟩
 show wpAny _ _ (if (((fT items.size 0 lo:Nat):Int) == 0 && (1:Int) == 1 && (fT items.size items.size hi - fT items.size 0 lo) == items.size)=true then _ else _) _ _ s
 rw [if_neg hno,El]
 first
  | exact ao (m:=Builtin.Tuple.tupleExact _) (wpAny_newObj_type (aH ⟨_,rfl,aH h⟩) Ar)
  | exact ao (m:=Builtin.Tuple.tupleExact _) (wpAny_newObj_type (ao (aH (aH ⟨_,rfl,aH h⟩))) Ar)
  | exact ao (ao (m:=Builtin.Tuple.tupleExact _) (wpAny_newObj_type (aH (aH ⟨_,rfl,aH h⟩)) Ar))
  | exact ao (ao (m:=Builtin.Tuple.tupleExact _) (wpAny_newObj_type (aH ⟨_,rfl,aH h⟩) Ar))
end
end HT
namespace L2
open PySem PySem.Spec PyProof.Rows
variable {n t':Nat}{H H':Hp}{s:Shared}{xs:List V}{its us:List Value}{y x:V}{u:Value}{P:Program}{w:World}{kvs:List (List Key × V)}{b:Addr}
abbrev TO:=St->Hp->(Option Int->Hp->Prop)->Prop
def PO(X:Cx)(e:Option Expr)(t:TO):Prop :=
 ∀ (pins:List (Addr × Obj)) (s:Shared) (σ:St) (H:Hp) (Q:Option Int->Hp->Prop),Inv X pins σ H s->t σ H Q ->
  wpAny (model X.prog X.w) X.A (evalPart e X.env) (λ u s'=>∃ o H',Inv X pins σ H' s' /\ IsPart u o /\ Q o H') X.xe s
def As:TO:=λ _ H Q=>Q none H
def Lq(t:TE):TO:=λ σ H Q=>t σ H λ x H1=>∃ i,x=.int i /\ Q (some i) H1
section
variable {X:Cx}{e:Expr}{te:TE}{lo hi:Option Expr}{tl th:TO}{pos p2:Pos}
theorem oM:PO X none As:=by
 intro pins s σ H Q I h
 rw [evalPart_none]
 exact aH ⟨none,H,I,.none,h⟩
theorem oN(h:PE X e te):PO X (some e) (Lq te):=by
 intro pins s σ H Q I hw
 rw [evalPart_some]
 refine cL (h pins s σ H _ I hw) λ u s1 ⟨x,H1,I1,r1,q1⟩=>?_
 obtain ⟨i,rfl,q⟩:=q1
 obtain ⟨t,rfl⟩:=r1
 exact ⟨some i,H1,I1,.int i t,q⟩
def M6(X:Cx)(r:V->Option Int->Option Int->Hp->VK->Prop):Prop :=
 ∀ (pins:List (Addr × Obj)) (s:Shared) (σ:St) (H:Hp) (x:V) (v vl vu:Value) (lo hi:Option Int) (sl:Addr) (Q:VK),Inv X pins σ H s->RelV x v->s.heap.IsSliceOf sl vl vu .none->IsPart vl lo->IsPart vu hi->r x lo hi H Q ->
  ∃ T id,typeLookup (.type T) "__getitem__" = pure (some (.builtin id)) /\ s.TypeIs v T /\ wpAny (model X.prog X.w) X.A (getItem v (.ref sl)) (EP X pins σ Q) X.xe s
theorem M6.or{r r':V->Option Int->Option Int->Hp->VK->Prop}(h:M6 X r)(h':M6 X r'):M6 X (λ x lo hi H Q=>r x lo hi H Q \/ r' x lo hi H Q):=by
 intro pins s σ H x v vl vu lo hi sl Q I rx hs pl pu q
 rcases q with q | q
 ·exact h pins s σ H x v vl vu lo hi sl Q I rx hs pl pu q
 ·exact h' pins s σ H x v vl vu lo hi sl Q I rx hs pl pu q
def Z0(r:V->Option Int->Option Int->Hp->VK->Prop)(te:TE)(tl th:TO):TE:=λ σ H Q=>te σ H λ x H1=>tl σ H1 λ l H2=>th σ H2 λ u H3=>r x l u H3 Q
theorem lz{r:V->Option Int->Option Int->Hp->VK->Prop}(hr:M6 X r)(he:PE X e te)(hl:PO X lo tl)(hu:PO X hi th):PE X (.Subscript e (.Slice lo hi none p2) pos) (Z0 r te tl th):=by
 intro pins s σ H Q I h
 refine Subscript_ (cL (he pins s σ H _ I h) λ v s1 ⟨x,H1,I1,r1,q1⟩=>?_)
 refine wpAny_Slice (cL (hl pins s1 σ H1 _ I1 q1) λ vl s2 ⟨l,H2,I2,pl,q2⟩=>cL (hu pins s2 σ H2 _ I2 q2) λ vu s3 ⟨u,H3,I3,pu,q3⟩=>?_)
 rw [evalPart_none]
 refine aH ?_
 have I4:Inv X pins σ H3 { s3 with heap:=s3.heap.push { cls:=.type "slice", data:=.fields #[vl,vu,.none] } }:=I3.kept (t':=s3.toks) λ b ob q=>cB _ q
 obtain ⟨T,id,hT,ht,hg⟩:=hr pins { s3 with heap:=s3.heap.push { cls:=.type "slice", data:=.fields #[vl,vu,.none] } } σ H3 x v vl vu l u s3.heap.objs.size Q I4 r1 (Heap.IsSliceOf.new ..) pl pu q3
 show wpAny (model X.prog X.w) X.A (subscriptTail e (.Slice lo hi none p2) v (.ref s3.heap.objs.size)) (EP X pins σ Q) X.xe { s3 with heap:=s3.heap.push { cls:=.type "slice", data:=.fields #[vl,vu,.none] } }
 exact tail_any (ops:=[.ref s3.heap.objs.size,v]) ht hT hg (by with_unfolding_all rfl)
def kO(xs:List V)(lo hi:Option Int):List V:=(xs.drop (HT.fT xs.length 0 lo)).take (HT.fT xs.length xs.length hi - HT.fT xs.length 0 lo)
theorem jJ(xs:List V)(lo hi:Option Int):(kO xs lo hi).length <= xs.length:=by
 unfold kO
 rw [cu,List.length_drop]
 omega
def Rg(K:aA):V->Option Int->Option Int->Hp->VK->Prop:=λ x lo hi H Q=>∃ a xs,x=.ref a /\ gm K H a xs /\
 ¬ (HT.fT xs.length 0 lo=0 /\ HT.fT xs.length xs.length hi=xs.length) /\ ∀ p,H p=none->Q (.ref p) (upd H p (.tup (kO xs lo hi)))
theorem M7:M6 X (Rg X.K):=by
 intro pins s σ H x v vl vu lo hi sl Q I rx hs pl pu h
 obtain ⟨a,xs,rfl,hx,hw,q⟩:=h
 cases rx
 obtain ⟨its,r,ht,hz⟩:=I.tuple hx
 have hlen:its.toArray.size=xs.length:=by rw [aV]; exact r.length.symm
 refine ⟨"tuple", _,PyProof.Rows.slot_tuple_getitem.lookup,ht.typeIs,?_⟩
 refine HT.ly ht hs pl pu (by rw [hlen]; exact hw) ?_ (by rw [hlen]; exact hz)
 rw [hlen]
 refine ⟨.ref s.heap.objs.size,_,I.laid (t':=s.toks) (o:=.tup (kO xs lo hi)) (λ b ob q=>cB _ q) (az _) ?_,rfl,q _ (I.hok.fresh (az _))⟩
 exact ⟨bE (jJ xs lo hi) hz,_,(r.drop (HT.fT xs.length 0 lo)).take (HT.fT xs.length xs.length hi - HT.fT xs.length 0 lo),IsTup.new _ _⟩
end
def Em(n:Nat)(i:Int):Option Nat:=if 0 <= i then (if i < n then some i.toNat else none) else if -(n:Int) <= i then some (i + n).toNat else none
def rN{α:Type}(xs:List α)(i:Int):Option α:=(Em xs.length i).bind λ j=>xs[j]?
theorem Au{i:Int}{j:Nat}(h:Em n i=some j):seqIndex? i n=some j /\ j < n /\ -(n:Int) <= i /\ i < n:=by
 unfold Em at h
 by_cases h0:0 <= i
 ·rw [if_pos h0] at h
  by_cases h1:i < n
  ·rw [if_pos h1] at h
   have e:i.toNat=j:=Option.some.inj h
   exact ⟨by rw [seqIndex_of h0 h1,e],by omega,by omega,h1⟩
  ·rw [if_neg h1] at h; cases h
 ·rw [if_neg h0] at h
  by_cases h1:-(n:Int) <= i
  ·rw [if_pos h1] at h
   have e:(i + n).toNat=j:=Option.some.inj h
   exact ⟨by rw [seqIndex_neg (by omega) h1,e],by omega,h1,by omega⟩
  ·rw [if_neg h1] at h; cases h
theorem tX{α:Type}{xs:List α}{i:Int}{v:α}(h:rN xs i=some v):∃ j,seqIndex? i xs.length=some j /\ xs[j]? = some v /\ j < xs.length /\ -(xs.length:Int) <= i /\ i < xs.length:=by
 unfold rN at h
 cases e:Em xs.length i with
 | none=>rw [e] at h; cases h
 | some j =>
  rw [e] at h
  obtain ⟨h1,h2,h3,h4⟩:=Au e
  exact ⟨j,h1,h,h2,h3,h4⟩
theorem cJ{α:Type}{xs:List α}{j:Nat}{v:α}(h:xs[j]? = some v):rN xs (j:Int)=some v:=by
 have hj:j < xs.length:=(fu h).1
 have e:Em xs.length (j:Int)=some j:=by
  unfold Em
  rw [if_pos (by omega),if_pos (by omega)]; simp
 unfold rN; rw [e]; exact h
def IG(b:Expr):Prop:=∀ o i,subscripted b false o i=operate [o,i] (getItem o i)
def HY(X:Cx)(r:R2):Prop :=
 ∀ (value slice:Expr) (pins:List (Addr × Obj)) (s:Shared) (σ:St) (H:Hp) (x y:V) (v u:Value) (Q:VK),Inv X pins σ H s->RelV x v->RelV y u->r x y H Q ->
  subscripted slice false v u=operate [v,u] (getItem v u)->wpAny (model X.prog X.w) X.A (subscriptTail value slice v u) (EP X pins σ Q) X.xe s
def Qt(X:Cx)(id:String)(r:V->List V->Hp->VK->Prop):Prop :=
 ∀ (pins:List (Addr × Obj)) (s:Shared) (σ:St) (H:Hp) (x:V) (xs:List V) (v:Value) (us:List Value) (Q:VK),Inv X pins σ H s->RelV x v->Vals xs us->r x xs H Q ->
  wpAny (model X.prog X.w) X.A (call (.builtin id) (v :: us)) (EP X pins σ Q) X.xe s
section
variable {X:Cx}{a b:Expr}{ta tb:TE}{pos:Pos}
theorem HY.or{r r':R2}(h:HY X r)(h':HY X r'):HY X (λ x y H Q=>r x y H Q \/ r' x y H Q):=by
 intro value slice pins s σ H x y v u Q I rx ry q hs
 rcases q with q | q
 ·exact h value slice pins s σ H x y v u Q I rx ry q hs
 ·exact h' value slice pins s σ H x y v u Q I rx ry q hs
theorem Qt.or{id:String}{r r':V->List V->Hp->VK->Prop}(h:Qt X id r)(h':Qt X id r'):Qt X id (λ x xs H Q=>r x xs H Q \/ r' x xs H Q):=by
 intro pins s σ H x xs v us Q I rx rs q
 rcases q with q | q
 ·exact h pins s σ H x xs v us Q I rx rs q
 ·exact h' pins s σ H x xs v us Q I rx rs q
theorem aR{r:R2}(hr:HY X r)(ha:PE X a ta)(hb:PE X b tb)(hs:IG b):PE X (.Subscript a b pos) (MR r ta tb):=by
 intro pins s σ H Q I h
 exact Subscript_ (MS ha hb I h λ v u s2 x y H2 I2 rx ry q=>hr a b pins s2 σ H2 x y v u Q I2 rx ry q (hs _ _))
def M8(K:aA):R2:=λ x y H Q=>∃ p xs i v,x=.ref p /\ y=.int i /\ bD K H p xs /\ rN xs i=some v /\ Q v H
def M9(K:aA):R2:=λ x y H Q=>∃ p xs i v,x=.ref p /\ y=.int i /\ gm K H p xs /\ rN xs i=some v /\ Q v H
def Rh:R2:=λ x y H Q=>∃ z i c,x=.str z /\ y=.int i /\ z.length <= sizeLine /\ rN z.cps.toList i=some c /\ Q (.str ⟨#[c]⟩) H
theorem cK:HY X (M8 X.K):=by
 intro value slice pins s σ H x y v u Q I rx ry h hs
 obtain ⟨p,xs,i,z,rfl,rfl,hq,he,q⟩:=h
 cases rx
 obtain ⟨t,rfl⟩:=ry
 obtain ⟨its,r,pl,hz⟩:=I.list hq
 obtain ⟨j,h1,h2,h3,h4,h5⟩:=tX he
 obtain ⟨w,ew,rw'⟩:=r.get h2
 have hl:=r.length
 have hn:=ny
 have fin:EP X pins σ Q w s:=⟨z,H,I,rw',q⟩
 by_cases h0:0 <= i
 ·have hj:i.toNat=j:=by
   rw [seqIndex_of h0 h5] at h1
   exact Option.some.inj h1
  exact item_listR pl.isList h0 (by omega) (by rw [hj]; simpa using ew) fin hs
 ·have hj:(i + (its.toArray.size:Int)).toNat=j:=by
   rw [seqIndex_neg (by omega) h4] at h1
   rw [aV,<- hl]
   exact Option.some.inj h1
  exact subscriptTail_builtinR (x:=w) pl.isList.typeIs slot_list_getitem.lookup
   (wpAny_getItem_list_neg (Q:=λ r s'=>r=w /\ EP X pins σ Q r s') pl.isList (by omega) (by rw [aV] <;> omega) (by omega) (by rw [hj]; simpa using ew) ⟨rfl,fin⟩) hs
theorem br:HY X (M9 X.K):=by
 intro value slice pins s σ H x y v u Q I rx ry h hs
 obtain ⟨p,xs,i,z,rfl,rfl,hq,he,q⟩:=h
 cases rx
 obtain ⟨t,rfl⟩:=ry
 obtain ⟨its,r,pl,hz⟩:=I.tuple hq
 obtain ⟨j,h1,h2,h3,h4,h5⟩:=tX he
 obtain ⟨w,ew,rw'⟩:=r.get h2
 have hl:=r.length
 have hn:=ny
 have fin:EP X pins σ Q w s:=⟨z,H,I,rw',q⟩
 exact subscriptTail_builtinR (x:=w) pl.typeIs slot_tuple_getitem.lookup
  (getItem_tuple (j:=j) (Q:=λ r s'=>r=w /\ EP X pins σ Q r s') pl (by omega) (by omega) (by rw [aV,<- hl]; exact h1) (by simpa using ew) ⟨rfl,fin⟩) hs
theorem Na:HY X Rh:=by
 intro value slice pins s σ H x y v u Q I rx ry h hs
 obtain ⟨z,i,c,rfl,rfl,hz,he,q⟩:=h
 obtain ⟨t,rfl⟩:=rx
 obtain ⟨t',rfl⟩:=ry
 obtain ⟨j,h1,h2,h3,h4,h5⟩:=tX he
 have hl:z.cps.toList.length=z.length:=by simp [Str.length]
 rw [hl] at h1 h4 h5
 have hn:=ny
 exact tail_any (typeIs_str s z t) slot_str_getitem.lookup (getItem_str (c:=c) (by
  have e1:decide (i < -(2 ^ 63:Int))=false:=decide_eq_false (by omega)
  have e2:decide (i >= 2 ^ 63)=false:=decide_eq_false (by omega)
  rw [e1,e2,Bool.or_false]) (by rw [h1]; simpa using h2) ⟨.str ⟨#[c]⟩,H,I.tok _,⟨_,rfl⟩,q⟩) hs
theorem yP(its:List Value)(n j:Nat)(u:Value):Obj.mapSeq (·.setIfInBounds j u) { cls:=.type "list", data:=.seq its.toArray n }={ cls:=.type "list", data:=.seq (its.set j u).toArray n }:=by
 simp [Obj.mapSeq]
theorem Inv.lst{pins:List (Addr × Obj)}{σ:St}{H:Hp}{s:Shared}{p:Addr}{xs:List V}(I:Inv X pins σ H s)(h:H p=some (.lst xs)):
  ∃ (its:List Value) (n:Nat),Vals xs its /\ s.heap.get? p=some { cls:=.type "list", data:=.seq its.toArray n } /\ xs.length <= sizeLine:=by
 obtain ⟨z,its,n,r,e⟩:=I.hok p _ h
 exact ⟨its,n,r,e,z⟩
theorem Inv.Nb{pins:List (Addr × Obj)}{σ:St}{p:Addr}{ys:List V}{its':List Value}{n':Nat}{f:Obj->Obj}(I:Inv X pins σ H s)(h:H p=some (.lst xs))
  (ho:s.heap.get? p=some { cls:=.type "list", data:=.seq its.toArray n })(hf:f { cls:=.type "list", data:=.seq its.toArray n }={ cls:=.type "list", data:=.seq its'.toArray n' })(r:Vals ys its')(hz:ys.length <= sizeLine)(t:Nat):
  Inv X pins σ (upd H p (.lst ys)) { s with heap:=s.heap.update p f,toks:=t }:=by
 have e:(s.heap.update p f).get? p=some { cls:=.type "list", data:=.seq its'.toArray n' }:=by
  rw [dO f ho (by rw [hf] <;> rfl),hf]
 refine I.write (x:=p) (e:=p) (by rw [h]; trivial) (.inl rfl) (λ b u hb q=>(fB _ _ (bF hb)).trans q) ⟨_,e⟩ ?_
 exact ⟨hz,its',n',r,e⟩
def Lr:V->V->V->Hp->(Hp->Prop)->Prop:=λ o i v H Q=>∃ p xs k j,o=.ref p /\ i=.int k /\ H p=some (.lst xs) /\ Em xs.length k=some j /\ Q (upd H p (.lst (xs.set j v)))
theorem set_list:QX X Lr:=by
 intro pins s σ H o i v ov iv u Q I ro ri rv h
 obtain ⟨p,xs,k,j,rfl,rfl,hp,hj,q⟩:=h
 cases ro
 obtain ⟨t,rfl⟩:=ri
 obtain ⟨its,n,r,ho,hz⟩:=I.lst hp
 obtain ⟨h1,h2,h3,h4⟩:=Au hj
 have hl:=r.length
 have hn:=ny
 have I':Inv X pins σ (upd H p (.lst (xs.set j v))) { s with heap:=s.heap.update p (Obj.mapSeq (·.setIfInBounds j u)) } :=
  I.Nb hp ho (yP its n j u) (r.set rv j) (by rw [List.length_set]; exact hz) s.toks
 by_cases h0:0 <= k
 ·have hk:k.toNat=j:=by
   rw [seqIndex_of h0 h4] at h1
   exact Option.some.inj h1
  exact PySem.W.ki_setAt ho h0 (by omega) (by rw [aV,<- hl]; exact h4) (by rw [hk]; exact ⟨_,I',q⟩)
 ·have hk:(k + (its.toArray.size:Int)).toNat=j:=by
   rw [seqIndex_neg (by omega) h3] at h1
   rw [aV,<- hl]
   exact Option.some.inj h1
  exact PySem.W.ki_setBack ho (by omega) (by rw [aV,<- hl]; exact h3) (by omega) (by rw [hk]; exact ⟨_,I',q⟩)
theorem tY(lo hi:Option Int)(n:Nat):(sliceBounds lo hi none n).1=((HT.fT n 0 lo:Nat):Int) /\ (sliceBounds lo hi none n).2.1=((HT.fT n n hi:Nat):Int) /\ (sliceBounds lo hi none n).2.2=1:=by
 refine ⟨?_,?_,rfl⟩
 ·cases lo with
  | none=>simp [sliceBounds,HT.fT]
  | some i =>
   simp only [sliceBounds,HT.fT,Option.getD_none,show (1:Int) > 0 by decide,if_true]
   by_cases h:i < 0
   ·simp only [h,if_true] <;> omega
   ·simp only [h,if_false] <;> omega
 ·cases hi with
  | none=>simp [sliceBounds,HT.fT]
  | some i =>
   simp only [sliceBounds,HT.fT,Option.getD_none,show (1:Int) > 0 by decide,if_true]
   by_cases h:i < 0
   ·simp only [h,if_true] <;> omega
   ·simp only [h,if_false] <;> omega
theorem rO(its:List Value)(lo hi:Option Int):slicePick its.toArray lo hi none=((its.drop (HT.fT its.length 0 lo)).take (HT.fT its.length its.length hi - HT.fT its.length 0 lo)).toArray:=by
 obtain ⟨h1,h2,h3⟩:=tY lo hi its.toArray.size
 unfold slicePick
 rw [h1,h2,h3]
 simp only [sliceRange_one,pick_run,aV] <;> rfl
def Ri(K:aA):V->Option Int->Option Int->Hp->VK->Prop:=λ x lo hi H Q=>∃ a xs,x=.ref a /\ bD K H a xs /\ ∀ p,H p=none->Q (.ref p) (upd H p (.lst (kO xs lo hi)))
theorem tZ:M6 X (Ri X.K):=by
 intro pins s σ H x v vl vu lo hi sl Q I rx hs pl pu h
 obtain ⟨a,xs,rfl,hx,q⟩:=h
 cases rx
 obtain ⟨its,r,ht,hz⟩:=I.list hx
 have hlen:=r.length
 refine ⟨"list", _,slot_list_getitem.lookup,ht.isList.typeIs,?_⟩
 refine wpAny_getItem_list_slice ht.isList hs pl pu .none (by simp) ?_ (by rw [aV] <;> omega)
 rw [rO,<- hlen]
 refine ⟨.ref s.heap.objs.size,_,I.laid (t':=s.toks) (o:=.lst (kO xs lo hi)) (λ b ob q=>cB _ q) (az _) ?_,rfl,q _ (I.hok.fresh (az _))⟩
 exact ⟨bE (jJ xs lo hi) hz,_,0,(r.drop (HT.fT xs.length 0 lo)).take (HT.fT xs.length xs.length hi - HT.fT xs.length 0 lo),fR _ rfl⟩
def iR:V->Bool
 | .c6=>true
 | .bl _=>true
 | .int _=>true
 | .str _=>true
 | _=>false
def II:V->V->Bool
 | .c6,.c6=>true
 | .bl a,.bl b=>a == b
 | .bl a,.int b=>(if a then 1 else 0) == b
 | .int a,.bl b=>a == (if b then 1 else 0)
 | .int a,.int b=>a == b
 | .str a,.str b=>a == b
 | _,_=>false
theorem Nc{A:Around}{v:Value}(ry:RelV y u)(rx:RelV x v)(fy:iR y=true)(fx:iR x=true):SeqAt.EqAt A s u v (II y x):=by
 cases y with
 | c6 =>
  cases ry
  cases x with
  | c6=>cases rx; exact SeqAt.EqAt.same _
  | bl b=>cases rx; exact SeqAt.EqAt.none_bool b
  | int b=>obtain ⟨t,rfl⟩:=rx; exact SeqAt.EqAt.none_int b t
  | str b=>obtain ⟨t,rfl⟩:=rx; exact SeqAt.EqAt.none_str b t
  | _=>exact absurd (show false=true from fx) ic
 | bl a =>
  cases ry
  cases x with
  | c6=>cases rx; exact SeqAt.EqAt.bool_none a
  | bl b=>cases rx; exact SeqAt.EqAt.bool_bool a b
  | int b=>obtain ⟨t,rfl⟩:=rx; exact SeqAt.EqAt.bool_int a b t
  | str b=>obtain ⟨t,rfl⟩:=rx; exact SeqAt.EqAt.bool_str a b t
  | _=>exact absurd (show false=true from fx) ic
 | int a =>
  obtain ⟨t',rfl⟩:=ry
  cases x with
  | c6=>cases rx; exact SeqAt.EqAt.int_none a t'
  | bl b=>cases rx; exact SeqAt.EqAt.int_bool a t' b
  | int b=>obtain ⟨t,rfl⟩:=rx; exact SeqAt.EqAt.int_int a t' b t
  | str b=>obtain ⟨t,rfl⟩:=rx; exact SeqAt.EqAt.int_str a t' b t
  | _=>exact absurd (show false=true from fx) ic
 | str a =>
  obtain ⟨t',rfl⟩:=ry
  cases x with
  | c6=>cases rx; exact SeqAt.EqAt.str_none a t'
  | bl b=>cases rx; exact SeqAt.EqAt.str_bool a t' b
  | int b=>obtain ⟨t,rfl⟩:=rx; exact SeqAt.EqAt.str_int a t' b t
  | str b=>obtain ⟨t,rfl⟩:=rx; exact SeqAt.EqAt.str_str a t' b t
  | _=>exact absurd (show false=true from fx) ic
 | _=>exact absurd (show false=true from fy) ic
def yQ(x:V)(u:Value):Bool:=match u with
 | .none=>II .c6 x
 | .bool b=>II (.bl b) x
 | .int i _=>II (.int i) x
 | .str z _=>II (.str z) x
 | _=>false
theorem En(r:RelV y u)(f:iR y=true):yQ x u=II y x:=by
 cases y with
 | c6=>cases r; rfl
 | bl b=>cases r; rfl
 | int i=>obtain ⟨t,rfl⟩:=r; rfl
 | str z=>obtain ⟨t,rfl⟩:=r; rfl
 | _=>exact absurd (show false=true from f) ic
theorem lA{x:V}:∀ {xs:List V} {us:List Value},Vals xs us->xs.all iR=true->us.any (yQ x)=xs.any λ y=>II y x
 | _,_,.nil,_=>rfl
 | y :: xs,u :: us,.cons r t,f=>by
  rw [List.all_cons,nU] at f
  rw [gF,gF,En r f.1,lA t f.2]
theorem jK{A:Around}{s:Shared}{x:V}{v:Value}(rx:RelV x v)(fx:iR x=true):∀ {xs:List V} {us:List Value},Vals xs us->xs.all iR=true->∀ u∈us,SeqAt.EqAt A s u v (yQ x u)
 | _,_,.nil,_=>λ u hu=>by cases hu
 | y :: xs,u :: us,.cons r t,f=>λ u' hu=>by
  rw [List.all_cons,nU] at f
  rcases aJ.mp hu with rfl | hu
  ·rw [En r f.1]; exact Nc r rx f.1 fx
  ·exact jK rx fx t f.2 u' hu
def nW(x:V)(xs:List V):Bool:=xs.any λ y=>II y x
def Rj(K:aA)(neg:Bool):R2:=λ x y H Q=>∃ p xs,y=.ref p /\ (bD K H p xs \/ gm K H p xs) /\ iR x=true /\ xs.all iR=true /\ Q (.bl (if neg then !nW x xs else nW x xs)) H
theorem fh:ju X (compareOp .In) (Rj X.K false):=by
 intro pins s σ H x y v u Q I rx ry h
 obtain ⟨p,xs,rfl,hq,fx,fs,q⟩:=h
 cases ry
 rcases hq with hq | hq
 ·obtain ⟨its,r,pl,hz⟩:=I.list hq
  refine SeqAt.in_listAt (yQ x) pl.isList (λ w hw=>jK rx fx r fs w (by simpa using hw)) ⟨.bl _,H,I,rfl,?_⟩
  rw [show its.toArray.any (yQ x)=its.any (yQ x) by simp,lA r fs]
  exact q
 ·obtain ⟨its,r,pl,hz⟩:=I.tuple hq
  refine SeqAt.in_tupleAt (yQ x) pl (λ w hw=>jK rx fx r fs w (by simpa using hw)) ⟨.bl _,H,I,rfl,?_⟩
  rw [show its.toArray.any (yQ x)=its.any (yQ x) by simp,lA r fs]
  exact q
theorem fH:ju X (compareOp .NotIn) (Rj X.K true):=by
 intro pins s σ H x y v u Q I rx ry h
 obtain ⟨p,xs,rfl,hq,fx,fs,q⟩:=h
 cases ry
 rcases hq with hq | hq
 ·obtain ⟨its,r,pl,hz⟩:=I.list hq
  refine SeqAt.notIn_listAt (yQ x) pl.isList (λ w hw=>jK rx fx r fs w (by simpa using hw)) ⟨.bl _,H,I,rfl,?_⟩
  rw [show its.toArray.any (yQ x)=its.any (yQ x) by simp,lA r fs]
  exact q
 ·obtain ⟨its,r,pl,hz⟩:=I.tuple hq
  refine SeqAt.notIn_tupleAt (yQ x) pl (λ w hw=>jK rx fx r fs w (by simpa using hw)) ⟨.bl _,H,I,rfl,?_⟩
  rw [show its.toArray.any (yQ x)=its.any (yQ x) by simp,lA r fs]
  exact q
theorem uc:cO X (.builtin "len") (λ xs H Q=>∃ p ys,xs=[.ref p] /\ (bD X.K H p ys \/ gm X.K H p ys) /\ Q (.int ys.length) H):=by
 intro pins s σ H xs us Q I r h
 obtain ⟨p,ys,rfl,hq,q⟩:=h
 obtain ⟨u,rfl,rx⟩:=vals1 r
 cases rx
 have hn:=ny
 rcases hq with hq | hq
 ·obtain ⟨its,r',pl,hz⟩:=I.list hq
  have hlen:=r'.length
  exact Calls.call_len_list pl.isList (by simp only [aV] <;> omega) ⟨.int ys.length,H,I.tok _,⟨s.toks + 1,by rw [aV,hlen]⟩,q⟩
 ·obtain ⟨its,r',pl,hz⟩:=I.tuple hq
  have hlen:=r'.length
  exact len_tuple pl (by simp only [aV] <;> omega) ⟨.int ys.length,H,I.tok _,⟨s.toks + 1,by rw [aV,hlen]⟩,q⟩
theorem cO.or{f:Value}{r r':List V->Hp->VK->Prop}(h:cO X f r)(h':cO X f r'):cO X f (λ xs H Q=>r xs H Q \/ r' xs H Q):=by
 intro pins s σ H xs us Q I rs q
 rcases q with q | q
 ·exact h pins s σ H xs us Q I rs q
 ·exact h' pins s σ H xs us Q I rs q
theorem ud:cO X (.type "list") (λ xs H Q=>∃ p ys,xs=[.ref p] /\ (bD X.K H p ys \/ gm X.K H p ys) /\ ∀ l,H l=none->Q (.ref l) (upd H l (.lst ys))):=by
 intro pins s σ H xs us Q I r h
 obtain ⟨p,ys,rfl,hq,q⟩:=h
 obtain ⟨u,rfl,rx⟩:=vals1 r
 cases rx
 have fin:∀ (its:List Value),Vals ys its->ys.length <= sizeLine->∀ (h':Heap) (c':Nat),(∀ b o',s.heap.get? b=some o'->h'.get? b=some o') ->
   h'.get? s.heap.objs.size=some { cls:=.type "list", dict:=none,data:=.seq its.toArray c',slots:=#[] } -> EP X pins σ Q (.ref s.heap.objs.size) { s with heap:=h' }:=λ its r' hz h' c' kp e =>
  ⟨.ref s.heap.objs.size,_,I.laid (t':=s.toks) kp (az _) (show cG X.prog X.w _ h' _ (.lst ys) from ⟨hz,its,c',r',e⟩),rfl,q _ (I.hok.fresh (az _))⟩
 rcases hq with hq | hq
 ·obtain ⟨its,r',pl,hz⟩:=I.list hq
  have hlen:=r'.length
  obtain ⟨o,ho,hc,n,hd⟩:=pl.isList
  exact call_list_seq p (.inl rfl) ho hc hd (λ h' c' kp e=>fin its r' hz h' c' kp e) (by simp only [aV] <;> omega)
 ·obtain ⟨its,r',pl,hz⟩:=I.tuple hq
  have hlen:=r'.length
  obtain ⟨o,ho,hc,n,hd⟩:=pl
  exact call_list_seq p (.inr rfl) ho hc hd (λ h' c' kp e=>fin its r' hz h' c' kp e) (by simp only [aV] <;> omega)
def Qu(K:aA)(T:String)(x:V)(H:Hp):Prop:=match x with
 | .str _=>T = "str"
 | .int _=>T = "int"
 | .ref p=>(T = "list" /\ ∃ xs,bD K H p xs) \/ (T = "tuple" /\ ∃ o,K.lookup p=some o /\ o.cls=.type "tuple" /\ o.dict=none) \/
   (T = "dict" /\ ((∃ kvs,H p=some (.dK kvs)) \/ ∃ kvs,H p=some (.dT kvs))) \/ (T = "set" /\ ∃ S n,H p=some (.set S n))
 | _=>False
theorem Eo{pins:List (Addr × Obj)}{σ:St}{T:String}{v:Value}(I:Inv X pins σ H s)(r:RelV x v)(ty:Qu X.K T x H):
  s.TypeIs v T /\ ∀ a,v=.ref a->∃ ob,s.heap.get? a=some ob /\ ob.dict=none:=by
 cases x with
 | str z =>
  obtain ⟨t,rfl⟩:=r
  cases (show T = "str" from ty)
  exact ⟨typeIs_str s z t,λ _ e=>nomatch e⟩
 | int i =>
  obtain ⟨t,rfl⟩:=r
  cases (show T = "int" from ty)
  exact ⟨typeIs_int s i t,λ _ e=>nomatch e⟩
 | ref p =>
  cases r
  rcases ty with ⟨rfl,xs,hq⟩ | ⟨rfl,o,hk,hc,hd⟩ | ⟨rfl,hk⟩ | ⟨rfl,S,n,hk⟩
  ·obtain ⟨its,_,pl,_⟩:=I.list hq
   refine ⟨pl.isList.typeIs,λ a e=>?_⟩
   cases e
   obtain ⟨o,n,e,c,hd,_⟩:=pl
   exact ⟨o,e,hd⟩
  ·refine ⟨⟨o,I.tS p o hk,hc⟩,λ a e=>?_⟩
   cases e
   exact ⟨o,I.tS _ o hk,hd⟩
  ·have z:∃ o,s.heap.get? p=some o /\ o.ExactDict:=by
    rcases hk with ⟨kvs,hk⟩ | ⟨kvs,hk⟩
    ·obtain ⟨_,_,_,_,o,_,_,e,ex,_⟩:=I.hok p _ hk
     exact ⟨o,e,ex⟩
    ·obtain ⟨_,_,_,_,o,_,_,e,ex,_⟩:=I.hok p _ hk
     exact ⟨o,e,ex⟩
   obtain ⟨o,e,ex⟩:=z
   refine ⟨⟨o,e,ex.1⟩,λ a e2=>?_⟩
   cases e2
   exact ⟨o,e,ex.2.1⟩
  ·obtain ⟨o,_,_,_,e,ex,_⟩:=I.hok p _ hk
   refine ⟨⟨o,e,ex.1⟩,λ a e2=>?_⟩
   cases e2
   exact ⟨o,e,ex.2.1⟩
 | _=>exact False.elim ty
def Rk(K:aA)(T:String)(r:V->List V->Hp->VK->Prop)(to:TE):TE:=λ σ H Q=>to σ H λ x H1=>Qu K T x H1 /\ r x [] H1 Q
def Z1(K:aA)(T:String)(r:V->List V->Hp->VK->Prop)(to:TE)(t:TA):TE:=λ σ H Q=>to σ H λ x H1=>Qu K T x H1 /\ t σ H1 λ xs H2=>r x xs H2 Q
variable {o e:Expr}{es:List Expr}{to:TE}{t:TA}{name:Str}{apos cpos:Pos}{T id:String}{r:V->List V->Hp->VK->Prop}
theorem yR(pa:PlainAttrs T)(slot:Slot T name id)(hty:typeOf (.builtin id)=pure (.type "method_descriptor"))(hm:Qt X id r)(ho:PE X o to)
  (hbase:attributeBase o name X.env (eval o X.env)=eval o X.env:=by rfl)(hline:(apos.endLine == cpos.line)=true:=by rfl):PE X (.Call (.Attribute o name apos) [] [] cpos) (Rk X.K T r to):=by
 intro pins s σ H Q I h
 refine wpAny_Call_method0_late hbase hline (cL (ho pins s σ H _ I h) λ v s1 ⟨x,H1,I1,r1,ty,q1⟩=>?_)
 obtain ⟨h1,h2⟩:=Eo I1 r1 ty
 exact ⟨T,id,pa,slot,hty,h1,h2,tN rfl (PySem.evalArgs_none (hm pins s1 σ H1 x [] v [] Q I1 r1 .nil q1))⟩
theorem iu(pa:PlainAttrs T)(slot:Slot T name id)(hty:typeOf (.builtin id)=pure (.type "method_descriptor"))(hm:Qt X id r)(ho:PE X o to)(ha:PA X (e :: es) t)
  (hbase:attributeBase o name X.env (eval o X.env)=eval o X.env:=by rfl)
  (hfew:((backTo cpos (starEach (e :: es) X.env)).all (λ x=>!x.1) && (backToKw cpos (keywordEach [] X.env)).all (λ x=>x.1.isSome)
   && decide ((e :: es).length + ([]:List Keyword).length + (if ([]:List Keyword).isEmpty then 0 else 1) < 30))=true:=by rfl)
  (hline:(apos.endLine == cpos.line)=true:=by rfl)(hs:starEach (e :: es) X.env=(false,eval e X.env) :: starEach es X.env:=by rfl)(hplain:(backTo cpos (starEach es X.env)).any (·.1)=false:=by rfl):
  PE X (.Call (.Attribute o name apos) (e :: es) [] cpos) (Z1 X.K T r to t):=by
 intro pins s σ H Q I h
 refine wpAny_Call_method_late hbase hfew hline rfl (cL (ho pins s σ H _ I h) λ v s1 ⟨x,H1,I1,r1,ty,q1⟩=>?_)
 obtain ⟨h1,h2⟩:=Eo I1 r1 ty
 refine ⟨T,id,pa,slot,hty,h1,h2,?_⟩
 have hA:=ha cpos pins s1 σ H1 _ I1 q1
 rw [hs] at hA ⊢
 refine tN (by show (false || (backTo cpos (starEach es X.env)).any (·.1))=false; rw [hplain] <;> rfl) (Calls.evalArgs_plain ?_)
 exact cL hA λ us s2 ⟨vs,H2,I2,r2,q2⟩=>hm pins s2 σ H2 x vs v us Q I2 r1 r2 q2
end
def Vf(X:Cx)(id:String)(r:V->List V->Hp->VK->Prop):Prop :=
 ∀ (pins:List (Addr × Obj)) (s:Shared) (σ:St) (H:Hp) (x:V) (xs:List V) (v:Value) (us:List Value) (Q:VK),Inv X pins σ H s->RelV x v->Vals xs us->r x xs H Q ->
  wpAny (model X.prog X.w) X.A (call (.builtin id) (v :: us)) (EP X pins σ Q) X.xe s
theorem Vals.one:∀ {x:V} {us:List Value},Vals [x] us->∃ u,us=[u] /\ RelV x u
 | _,_,.cons r .nil=>⟨_,rfl,r⟩
theorem Vals.zero:∀ {us:List Value},Vals [] us->us=[]
 | _,.nil=>rfl
theorem Vals.dropLast(h:Vals xs us):Vals xs.dropLast us.dropLast:=by
 induction h with
 | nil=>exact .nil
 | cons r t ih =>
  cases t with
  | nil=>exact .nil
  | cons q t'=>exact .cons r ih
theorem Vals.eraseIdx:∀ {xs:List V} {us:List Value} (i:Nat),Vals xs us->Vals (xs.eraseIdx i) (us.eraseIdx i)
 | _,_,_,.nil=>.nil
 | _,_,0,.cons _ t=>t
 | _,_,i + 1,.cons r t=>.cons r (Vals.eraseIdx i t)
theorem Vals.reverse(h:Vals xs us):Vals xs.reverse us.reverse:=by
 induction h with
 | nil=>exact .nil
 | cons r t ih=>rw [List.reverse_cons,List.reverse_cons]; exact Vals.append ih (.cons r .nil)
theorem Vals.rep(h:Vals xs us):∀ k:Nat,Vals (List.replicate k xs).flatten (List.replicate k us).flatten
 | 0=>.nil
 | k + 1=>by
  rw [pR,pR,List.flatten_cons,List.flatten_cons]
  exact Vals.append h (Vals.rep h k)
theorem yS{α:Type}(l:List α):l.eraseIdx (l.length - 1)=l.dropLast:=by
 induction l with
 | nil=>rfl
 | cons a r ih =>
  cases r with
  | nil=>rfl
  | cons b r =>
   have e:(a :: b :: r).length - 1=((b :: r).length - 1) + 1:=by
    have h1:(a :: b :: r).length=r.length + 2:=rfl
    have h2:(b :: r).length=r.length + 1:=rfl
    omega
   rw [e,List.eraseIdx_cons_succ,ih]
   all_goals rfl
theorem foldl_rep(its:List Value):∀ (k:Nat) (acc:List Value),
  List.foldl (λ x1 x2=>x1++x2) acc.toArray (List.replicate k its.toArray)=(acc++(List.replicate k its).flatten).toArray
 | 0,acc=>by simp
 | k + 1,acc=>by
  have e:acc.toArray++its.toArray=(acc++its).toArray:=by simp
  have e2:(acc++its)++(List.replicate k its).flatten=acc++(List.replicate (k + 1) its).flatten:=by
   rw [pR,List.flatten_cons,mT]
  rw [<- e2,<- foldl_rep its k (acc++its),<- e,pR,List.foldl_cons]
section
variable {X:Cx}{pins:List (Addr × Obj)}{σ:St}{H:Hp}{s:Shared}{l b:Addr}{xs ys zs:List V}
theorem Inv.IJ{its':List Value}{f:Array Value->Array Value}(I:Inv X pins σ H s)(hH:H l=some (.lst xs))
  (e:s.heap.get? l=some { cls:=.type "list", data:=.seq its.toArray n })(hf:f its.toArray=its'.toArray)(hv:Vals ys its')(hz:ys.length <= sizeLine):
  Inv X pins σ (upd H l (.lst ys)) { s with heap:=s.heap.update l (Obj.mapSeq f),toks:=t' }:=by
 have q:=PySem.IsL.update e f
 rw [hf] at q
 refine I.write (x:=l) (e:=l) (by rw [hH]; exact trivial) (.inl rfl) (λ b' u hb hu=>(fB s.heap (Obj.mapSeq f) (bF hb)).trans hu) ⟨_,q⟩ ?_
 exact ⟨hz,its',_,hv,q⟩
theorem Inv.Rl(I:Inv X pins σ H s)(hv:Vals ys its)(hz:ys.length <= sizeLine):
  Inv X pins σ (upd H s.heap.objs.size (.lst ys)) { s with heap:=s.heap.push { cls:=.type "list", data:=.seq its.toArray },toks:=t' } :=
 I.laid (λ _ _ q=>cB _ q) (az _) ⟨hz,its,0,hv,fR _ rfl⟩
theorem Inv.fresh(I:Inv X pins σ H s):H s.heap.objs.size=none:=I.hok.fresh (az _)
theorem Inv.vh(I:Inv X pins σ H s)(hH:H l=some (.lst xs)):xs.length <= sizeLine /\ ∃ (its:List Value) (n:Nat),Vals xs its /\ xs.length=its.length /\ s.heap.get? l=some { cls:=.type "list", data:=.seq its.toArray n }:=by
 obtain ⟨z,its,n,r,e⟩:=I.hok l _ hH
 exact ⟨z,its,n,r,r.length,e⟩
theorem vm(h:n <= sizeLine):Builtin.List.listTooLong n=false:=by
 unfold Builtin.List.listTooLong
 exact decide_eq_false (by omega)
end
section
variable {X:Cx}
def Av:V->List V->Hp->VK->Prop:=λ x vs H Q=>∃ l xs y,x=.ref l /\ vs=[y] /\ H l=some (.lst xs) /\ xs.length < sizeLine /\ Q .c6 (upd H l (.lst (xs++[y])))
theorem dZ:Vf X "list.append" Av:=by
 intro pins s σ H x vs v us Q I rx rv h
 obtain ⟨l,xs,y,rfl,rfl,hH,hz,q⟩:=h
 cases rx
 obtain ⟨u,rfl,ru⟩:=rv.one
 obtain ⟨z,its,n,r,hl,e⟩:=I.vh hH
 refine call_meets F.slot_list_append ⟨_,e,rfl⟩ F.entry_list_append (F.args_list_append_2 _ _) (PySem.list_append l its.toArray n u (by rw [aV]; omega)) ⟨e,?_⟩
 refine ⟨.c6,_,I.IJ (its':=its++[u]) hH e (by simp) (r.append (.cons ru .nil)) ?_,rfl,q⟩
 rw [bh,fX]
 omega
def Aw:V->List V->Hp->VK->Prop:=λ x vs H Q=>∃ l b xs zs,x=.ref l /\ vs=[.ref b] /\ H l=some (.lst xs) /\ H b=some (.lst zs) /\ xs.length + zs.length <= sizeLine /\ Q .c6 (upd H l (.lst (xs++zs)))
theorem iS:Vf X "list.extend" Aw:=by
 intro pins s σ H x vs v us Q I rx rv h
 obtain ⟨l,b,xs,zs,rfl,rfl,hH,hB,hz,q⟩:=h
 cases rx
 obtain ⟨u,rfl,ru⟩:=rv.one
 cases ru
 obtain ⟨z,its,n,r,hl,e⟩:=I.vh hH
 obtain ⟨z2,its2,n2,r2,hl2,e2⟩:=I.vh hB
 have hsz:its.toArray.size + its2.toArray.size <= sizeLine:=by rw [aV,aV]; omega
 have Ep:¬ (!its.toArray.isEmpty && Builtin.List.listTooLong (its.toArray.size + its2.toArray.size))=true:=by
  rw [vm hsz,Bool.and_false]
  exact ic
 refine call_meets F.slot_list_extend ⟨_,e,rfl⟩ F.entry_list_extend (F.args_list_extend_2 _ _)
  (AutoSeq1.list_extend_list_list_0 l its.toArray n b its2.toArray n2 Ep (by rw [aV]; omega) (by omega)) ⟨e,e2,?_⟩
 refine ⟨.c6,_,I.IJ (its':=its++its2) hH e (by simp) (r.append r2) ?_,rfl,q⟩
 rw [bh]
 omega
def Rm:V->List V->Hp->VK->Prop:=λ x vs H Q=>∃ l xs y,x=.ref l /\ vs=[] /\ H l=some (.lst xs) /\ xs[xs.length - 1]? = some y /\ Q y (upd H l (.lst xs.dropLast))
theorem Er:Vf X "list.pop" Rm:=by
 intro pins s σ H x vs v us Q I rx rv h
 obtain ⟨l,xs,y,rfl,rfl,hH,hy,q⟩:=h
 cases rx
 have jj:=rv.zero
 subst jj
 obtain ⟨z,its,n,r,hl,e⟩:=I.vh hH
 obtain ⟨u,hu,ru⟩:=r.get hy
 have hy':its.toArray[its.toArray.size - 1]? = some u:=by
  show its.toArray[its.length - 1]? = some u
  rw [<- d8,<- hl]
  exact hu
 refine call_meets F.slot_list_pop ⟨_,e,rfl⟩ F.entry_list_pop (F.args_list_pop_1 _) (MeetsSeq.list_pop_last l its.toArray n u hy' (by rw [aV]; omega)) ⟨e,?_⟩
 refine ⟨y,_,I.IJ (its':=its.dropLast) hH e ?_ r.dropLast ?_,ru,q⟩
 ·show its.toArray.eraseIdxIfInBounds (its.toArray.size - 1)=its.dropLast.toArray
  rw [aV,List.eraseIdxIfInBounds_toArray,yS]
 ·rw [List.length_dropLast]
  omega
def Es:V->List V->Hp->VK->Prop:=λ x vs H Q=>∃ l xs,x=.ref l /\ vs=[] /\ H l=some (.lst xs) /\ Q .c6 (upd H l (.lst []))
theorem Et:Vf X "list.clear" Es:=by
 intro pins s σ H x vs v us Q I rx rv h
 obtain ⟨l,xs,rfl,rfl,hH,q⟩:=h
 cases rx
 have jj:=rv.zero
 subst jj
 obtain ⟨z,its,n,r,hl,e⟩:=I.vh hH
 refine call_meets F.slot_list_clear ⟨_,e,rfl⟩ F.entry_list_clear (F.args_list_clear_1 _) (AutoSeq1.list_clear_list_0 l its.toArray n (by rw [aV]; omega)) ⟨e,?_⟩
 exact ⟨.c6,_,I.IJ (its':=[]) (ys:=[]) hH e rfl .nil (aQ _),rfl,q⟩
def Rn:R2:=λ x y H Q=>∃ l b xs zs,x=.ref l /\ y=.ref b /\ H l=some (.lst xs) /\ H b=some (.lst zs) /\ xs.length + zs.length <= sizeLine /\ ∀ p,H p=none->Q (.ref p) (upd H p (.lst (xs++zs)))
theorem Eu:ju X (binaryOp .Add) Rn:=by
 intro pins s σ H x y v u Q I rx ry h
 obtain ⟨l,b,xs,zs,rfl,rfl,hH,hB,hz,q⟩:=h
 cases rx
 cases ry
 obtain ⟨z,its,n,r,hl,e⟩:=I.vh hH
 obtain ⟨z2,its2,n2,r2,hl2,e2⟩:=I.vh hB
 refine PySem.P.add_list e e2 ?_ (by rw [aV,aV]; omega)
 have ea:its.toArray++its2.toArray=(its++its2).toArray:=by simp
 rw [ea]
 exact ⟨.ref _,_,I.Rl (t':=s.toks) (r.append r2) (by rw [bh]; omega),rfl,q _ I.fresh⟩
def Ro:R2:=λ x y H Q=>∃ l k xs,x=.ref l /\ y=.int k /\ H l=some (.lst xs) /\ -(2 ^ 63) <= k /\ k < 2 ^ 63 /\ xs.length * k.toNat <= sizeLine /\
 ∀ p,H p=none->Q (.ref p) (upd H p (.lst (List.replicate k.toNat xs).flatten))
theorem len_rep{α:Type}(xs:List α)(k:Nat):(List.replicate k xs).flatten.length=k * xs.length:=by
 induction k with
 | zero=>simp
 | succ k ih=>rw [pR,List.flatten_cons,bh,ih,Nat.succ_mul,Nat.add_comm]
theorem yT:ju X (binaryOp .Mult) Ro:=by
 intro pins s σ H x y v u Q I rx ry h
 obtain ⟨l,k,xs,rfl,rfl,hH,h1,h2,hz,q⟩:=h
 cases rx
 obtain ⟨t,rfl⟩:=ry
 obtain ⟨z,its,n,r,hl,e⟩:=I.vh hH
 have hlen:its.toArray.size * k.toNat <= sizeLine:=by rw [aV,<- hl]; exact hz
 have hcap:¬ its.toArray.size * k.toNat > (2 ^ 63 - 1) / 8:=by
  have:(sizeLine:Nat) <= (2 ^ 63 - 1) / 8:=by decide
  omega
 have hfit:¬ (!Builtin.List.listFitsIndex k)=true:=by
  rw [fitsIndex_both h1 h2]
  exact ic
 have Ep:¬ Builtin.List.listTooLong (its.toArray.size * k.toNat)=true:=by
  rw [vm hlen]
  exact ic
 have hnew:List.foldl (λ x1 x2=>x1++x2) #[] (List.replicate (if its.toArray.isEmpty=true then 0 else k.toNat) its.toArray)=(List.replicate k.toNat its).flatten.toArray:=by
  have f0:∀ m:Nat,List.foldl (λ x1 x2=>x1++x2) #[] (List.replicate m its.toArray)=(List.replicate m its).flatten.toArray:=λ m=>by
   have:=foldl_rep its m []
   rw [List.nil_append] at this
   exact this
  rw [f0]
  cases its with
  | nil=>simp
  | cons a r'=>rw [if_neg (by simp)]
 refine wpAny_binaryOp_repeat_ref (T := "list") (U := "int") (by decide) ⟨_,e,rfl⟩ (λ s'=>typeIs_int s' k t) noFill_list_mul F.fills_int_mul F.slot_int_rmul repeat_list F.slot_int_index.lookup
  (call_meets F.slot_int_rmul (typeIs_int s k t) F.entry_int_rmul (F.args_int_rmul_2 _ _) (int___rmul___int_list k t l its.toArray n)
   ⟨e,rfl,⟨_,e,rfl⟩,call_meets F.slot_list_mul ⟨_,e,rfl⟩ F.entry_list_mul (F.args_list_mul_2 _ _) (AutoListH.list___mul___list_int_3 l its.toArray n k t hfit hcap Ep) ⟨e,?_⟩⟩)
 rw [hnew]
 exact ⟨.ref _,_,I.Rl (t':=s.toks) (r.rep k.toNat) (by rw [len_rep,Nat.mul_comm]; exact hz),rfl,q _ I.fresh⟩
end
section
variable {prog:Program}{w:World}{A:Around}{E:Value->Shared->Prop}{s:Shared}
end
section
variable {X:Cx}
end
section
variable {κ:Type} [DecidableEq κ]
def iT(kvs:List (κ × V))(k:κ):Option V:=(kvs.find? λ kv=>decide (kv.1=k)).map (·.2)
def putK(kvs:List (κ × V))(k:κ)(v:V):List (κ × V) :=
 if (kvs.any λ kv=>decide (kv.1=k))=true then kvs.map (λ kv=>if kv.1=k then (kv.1,v) else kv) else kvs++[(k,v)]
def Ls(kvs:List (κ × V))(k:κ):List (κ × V):=kvs.filter λ kv=>decide (kv.1 ≠ k)
theorem qa{p:κ × V}{r:List (κ × V)}{k:κ}(e:p.1=k):iT (p :: r) k=some p.2:=by simp [iT,fW,e]
theorem qb{p:κ × V}{r:List (κ × V)}{k:κ}(e:¬ p.1=k):iT (p :: r) k=iT r k:=by simp [iT,fW,e]
theorem lB(k:κ):∀ kvs:List (κ × V),(kvs.any λ kv=>decide (kv.1=k))=(iT kvs k).isSome
 | []=>rfl
 | p :: r=>by
  rw [gF]
  by_cases e:p.1=k
  ·simp only [qa e,decide_eq_true e,Bool.true_or,Option.isSome_some]
  ·rw [qb e,decide_eq_false e,Bool.false_or]; exact lB k r
theorem jL(kvs:List (κ × V))(k:κ)(v:V):(putK kvs k v).length <= kvs.length + 1:=by
 unfold putK
 split
 ·rw [au]; omega
 ·rw [bh,dR,List.length_nil]; omega
theorem kM.jX{o:Option V}{u:Option Value}(r:kM o u):o.isSome=u.isSome:=by
 cases o with
 | none=>cases u with
  | none=>rfl
  | some _=>exact (show False from r).elim
 | some _=>cases u with
  | none=>exact (show False from r).elim
  | some _=>rfl
theorem kM.getD{o:Option V}{u:Option Value}{d:V}{d':Value}(r:kM o u)(rd:RelV d d'):RelV (o.getD d) (u.getD d'):=by
 cases o with
 | none=>cases u with
  | none=>exact rd
  | some _=>exact (show False from r).elim
 | some _=>cases u with
  | none=>exact (show False from r).elim
  | some _=>exact r
theorem KV.val{kvs:List (κ × V)}{vs:List (κ × Value)}(r:KV kvs vs)(k:κ):kM (iT kvs k) (valueAt vs k):=by
 unfold KV at r
 induction r with
 | nil=>exact eG
 | @cons p q ps qs h t ih =>
  obtain ⟨h1,h2⟩:=h
  by_cases e:p.1=k
  ·have e':q.1=k:=h1.symm.trans e
   have b:valueAt (q :: qs) k=some q.2:=by simp [valueAt,fW,e']
   rw [qa e,b]; exact h2
  ·have e':¬ q.1=k:=λ z=>e (h1.trans z)
   have b:valueAt (q :: qs) k=valueAt qs k:=by simp [valueAt,fW,e']
   rw [qb e,b]; exact ih
theorem KV.any{kvs:List (κ × V)}{vs:List (κ × Value)}(r:KV kvs vs)(k:κ):(kvs.any λ kv=>decide (kv.1=k))=vs.any λ kv=>decide (kv.1=k):=by
 unfold KV at r
 induction r with
 | nil=>rfl
 | cons h t ih=>rw [gF,gF,ih,h.1]
theorem KV.repl{kvs:List (κ × V)}{vs:List (κ × Value)}(r:KV kvs vs)(k:κ)(ry:RelV y u):
  KV (kvs.map λ kv=>if kv.1=k then (kv.1,y) else kv) (vs.map λ kv=>if kv.1=k then (kv.1,u) else kv):=by
 unfold KV at r ⊢
 induction r with
 | nil=>exact .nil
 | @cons p q ps qs h t ih =>
  rw [bO,bO]
  refine .cons ?_ ih
  obtain ⟨h1,h2⟩:=h
  by_cases e:p.1=k
  ·rw [if_pos e,if_pos (h1.symm.trans e)]; exact ⟨h1,ry⟩
  ·rw [if_neg e,if_neg (λ z=>e (h1.trans z))]; exact ⟨h1,h2⟩
theorem KV.put{kvs:List (κ × V)}{vs:List (κ × Value)}(r:KV kvs vs)(k:κ)(ry:RelV y u):KV (putK kvs k y) (stored vs k u):=by
 unfold putK stored
 rw [r.any k]
 by_cases e:(vs.any λ kv=>decide (kv.1=k))=true
 ·rw [if_pos e,if_pos e]; exact r.repl k ry
 ·rw [if_neg e,if_neg e]; exact cA r ⟨rfl,ry⟩
theorem KV.drop{kvs:List (κ × V)}{vs:List (κ × Value)}(r:KV kvs vs)(k:κ):KV (Ls kvs k) (without vs k):=by
 unfold KV at r ⊢
 unfold Ls without
 induction r with
 | nil=>exact .nil
 | @cons p q ps qs h t ih =>
  obtain ⟨h1,h2⟩:=h
  rw [List.filter_cons,List.filter_cons]
  by_cases e:p.1=k
  ·have a:¬ decide (p.1 ≠ k)=true:=by simp [e]
   have b:¬ decide (q.1 ≠ k)=true:=by simp [h1.symm.trans e]
   rw [if_neg a,if_neg b]; exact ih
  ·have e':¬ q.1=k:=λ z=>e (h1.trans z)
   have a:decide (p.1 ≠ k)=true:=by simp [e]
   have b:decide (q.1 ≠ k)=true:=by simp [e']
   rw [if_pos a,if_pos b]; exact .cons ⟨h1,h2⟩ ih
theorem KV.keys{kvs:List (κ × V)}{vs:List (κ × Value)}(r:KV kvs vs):kvs.map (·.1)=vs.map (·.1):=by
 unfold KV at r
 induction r with
 | nil=>rfl
 | cons h t ih=>rw [bO,bO,ih,h.1]
theorem KV.length{kvs:List (κ × V)}{vs:List (κ × Value)}(r:KV kvs vs):kvs.length=vs.length:=gu r
end
theorem vn{k:Key}(r:RelV (kV k) u):(bW P w).is k u=true:=by
 cases k with
 | inl i=>obtain ⟨t,e⟩:=(show ∃ t,u=Value.int i t from r); subst e; exact u9 P w i t
 | inr x=>obtain ⟨t,e⟩:=(show ∃ t,u=Value.str x t from r); subst e; exact jF P w x t
theorem sy{P:Program}{w:World}:∀ {ks:List Key} {us:List Value},Vals (ks.map kV) us->ItemsAre (bW P w) ks us
 | [],_,r=>by rw [List.map_nil] at r; cases r; exact .nil
 | k :: ks,_,r=>by
  rw [bO] at r
  cases r with
  | cons h t=>exact .cons (vn h) (sy t)
abbrev KT(H:Hp):List (List Key × V)->List (List Key × Addr × Value)->Prop:=Paired λ p q=>p.1=q.1 /\ H q.2.1=some (.tup (p.1.map kV)) /\ RelV p.2 q.2.2
theorem KT.val{xs:List (List Key × Addr × Value)}(r:KT H kvs xs)(k:List Key):kM (iT kvs k) ((atKey xs k).map (·.2)):=by
 induction r with
 | nil=>exact eG
 | @cons p q ps qs h t ih =>
  obtain ⟨h1,_,h2⟩:=h
  by_cases e:p.1=k
  ·have e':q.1=k:=h1.symm.trans e
   have b:atKey (q :: qs) k=some q.2:=by simp [atKey,fW,e']
   rw [qa e,b]; exact h2
  ·have e':¬ q.1=k:=λ z=>e (h1.trans z)
   have b:atKey (q :: qs) k=atKey qs k:=by simp [atKey,fW,e']
   rw [qb e,b]; exact ih
theorem KT.repl{xs:List (List Key × Addr × Value)}(r:KT H kvs xs)(k:List Key)(ry:RelV y u):
  KT H (kvs.map λ kv=>if kv.1=k then (kv.1,y) else kv) (xs.map (putAt k u)):=by
 induction r with
 | nil=>exact .nil
 | @cons p q ps qs h t ih =>
  rw [bO,bO]
  refine .cons ?_ ih
  obtain ⟨h1,h2,h3⟩:=h
  unfold putAt
  by_cases e:p.1=k
  ·rw [if_pos e,if_pos (h1.symm.trans e)]; exact ⟨h1,h2,ry⟩
  ·rw [if_neg e,if_neg (λ z=>e (h1.trans z))]; exact ⟨h1,h2,h3⟩
theorem KT.put{xs:List (List Key × Addr × Value)}(r:KT H kvs xs)(k:List Key)(hb:H b=some (.tup (k.map kV)))(ry:RelV y u):
  KT H (putK kvs k y) (storedH xs k b u):=by
 have e:(kvs.any λ kv=>decide (kv.1=k))=(atKey xs k).isSome:=by
  rw [lB,(r.val k).jX,Option.isSome_map]
 unfold putK storedH
 rw [e]
 by_cases q:(atKey xs k).isSome=true
 ·rw [if_pos q,if_pos q]; exact r.repl k ry
 ·rw [if_neg q,if_neg q]; exact cA r ⟨rfl,hb,ry⟩
theorem KT.keeps{xs:List (List Key × Addr × Value)}(r:KT H kvs xs)(ht:∀ b ys,H b=some (.tup ys)->H' b=some (.tup ys)):KT H' kvs xs :=
 Paired.BY r λ _ _ z=>⟨z.1,ht _ _ z.2.1,z.2.2⟩
section
variable {P:Program}{w:World}{H:Hp}{h:Heap}{a:Addr}
theorem Lu{u:HO}(ok:jz P w H h)(e:Rd H a u):cG P w H h a u:=e.ok ok
theorem Lv{kvs:List (Key × V)}(ok:jz P w H h)(e:Rd H a (.dK kvs)):kvs.length <= sizeLine /\ (a == sysModules)=false /\ ∃ vs,KV kvs vs /\ h.DictOf (bW P w) a vs :=
 show cG P w H h a (.dK kvs) from Lu ok e
theorem Rp{kvs:List (Key × V)}(ok:jz P w H h)(e:H a=some (.dK kvs)):kvs.length <= sizeLine /\ (a == sysModules)=false /\ ∃ vs,KV kvs vs /\ h.DictOf (bW P w) a vs:=Lv ok (.inl e)
theorem yU{ks:List Key}(ok:jz P w H h)(e:H a=some (.tup (ks.map kV))):(tupleKind (bW P w)).is h ks a:=by
 obtain ⟨_,its,r,o,h1,h2,n,h3⟩:=(show cG P w H h a (.tup (ks.map kV)) from ok a _ e)
 exact ⟨o,its.toArray,n,h1,h2,h3,by simpa using sy r⟩
theorem Lw(ok:jz P w H h)(e:Rd H a (.dT kvs)):kvs.length <= sizeLine /\ (a == sysModules)=false /\
  ∃ xs,KT H kvs xs /\ h.DictOfH (tupleKind (bW P w)) a xs:=by
 obtain ⟨z,y,xs,r,o,es,ep,h1,h2,h3,h4,h5⟩:=(show cG P w H h a (.dT kvs) from Lu ok e)
 refine ⟨z,y,xs,r,o,es,ep,h1,h2,h3,h4,λ x hx=>?_,h5⟩
 have all:∀ {l:List (List Key × V)} {m:List (List Key × Addr × Value)},KT H l m->∀ x∈m,(tupleKind (bW P w)).is h x.1 x.2.1:=by
  intro l m q
  induction q with
  | nil=>intro x hx; exact nomatch hx
  | @cons p q ps qs hq t ih =>
   intro x hx
   rcases aJ.mp hx with e | hx
   ·subst e
    exact yU ok (by rw [<- hq.1]; exact hq.2.1)
   ·exact ih x hx
 exact all r x hx
theorem Rq(ok:jz P w H h)(e:H a=some (.dT kvs)):kvs.length <= sizeLine /\ (a == sysModules)=false /\
  ∃ xs,KT H kvs xs /\ h.DictOfH (tupleKind (bW P w)) a xs:=Lw ok (.inl e)
end
def yV(H:Hp)(a:Addr)(y:V)(r:Option V):Prop :=
 (∃ kvs k,Rd H a (.dK kvs) /\ y=kV k /\ r=iT kvs k) \/ ∃ kvs k b,Rd H a (.dT kvs) /\ y=.ref b /\ H b=some (.tup (k.map kV)) /\ r=iT kvs k
def vo(H:Hp)(a:Addr)(y v:V)(H':Hp):Prop :=
 (∃ kvs k,H a=some (.dK kvs) /\ y=kV k /\ kvs.length < sizeLine /\ H'=upd H a (.dK (putK kvs k v))) \/
 ∃ kvs k b,H a=some (.dT kvs) /\ y=.ref b /\ H b=some (.tup (k.map kV)) /\ kvs.length < sizeLine /\ H'=upd H a (.dT (putK kvs k v))
theorem yV.k{H:Hp}{a:Addr}{kvs:List (Key × V)}{k:Key}(e:H a=some (.dK kvs)):yV H a (kV k) (iT kvs k):=.inl ⟨kvs,k,.inl e,rfl,rfl⟩
theorem yV.t{a:Addr}{k:List Key}(e:H a=some (.dT kvs))(eb:H b=some (.tup (k.map kV))):yV H a (.ref b) (iT kvs k):=.inr ⟨kvs,k,b,.inl e,rfl,eb,rfl⟩
theorem vo.k{H:Hp}{a:Addr}{kvs:List (Key × V)}{k:Key}{v:V}(e:H a=some (.dK kvs))(hl:kvs.length < sizeLine):vo H a (kV k) v (upd H a (.dK (putK kvs k v))):=.inl ⟨kvs,k,e,rfl,hl,rfl⟩
theorem vo.t{a:Addr}{k:List Key}{v:V}(e:H a=some (.dT kvs))(eb:H b=some (.tup (k.map kV)))(hl:kvs.length < sizeLine):
  vo H a (.ref b) v (upd H a (.dT (putK kvs k v))):=.inr ⟨kvs,k,b,e,rfl,eb,hl,rfl⟩
section
variable {X:Cx}{pins:List (Addr × Obj)}{σ:St}{H:Hp}{s:Shared}{a:Addr}{y v:V}{u r:Value}{o:Option V}{A:Around}{E:Value->Shared->Prop}
theorem Inv.big(I:Inv X pins σ H s):sysModules < s.heap.objs.size:=by
 have h:mainGlobals < s.heap.objs.size:=(I.mod.glob.keeps I.bk).lt
 exact Nat.lt_trans (by decide) h
theorem IK{Q:Value->Shared->Prop}(hu:A.units + 1 < cLine)(I:Inv X pins σ H s)(g:yV H a y o)(ry:RelV y u)(h:∀ s',Inv X pins σ H s'->Q (.bool (!o.isSome)) s'):
  wpAny (model X.prog X.w) A (compareOp .NotIn u (.ref a)) Q E s:=by
 rcases g with ⟨kvs,k,e,ey,l⟩ | ⟨kvs,k,b,e,ey,eb,l⟩
 ·subst ey
  obtain ⟨z,hd,vs,rel,dd⟩:=Lv I.hok e
  refine wpAny_notIn_of (vn ry) hd dd.mapOf ?_
  rw [<- (rel.val k).jX,<- l]
  exact h _ (I.tok _)
 ·subst ey
  cases (show u=Value.ref b from ry)
  obtain ⟨z,hd,xs,rel,dd⟩:=Lw I.hok e
  refine wpAny_notIn_heap (tupleKind_room_in1 hu) (yU I.hok eb) hd dd ?_
  have q:=(rel.val k).jX
  rw [Option.isSome_map] at q
  rw [<- q,<- l]
  exact h _ (I.tok _)
theorem ue{h':Heap}{ob:HO}(I:Inv X pins σ H s)(mu:QJ (H a))(hs:Heap.SameBut a s.heap h')(he:∃ q,h'.get? a=some q)(new:cG X.prog X.w (upd H a ob) h' a ob):
  Inv X pins σ (upd H a ob) { s with heap:=h',toks:=t' } :=
 I.write (x:=a) (e:=a) mu (.inl rfl) (λ b q hb z=>(hs.2 b hb).trans z) he new
theorem Nd{h':Heap}{kvs:List (Key × V)}{vs:List (Key × Value)}(z:kvs.length <= sizeLine)(hd:(a == sysModules)=false)(rel:KV kvs vs)(dd:h'.DictOf (bW P w) a vs):
  cG P w H' h' a (.dK kvs):=⟨z,hd,vs,rel,dd⟩
theorem Ce{Q:Unit->Shared->Prop}(hu:A.units + 1 < cLine)(I:Inv X pins σ H s)(g:vo H a y v H')(ry:RelV y u)(rv:RelV v r)(h:∀ s',Inv X pins σ H' s'->Q () s'):
  wpAny (model X.prog X.w) A (setItem (.ref a) u r) Q E s:=by
 rcases g with ⟨kvs,k,e,ey,l,eH⟩ | ⟨kvs,k,b,e,ey,eb,l,eH⟩
 ·subst ey eH
  obtain ⟨z,hd,vs,rel,dd⟩:=Rp I.hok e
  have hz:vs.length <= sizeLine:=by rw [<- rel.length]; exact z
  have hl:(putK kvs k v).length <= sizeLine:=by have:=jL kvs k v; omega
  refine wpAny_setItem_pairs (hsz:=hz) (vn ry) dd λ h' Qv hs=>h _ ?_
  have he:∃ q,h'.get? a=some q:=let ⟨q,_,_,hq,_⟩:=Qv; ⟨q,hq⟩
  exact ue I (by rw [e]; exact eG) hs he (Nd hl hd (rel.put k rv) Qv)
 ·subst ey eH
  cases (show u=Value.ref b from ry)
  obtain ⟨z,hd,xs,rel,dd⟩:=Rq I.hok e
  have hz:xs.length <= sizeLine:=by rw [<- gu rel]; exact z
  have hl:(putK kvs k v).length <= sizeLine:=by have:=jL kvs k v; omega
  refine wpAny_setItem_heap (hsz:=hz) (tupleKind_room_in1 hu) (yU I.hok eb) dd λ h' Qv hs=>h _ ?_
  obtain ⟨q,es,ep,hq,h2,h3,h4,_,h5⟩:=Qv
  refine ue I (by rw [e]; exact eG) hs ⟨q,hq⟩ ⟨hl,hd,_,(rel.put k eb rv).keeps λ c ys ec=>?_,q,es,ep,hq,h2,h3,h4,h5⟩
  rw [aZ (pT ec e (λ z=>nomatch z))]
  exact ec
end
section
variable {X:Cx}{pins:List (Addr × Obj)}{σ:St}{H:Hp}{s:Shared}{a:Addr}{kvs:List (Key × V)}{k:Key}{u:Value}{A:Around}{E:Value->Shared->Prop}
end
def IL(i:Expr):Prop:=∀ ov iv,subscripted i false ov iv=operate [ov,iv] (getItem ov iv)
theorem Ax{prog:Program}{A:Around}{E:Value->Shared->Prop}{env:Env}{value slice:Expr}{pos:Pos}{T id:String}{Q:Value->Shared->Prop}
  (hl:typeLookup (.type T) "__getitem__" = pure (some (.builtin id)))(hs:IL slice)
  (h:wpAny (model prog w) A (eval value env) (λ o s₁=>wpAny (model prog w) A (eval slice env) (λ i s₂=>s₂.TypeIs o T /\ wpAny (model prog w) A (getItem o i) Q E s₂) E s₁) E s):
  wpAny (model prog w) A (eval (.Subscript value slice pos) env) Q E s:=by
 refine Subscript_ (wpAny_mono h (λ o s₁ h₁=>wpAny_mono h₁ (λ i s₂ h₂=>?_) λ _ _ x=>x) λ _ _ x=>x)
 obtain ⟨hT,h₂⟩:=h₂
 unfold subscriptTail
 refine ao ?_
 rw [getitemInPython_of_ne hT.not_modules]
 refine ao (wpAny_specialOf hT hl ?_)
 have fin:wpAny (model prog w) A (subscripted slice false o i) (λ r s₃=>wpAny (model prog w) A (letTemporaryGo value o r >>= λ _=>pure r) Q E s₃) E s₂:=by
  rw [hs o i]
  exact wpAny_operating (wpAny_mono h₂ (λ r s₃ h₃=>ao (wpAny_letTemporaryGo (aH h₃))) λ _ _ x=>x)
 first
  | exact aH (ao fin)
  | exact ao (aH (ao fin))
  | exact ao fin
def Ay(ty td:TE):TE:=λ σ H Q=>ty σ H λ y H1=>td σ H1 λ x H2=>∃ a o,x=.ref a /\ yV H2 a y o /\ Q (.bl (!o.isSome)) H2
def Lx(td ty tv:TE):TS:=λ D σ H=>tv σ H λ v H1=>td σ H1 λ x H2=>ty σ H2 λ y H3=>∃ a H4,x=.ref a /\ vo H3 a y v H4 /\ D.nx σ H4
section
variable {X:Cx}{o i e value:Expr}{pos pos' tpos:Pos}{td ty tv:TE}
theorem Cf(hu:X.A.units + 1 < cLine)(hi:PE X i ty)(ho:PE X o td):PC X .NotIn i o (Ay ty td):=by
 intro pins s σ H Q I h
 refine cL (hi pins s σ H _ I h) λ iv s1 ⟨y,H1,I1,ry,q1⟩=>cL (ho pins s1 σ H1 _ I1 q1) λ u s2 ⟨x,H2,I2,rx,a,ov,ex,g,q2⟩=>?_
 subst ex
 obtain rfl:u=Value.ref a:=rx
 exact IK hu I2 g ry λ s3 I3=>⟨.bl (!ov.isSome),H2,I3,rfl,q2⟩
theorem Az(hu:X.A.units + 1 < cLine)(ho:PE X o td)(hi:PE X i ty)(hv:PE X value tv)(hs:swapsWith value (some (.Subscript o i pos')) pos.line X.env=pure false):
  PS X (.Assign [.Subscript o i pos'] value pos) (Lx td ty tv):=by
 intro pins s σ H D I h
 refine wpAny_Assign_Subscript (cL (hv pins s σ H _ I h) λ r s1 ⟨v,H1,I1,rv,q1⟩=>cL (ho pins s1 σ H1 _ I1 q1) λ u s2 ⟨x,H2,I2,rx,q2⟩=>cL (hi pins s2 σ H2 _ I2 q2) λ iv s3 ⟨y,H3,I3,ry,a,H4,ex,g,q3⟩=>?_) hs
 subst ex
 obtain rfl:u=Value.ref a:=rx
 exact Ce hu I3 g ry rv λ s4 I4=>⟨σ,H4,I4,q3⟩
end
theorem Ew(h:Heap)(hb:sysModules < h.objs.size):cG P w H (h.push { cls:=.type "dict", data:=.dict #[] }) h.objs.size (.dK []) :=
 ⟨aQ _,beq_eq_false_iff_ne.mpr (bF (aT hb)),[],.nil,Heap.DictOf.new h⟩
theorem Ex(h:Heap)(hb:sysModules < h.objs.size):cG P w H (h.push { cls:=.type "dict", data:=.dict #[] }) h.objs.size (.dT []) :=
 ⟨aQ _,beq_eq_false_iff_ne.mpr (bF (aT hb)),[],.nil,_,#[],0,fR _ rfl,⟨rfl,rfl,rfl⟩,rfl,rfl,jc⟩
def Ey:TE:=λ _ H Q=>∀ p,H p=none->Q (.ref p) (upd H p (.dK []))
def Ez:TE:=λ _ H Q=>∀ p,H p=none->Q (.ref p) (upd H p (.dT []))
section
variable {X:Cx}{pos:Pos}
theorem EA:PE X (.Dict [] [] pos) Ey:=λ pins s σ H Q I h =>
 wpAny_Dict_empty ⟨.ref s.heap.objs.size,_,I.laid (a:=s.heap.objs.size) (o:=.dK []) (t':=s.toks) (λ _ _ q=>cB _ q) (az _) (Ew s.heap I.big),rfl,h _ (I.hok.fresh (az _))⟩
theorem EB:PE X (.Dict [] [] pos) Ez:=λ pins s σ H Q I h =>
 wpAny_Dict_empty ⟨.ref s.heap.objs.size,_,I.laid (a:=s.heap.objs.size) (o:=.dT []) (t':=s.toks) (λ _ _ q=>cB _ q) (az _) (Ex s.heap I.big),rfl,h _ (I.hok.fresh (az _))⟩
end
structure M2 (X:Cx) (o:Expr) (m:Str) (apos:Pos) (e f:Expr) (cpos:Pos):Prop where
 base:attributeBase o m X.env (eval o X.env)=eval o X.env
 few:((backTo cpos (starEach [e,f] X.env)).all (λ x=>!x.1) && (backToKw cpos (keywordEach [] X.env)).all (λ x=>x.1.isSome)
  && decide (([e,f]:List Expr).length + ([]:List Keyword).length + (if ([]:List Keyword).isEmpty then 0 else 1) < 30))=true
 line:(apos.endLine == cpos.line)=true
 trees:backTo cpos (starEach [e,f] X.env)=[(false,eval e X.env),(false,eval f X.env)]
section
variable {X:Cx}{pins:List (Addr × Obj)}{σ:St}{H:Hp}{s:Shared}{a:Addr}{y d:V}{u r:Value}{o:Option V}{A:Around}{E:Value->Shared->Prop}
end
section
variable {X:Cx}{o e f:Expr}{apos cpos:Pos}{td ty tx:TE}
end
section
variable {X:Cx}{pins:List (Addr × Obj)}{σ:St}{H:Hp}{s:Shared}{a:Addr}{kvs:List (Key × V)}{A:Around}{E:Value->Shared->Prop}
end
section
variable {X:Cx}{pins:List (Addr × Obj)}{σ:St}{H:Hp}{s:Shared}{a:Addr}{y:V}{u:Value}{A:Around}{E:Value->Shared->Prop}
end
end L2
namespace WL
open PySem PySem.W PySem.Calls PyProof.Rows
theorem oF{P:Params}{h:Heap}:∀ (ns:List Int) (vs:List Value),WellAll P h vs (ns.map WData.int)->IntsAre vs ns:=by
 intro ns
 induction ns with
 | nil =>
  intro vs w
  rw [List.map_nil] at w
  cases w
  exact .nil
 | cons n ns ih =>
  intro vs w
  rw [bO] at w
  cases w with
  | cons a b =>
   cases a
   exact .cons _ _ (ih _ b)
theorem Cg{l:OpenLaw}{n:Nat}(hn:l.most=some n){P:Params}{h:Heap}{args:List WData}{vals:List Value}
  (hpre:l.row.toRowW.claim.pre args=true)(hwl:WellAll P h vals args):
  ∃ a vs ns,vals=[Value.ref a] /\ args=[WData.list (ns.map WData.int)] /\ h.get? a=some { cls:=.type "list", data:=.seq vs.toArray } /\ IntsAre vs ns /\ ns.length <= n:=by
 have hsh:WShape.hasAll [] args [.list .int]=true:=(pre_splitW hpre).1
 have hc:l.pre.holds [] { args:=args }=true:=(pre_splitW hpre).2
 obtain ⟨d,r,rfl,h1,h2⟩:=hasAllW_cons hsh
 obtain rfl:=hasAllW_nil h2
 obtain ⟨xs,rfl,h3⟩:=hasW_list h1
 obtain ⟨ns,rfl⟩:=items_int h3
 have hlen:ns.length <= n:=by
  unfold OpenLaw.pre at hc
  have h4:(WTm.not (.lt (.lit (.int (n:Int))) (.len (.arg 0)))).holds [] { args:=[.list (ns.map .int)] }=true:=by
   have h4:=(holds_andW hc).1
   rw [hn] at h4
   exact h4
  have h5:=condW_of h4 (w_not (w_lt w_lit (w_len_list (w_arg rfl))))
  rw [au] at h5
  refine Nat.le_of_not_lt λ q=>?_
  have q':(n:Int) < ((ns.length:Nat):Int):=by omega
  first
   | (rw [decide_eq_true q'] at h5; exact absurd h5 (by decide))
   | (simp at h5; omega)
 cases hwl with
 | cons w1 w2 =>
  cases w2
  cases w1 with
  | list ho hall=>exact ⟨_,_,ns,rfl,rfl,ho,oF ns _ hall,hlen⟩
theorem Ci(l:OpenLaw)(args:List WData):l.row.toRowW.claim.post args (.bool true) args=true :=
 postW_of (r:=l.row.toRowW) (X:=(true == true))
  (show WShape.has [] (.bool true) .bool=true by first | rfl | decide | simp [WShape.has,WShape.arms,WShape.armsAll])
  (show (WTm.eq .res (.lit (.bool true))).value [] { args:=args,res:=some (.bool true),after:=args }=some (.bool (true == true)) from w_eq_bool (w_res rfl) w_lit) rfl
theorem nX{l:OpenLaw}{n:Nat}{q:Program}{loose:List Str}{XP:(Str->Option Value)->Heap->Prop}{YP:World->Heap->Prop}{d:DefRec}
  (hn:l.most=some n)(hdf:d.params.defaults=[])
  (call:∀ (w:World) (s₀ s₁:Shared) (mg mb:Str->Option Value) (fa:Addr) (o:Obj) (pm cd doc:Value) (a:Addr) (vs:List Value) (ns:List Int),
   Ground q loose [] XP w s₀ mg mb s₁.heap->YP w s₁.heap ->
   s₁.heap.get? fa=some o->o.data=.func (docDef d.name d.params d.body d.scope pm cd doc)->s₁.heap.CodeRec cd d.name->mg d.name=some (.ref fa) ->
   s₁.heap.get? a=some { cls:=.type "list", data:=.seq vs.toArray } -> IntsAre vs ns->ns.length <= n->s₁.gens=#[] ->
   codeAny (model l.prog w) callerA (.call (.ref fa) ⟨[.ref a],[]⟩) (λ r s'=>r=.ok (.ret (.bool true)) /\ OldK s₁.heap s'.heap /\ s'.os=s₁.os /\ AllBare s'.gens) s₁):
  WalkO q loose XP YP l.row.toRowW d [] (λ f vs=>PySem.call f vs):=by
 intro w s₀ s₁ mg mb G Y fa o pm cd doc dV kV ho hd hcd hD hmg hg args vals as hpre hlay hrd hwl hlo
 obtain rfl:dV=.none:=Dflts.none hD hdf
 obtain rfl:kV=.none:=Dflts.noKw hD
 obtain ⟨a,vs,ns,rfl,rfl,hobj,hints,hlen⟩:=Cg hn hpre hwl
 refine enter_call (codeAny_mono (call w s₀ s₁ mg mb fa o pm cd doc a vs ns G Y ho (fd_plain hd) hcd hmg hobj hints hlen hg) λ r s' hq=>?_)
 obtain ⟨rfl,h2,h3,h4⟩:=hq
 exact ⟨.inl ⟨.bool true,.bool true,[],rfl,λ _=>rfl,.bool true,Ci l _,λ _=>⟨List.Pairwise.nil,λ _ hm=>(nomatch hm)⟩⟩,h2,h3,h4⟩
section
variable {prog:Program}{w:World}{A:Around}{E:Value->Shared->Prop}{s:Shared}{K:Frag}
end
end WL
namespace L2
open PySem PySem.Spec PyProof.Rows
variable {k:Nat}{fd:FuncData}{x qual:Str}{st:Stmt}{f:Addr}{H:Hp}
theorem jY:∀ {vs:List Value} {ns:List Int},IntsAre vs ns->Vals (ns.map V.int) vs
 | _,_,.nil=>.nil
 | _,_,.cons n t h=>.cons ⟨t,rfl⟩ (jY h)
def Nf(H:Hp):Prop:=∀ b,H b=none \/ ∃ o xs,H b=some (.uZ o (.lst xs))
theorem EC{P:Program}{w:World}{K:aA}{mg mb:Str->Option Value}{CX:Ao}{fa a:Addr}{sp:Sp}{s₁:Shared}{vs:List Value}{ns:List Int}
  (KX:K.In s₁.heap)(hns:s₁.heap.Ns mainGlobals mg)(hb:s₁.heap.Ns builtinsNs mb)(WM:∀ x:Str,x ≠ "__name__" -> mb x=bootBuiltins x)(hlim:s₁.heap.NoLimit)(hg:s₁.gens=#[])
  (ha:s₁.heap.get? a=some { cls:=.type "list", data:=.seq vs.toArray })(hi:IntsAre vs ns)(hl:ns.length <= sizeLine)(hr:f6 k callerA)
  (F:∀ base:Heap,K.In base->base.Ns mainGlobals mg->bY P w K mg base CX k fa fd [x] sp)(hbind:∀ (s:Shared) (u:Value),BindsTo s fd ⟨[u],[]⟩ [(x,u)])
  (u5:∀ H:Hp,Nf H->bD K H a (ns.map V.int)->sp [.ref a] H (λ v _=>v=.bl true) λ _ _ _=>False)
  (Rr:∀ H e s',CX [] H s₁ (λ _ _ _=>False) e s'->False):
  codeAny (model P w) callerA (.call (.ref fa) ⟨[.ref a],[]⟩) (λ r s'=>r=.ok (.ret (.bool true)) /\ OldK s₁.heap s'.heap /\ s'.os=s₁.os /\ AllBare s'.gens) s₁:=by
 have rv:=jY hi
 have WN:=hi.length
 have core:∀ H:Hp,Nf H->bD K H a (ns.map V.int)->jz P w H s₁.heap->(∀ b,H b ≠ none->b=a)->(H a ≠ none->K.lookup a=none) ->
   codeAny (model P w) callerA (.call (.ref fa) ⟨[.ref a],[]⟩) (λ r s'=>r=.ok (.ret (.bool true)) /\ OldK s₁.heap s'.heap /\ s'.os=s₁.os /\ AllBare s'.gens) s₁:=by
  intro H hO hS hok hA hK
  have AA:∀ {b:Addr} {o:Obj},s₁.heap.get? b=some o->H b=none->(m8 s₁.heap H).get? b=some o:=λ e n=>k9 e n
  have Rf:∀ {b:Addr} {o:Obj} {es:Array DictEntry} {ep:Nat},s₁.heap.get? b=some o->o.data=.dict es ep->H b=none:=λ {b o es ep} e d=>by
   cases q:H b with
   | none=>rfl
   | some u =>
    have e':b=a:=hA b (by rw [q]; simp)
    subst e'
    rw [ha] at e; cases e
    have d':Data.seq vs.toArray _=Data.dict es ep:=d
    cases d'
  have Vg:∀ {b:Addr} {m:Str->Option Value},s₁.heap.Ns b m->(m8 s₁.heap H).Ns b m:=λ {b m} ⟨o,es,ep,e,d,r⟩=>⟨o,es,ep,AA e (Rf e d),d,r⟩
  have Z2:K.In (m8 s₁.heap H):=λ b o e=>AA (KX b o e) (by
   cases q:H b with
   | none=>rfl
   | some u =>
    have e':b=a:=hA b (by rw [q]; simp)
    subst e'
    rw [hK (by rw [q]; simp)] at e; cases e)
  have hM:Mod K mg (m8 s₁.heap H):=⟨Z2,Vg hns,⟨mb,Vg hb,WM⟩,let ⟨mc,h1,h2⟩:=hlim; ⟨mc,Vg h1,h2⟩⟩
  have e0:vf P w K mg (m8 s₁.heap H) callerA [] s₁ H:=⟨rfl,hM,λ b o e=>Ai e,Nat.le_of_eq (r9 _ _),trivial,λ b hb=>absurd (show b∈([]:List Addr) from hb) (by simp),hok,.of_eq hg⟩
  refine codeAny_mono ((F _ Z2 (Vg hns)).run callerA [] s₁ H ⟨[.ref a],[]⟩ [.ref a] [.ref a] _ _ hr e0 (hbind s₁ (.ref a)) (.cons rfl .nil) (u5 H hO hS)) λ r s' h=>?_
  cases r with
  | error e=>exact (Rr H e s' h).elim
  | ok fl =>
   cases fl with
   | next=>exact False.elim h
   | brk=>exact False.elim h
   | cont=>exact False.elim h
   | ret u =>
    obtain ⟨v,H',os,bare,un,IM,r',q⟩:=h
    have q':v=.bl true:=q
    subst q'
    obtain rfl:u=Value.bool true:=r'
    refine ⟨rfl,OldK.of_keep λ b o e=>?_,os,bare⟩
    cases q:H b with
    | none=>exact un.keep b o e q (by intro z; exact absurd (show b∈([]:List Addr) from z) (by simp)) (by simp)
    | some u =>
     rcases hO b with z | ⟨ob,xs,z⟩
     ·rw [q] at z; cases z
     ·have z2:=un.k7 b ob _ z
      obtain ⟨e1,_⟩:=hok b _ z
      obtain ⟨e2,_⟩:=IM b _ z2
      rw [e] at e1; cases e1
      exact e2
 cases hk:K.lookup a with
 | some o =>
  have e:=KX a o hk
  rw [ha] at e
  cases e
  refine core (λ _=>none) (λ _=>.inl rfl) (.inr ⟨_,vs.toArray,_,hk,rfl,rfl,rfl,by rw [aV,WN]; exact hl,by simpa using rv⟩) (λ b u z=>by have z':(none:Option HO)=some u:=z; cases z') (λ b z=>absurd rfl z) λ z=>absurd rfl z
 | none =>
  refine core (λ b=>if b=a then some (.uZ { cls:=.type "list", data:=.seq vs.toArray } (.lst (ns.map V.int))) else none) (λ b=>?_) (.inl (.inr ⟨{ cls:=.type "list", data:=.seq vs.toArray },if_pos rfl⟩)) (λ b u z=>?_) (λ b z=>?_) λ _=>hk
  ·by_cases hb:b=a
   ·exact .inr ⟨_,_,if_pos hb⟩
   ·exact .inl (if_neg hb)
  ·by_cases hb:b=a
   ·have z':=(if_pos hb).symm.trans z
    cases z'
    subst hb
    exact ⟨ha,by rw [au]; exact hl,vs,_,rv,ha⟩
   ·have z':=(if_neg hb).symm.trans z
    cases z'
  ·by_cases hb:b=a
   ·exact hb
   ·exact absurd (if_neg hb) z
abbrev KOf{K:aA}{h:Heap}(_:K.In h):aA:=K
theorem Vh{l:PySem.W.OpenLaw}{n:Nat}{q:Program}{loose:List Str}{XP:(Str->Option Value)->Heap->Prop}{YP:World->Heap->Prop}{d:DefRec}{K:Params->aA}{CX:World->Ao}{sp:World->Sp}
  (hn:l.most=some n)(hn2:n <= sizeLine)(hdf:d.params.defaults=[])(hr:f6 k callerA)
  (hY:∀ (w:World) (h:Heap),YP w h->(K w.params).In h)
  (F:∀ (w:World) (mg:Str->Option Value) (fa:Addr) (h:Heap),(K w.params).In h->h.Ns mainGlobals mg->mg d.name=some (.ref fa) ->
   ∃ fd:FuncData,(∀ (s:Shared) (u:Value),BindsTo s fd ⟨[u],[]⟩ [(x,u)]) /\
    ∀ base:Heap,(K w.params).In base->base.Ns mainGlobals mg->bY l.prog w (K w.params) mg base (CX w) k fa fd [x] (sp w))
  (u5:∀ (w:World) (H:Hp) (a:Addr) (ns:List Int),ns.length <= n->Nf H->bD (K w.params) H a (ns.map V.int)->sp w [.ref a] H (λ v _=>v=.bl true) λ _ _ _=>False)
  (Rr:∀ (w:World) (H:Hp) (s:Shared) (e:Value) (s':Shared),CX w [] H s (λ _ _ _=>False) e s'->False):
  PySem.W.WalkO q loose XP YP l.row.toRowW d [] (λ f vs=>PySem.call f vs):=by
 refine WL.nX hn hdf λ w s₀ s₁ mg mb fa o pm cd doc a vs ns G Y ho hd hcd hmg hobj hints hlen hg=>?_
 have KX:=hY w _ Y
 obtain ⟨fd,hb,hF⟩:=F w mg fa _ KX G.T.g hmg
 exact EC KX G.T.g G.T.b G.T.builtins G.T.nolimit hg hobj hints (bE hlen hn2) hr hF hb (λ H hO hS=>u5 w H a ns hlen hO hS) λ H e s'=>Rr w H s₁ e s'
def iw(s:Stmt):Arguments:=match s with
 | .FunctionDef _ a _ _ _ _ _ _ _ _=>a
 | _=>{ posonlyargs:=[],args:=[],vararg:=none,kwonlyargs:=[],kw_defaults:=[],kwarg:=none,defaults:=[] }
def fJ(s:Stmt):List Stmt:=match s with
 | .FunctionDef _ _ b _ _ _ _ _ _ _=>b
 | _=>[]
def aB(s:Stmt):Scope:=match s with
 | .FunctionDef _ _ _ _ _ _ sc _ _ _=>sc
 | _=>{ kind:=.function,names:=[],isGenerator:=false,isCoroutine:=false }
abbrev gr:Ao:=λ _ _ _ _ _ _=>False
abbrev E0:XK:=λ _ _ _=>False
theorem Rt{X:Cx}:Passes gr X E0:=λ _ _ _ _ _ _ _ h=>h.elim
structure Ly (K:aA) (x qual:Str) (st:Stmt) (f:Addr) (fd:FuncData):Prop where
 ex:∃ (oc:Value) (od:Option Addr) (kV doc pm:Value) (an:Option Addr) (cdv ct:Value) (osl:Array (Option Value)),
  fd=PySem.W.fnOf x qual (iw st) (fJ st) (aB st) .none kV doc pm an cdv ct /\ K.lookup f=some ⟨oc,od,.func fd,osl⟩ /\ PySem.W.codeIn K cdv qual=true
 kp:PySem.W.keepIn K (.ref f)=true
section
variable {P:Program}{w:World}{K:aA}{mg:Str->Option Value}{base:Heap}
theorem Ly.ok{N ps:List Str}{sp:Sp}(F:Ly K x qual st f fd)(S:aP N ps (aB st))(len:∀ vs H Q E,sp vs H Q E->vs.length=ps.length)
  (hbody:∀ (cdv:Value) (A:Around) (outer:List Env) (s:Shared) (H:Hp) (vs:List V) (Q:VK) (E:XK),f6 k (A.deeper (envOfC qual (aB st) s.heap.objs.size f cdv))->sp vs H Q E ->
   ∃ t,rM (tW gr P w K mg base N qual (aB st) f cdv A outer s H E).B4 (fJ st) t /\ t { nx:=λ _ H'=>Q .c6 H',rt:=Q } (start N vs) H):bY P w K mg base gr (k + 1) f fd ps sp:=by
 obtain ⟨oc,od,kV,doc,pm,an,cdv,ct,osl,rfl,lk,hcd⟩:=F.ex
 refine Ej lk hcd S len λ A outer s H vs Q E hr u5=>?_
 obtain ⟨t,h,q⟩:=hbody cdv A outer s H vs Q E hr u5
 exact ⟨t,h.B4,q⟩
theorem Ly.binds{ps:List Str}(F:Ly K x qual st f fd)
  (h:∀ (kV doc pm:Value) (an:Option Addr) (cdv ct:Value) (us:List Value),us.length=ps.length->bindArgs (PySem.W.fnOf x qual (iw st) (fJ st) (aB st) .none kV doc pm an cdv ct) ⟨us,[]⟩=pure (ps.zip us)):Binds K fd ps []:=by
 obtain ⟨oc,od,kV,doc,pm,an,cdv,ct,osl,rfl,lk,hcd⟩:=F.ex
 exact .all (h kV doc pm an cdv ct)
theorem ED{oc:Value}{od an:Option Addr}{osl:Array (Option Value)}{kV doc pm cdv ct:Value}(l:K.lookup f=some ⟨oc,od,.func (PySem.W.fnOf x qual (iw st) (fJ st) (aB st) .none kV doc pm an cdv ct),osl⟩)
  (c:PySem.W.codeIn K cdv qual=true)(k:PySem.W.keepIn K (.ref f)=true):Ly K x qual st f (PySem.W.fnOf x qual (iw st) (fJ st) (aB st) .none kV doc pm an cdv ct):=⟨⟨oc,od,kV,doc,pm,an,cdv,ct,osl,rfl,l,c⟩,k⟩
end
theorem EE{A:Around}(hr:f6 k A):A.units + 1 < cLine:=Nat.lt_of_le_of_lt (Nat.add_le_add_left (by decide:1 <= 64) _) hr.units
section
variable {X:Cx}
theorem pv(i:Nat){pos:Pos}(hN:X.N[i]? = some x:=by rfl)(hv:Wz X.env.scope x:=by first | exact ay rfl | exact bL (ay rfl) | exact bL (bL rfl))(hd:(x == ("__debug__" : Str))=false:=by decide)
  (hcd:(x == ("__classdict__" : Str))=false:=by decide):PE X (.Name x pos) (j9 i):=MJ hN hv hd hcd
end
theorem Ru{A B:Prop}(h:B):if false=true then A else B:=by
 rw [if_neg ic]
 exact h
theorem Rv{A B:Prop}(h:A):if true=true then A else B:=by
 rw [if_pos rfl]
 exact h
def aE(H H':Hp):Prop:=∀ b o,H b=some o->H' b=some o
theorem aE.refl(H:Hp):aE H H:=λ _ _ h=>h
theorem aE.trans{H1 H2:Hp}(a:aE H H1)(b:aE H1 H2):aE H H2:=λ c o h=>b c o (a c o h)
theorem aE.free{H':Hp}(e:aE H H'){l:Addr}(h:H' l=Option.none):H l=Option.none:=by
 cases q:H l with
 | none=>rfl
 | some o =>
  rw [e l o q] at h
  cases h
theorem aE.seq{K:aA}{H':Hp}{a:Addr}{xs:List V}(e:aE H H')(h:bD K H a xs):bD K H' a xs:=by
 rcases h with (h | ⟨o,h⟩) | h
 ·exact .inl (.inl (e _ _ h))
 ·exact .inl (.inr ⟨o,e _ _ h⟩)
 ·exact .inr h
section
variable {X:Cx}
end
section
variable {κ:Type} [DecidableEq κ]
end
end L2
namespace BT
open PySem
theorem iy:bootBuiltins "len" = some (.builtin "len"):=by decide +kernel
theorem Rw:bootBuiltins "all" = some (.builtin "all"):=by decide +kernel
theorem fK:bootBuiltins "isinstance" = some (.builtin "isinstance"):=by decide +kernel
theorem AB:bootBuiltins "int" = some (.type "int"):=by decide +kernel
theorem Ng:bootBuiltins "bool" = some (.type "bool"):=by decide +kernel
theorem uf:bootBuiltins "list" = some (.type "list"):=by decide +kernel
theorem AD:bootBuiltins "tuple" = some (.type "tuple"):=by decide +kernel
theorem EF:bootBuiltins "dict" = some (.type "dict"):=by decide +kernel
theorem AE:bootBuiltins "set" = some (.type "set"):=by decide +kernel
theorem yW:bootBuiltins "reversed" = some (.type "reversed"):=by decide +kernel
end BT
namespace L2
open PySem PySem.Spec PyProof.Rows
variable {elt iter:Expr}{ifs:List Expr}{scope:Scope}{pos px:Pos}{x:Str}{cl:List (Str × Addr)}{fr:List Str}{ix:List Nat}{tt:TT}{te:TE}
section
variable {X:Cx}
def IP(t u:TS):TS:=λ D σ H=>∃ J:St->Hp->Prop,t { D with nx:=J } σ H /\ ∀ σ' H',J σ' H'->u D σ' H'
theorem lC{st:Stmt}{rest:List Stmt}{t u:TS}(h1:PS X st t)(h2:rM X rest u):rM X (st :: rest) (IP t u):=by
 intro pins s σ H D I h
 obtain ⟨J,h,k⟩:=h
 refine wpAny_execs_cons (cL (h1 pins s σ H _ I h) λ f s1 q=>?_)
 cases f with
 | next =>
  obtain ⟨σ1,H1,I1,j⟩:=q
  exact h2 pins s1 σ1 H1 D I1 (k σ1 H1 j)
 | brk=>exact q
 | cont=>exact q
 | ret u=>exact q
end
section
variable {prog:Program}{w:World}{A:Around}{R:Result->Shared->Prop}{s:Shared}
theorem lD{target:Expr}{it acc:Value}{env:Env}(I:Nat->Shared->Prop)
  (turn:∀ n s,I n s->wpAny (model prog w) A (pyNext it) (λ r s₁=>match r with
   | none=>R (.ok .next) s₁
   | some v=>wpAny (model prog w) A (letOwnedTupleGo target it v) (λ _ s₀=>wpAny (model prog w) A (assign target env v) (λ _ s₂ =>
     wpAny (model prog w) A (forIn ifs true λ c r=>if r=true then do let ok <- isTrue c env (eval c env); pure (ForInStep.yield ok) else pure (ForInStep.yield r)) (λ ok s₃ =>
      if ok=true then wpAny (model prog w) A (eval elt env) (λ x s₄ =>
       wpAny (model prog w) A (call (.builtin "list.append") [acc,x]) (λ _ s₅=>∃ m,m < n /\ I m s₅) (notedBy (model prog w) A env λ e s'=>R (.error e) s') s₄) (notedBy (model prog w) A env λ e s'=>R (.error e) s') s₃
      else ∃ m,m < n /\ I m s₃) (notedBy (model prog w) A env λ e s'=>R (.error e) s') s₂) (notedBy (model prog w) A env λ e s'=>R (.error e) s') s₀) (notedBy (model prog w) A env λ e s'=>R (.error e) s') s₁) (notedBy (model prog w) A env λ e s'=>R (.error e) s') s)
  (n:Nat)(h:I n s):
  codeAny (model prog w) A (.compLoop (.ListComp elt [⟨target,iter,ifs,0⟩] scope pos) 0 it acc env) R s:=by
 refine codeAny_loop rfl I (λ n s hI=>?_) n h
 show wpAny _ A ((compTurn (.ListComp elt [⟨target,iter,ifs,0⟩] scope pos) 0 it acc env).onRaise (λ x=>do noteFrame x env; theTreesLotGoes x)) _ _ s
 refine wpAny_noted ?_
 rw [compTurn_list]
 refine ao (wpAny_standAt (ao (wpAny_mono (turn n s hI) (λ r s₁ h₁=>?_) λ _ _ h'=>h')))
 cases r with
 | none=>exact aH h₁
 | some v =>
  refine ao (wpAny_mono h₁ (λ _ s₀ h₀=>?_) λ _ _ h'=>h')
  refine ao (wpAny_mono h₀ (λ _ s₂ h₂=>ao (wpAny_mono h₂ (λ ok s₃ h₃=>?_) λ _ _ h'=>h')) λ _ _ h'=>h')
  cases ok with
  | false=>exact aH ⟨rfl,h₃⟩
  | true =>
   exact ao (ao (wpAny_mono h₃ (λ x s₄ h₄=>ao (wpAny_mono h₄ (λ _ s₅ h₅=>aH (aH ⟨rfl,h₅⟩)) λ _ _ h'=>h')) λ _ _ h'=>h'))
end
def kr(X:Cx)(N:List Str)(scope:Scope)(cl:List (Str × Addr))(C:Addr)(fp:List Addr)(s:Shared)(H:Hp):Cx where
 prog:=X.prog
 w:=X.w
 K:=X.K
 mg:=X.mg
 base:=X.base
 A:=X.A
 N:=N
 s₀:=s
 H₀:=H
 env:=compEnvC scope cl C X.env
 outer:=X.stack
 stack:=X.stack
 ex:=fp
 fn:=λ _=>false
 calm:=X.calm
 pn:=[]
 xe:=λ _ _=>False
structure bN (X:Cx) (scope:Scope) (cl:List (Str × Addr)) (x:Str) (fr:List Str) (ix:List Nat):Prop where
 calm:X.calm=true
 clos:closureFor scope X.env=pure cl
 cell:∀ y∈scope.names,y.2 ≠ .cell
 kind:scope.kind=.function
 names:∀ y∈scope.names,y.2=.local->scope.names.lookup y.1=some .local
 loc:scope.names.lookup x=some .local
 nd:(x :: fr).Nodup
 DW:∀ y c,cl.lookup y=some c->X.env.cells.lookup y=some c
 EG:∀ y,((relabel scope X.env).names.lookup y=some .cell \/ (relabel scope X.env).names.lookup y=some .free)->∃ c,cl.lookup y=some c
 fx:∀ (j:Nat) y,fr[j]? = some y->∃ i:Nat,ix[j]? = some i /\ X.N[i]? = some y /\ (X.env.kindOf y=some .cell \/ X.env.kindOf y=some .free) /\ ((relabel scope X.env).names.lookup y=some .cell \/ (relabel scope X.env).names.lookup y=some .free)
 len:fr.length=ix.length
def PF(X:Cx)(ifs:List Expr)(t:TT):Prop :=
 ∀ (pins:List (Addr × Obj)) (s:Shared) (σ:St) (H:Hp) (Q:Bool->Hp->Prop),Inv X pins σ H s->t σ H Q ->
  wpAny (model X.prog X.w) X.A (forIn ifs true λ c r=>if r=true then do let ok <- isTrue c X.env (eval c X.env); pure (ForInStep.yield ok) else pure (ForInStep.yield r)) (TP X pins σ Q) X.xe s
def Rx:TT:=λ _ H Q=>Q true H
theorem dW{X:Cx}:PF X [] Rx:=λ _ _ _ H _ I h=>wpAny_tests_nil ⟨H,I,h⟩
theorem kP{X:Cx}{c:Expr}{t:TT}(h:PT X c t):PF X [c] t:=λ pins s σ H Q I q=>wpAny_tests_one (h pins s σ H Q I q)
def cut(ix:List Nat)(σ:St):St:=ix.map λ i=>(σ[i]?).join
section
variable {X:Cx}{pins:List (Addr × Obj)}{σ:St}{H:Hp}{s:Shared}
theorem Inv.vp{D:Addr}{o:HO}(I:Inv X pins σ H s)(f:dU X pins H D)(new:cG X.prog X.w (upd H D o) s.heap D o):Inv X pins σ (upd H D o) s:=by
 have hn:H D=none:=f.1
 have ne:∀ b u,H b=some u->b ≠ D:=λ b u e=>bx e hn
 have hok:jz X.prog X.w (upd H D o) s.heap:=λ b u e=>by
  by_cases hb:b=D
  ·subst hb
   rw [cS] at e; cases e
   exact new
  ·rw [aZ hb] at e
   exact (I.hok b u e).stay (λ _ _ _ q=>q) (λ c q=>by rw [aZ (ne _ _ q)]; exact q) λ c xs q=>by rw [aZ (ne _ _ q)]; exact q
 exact I.step (H':=upd H D o) (h':=s.heap) (g':=s.gens) (t':=s.toks) (d':=s.drawn) (ch:=[D]) (λ b hb=>by
   have e:b=D:=by simpa using hb
   subst e; exact ⟨f.2.2.2.1,f.2.1,f.2.2.2.2.1,f.2.2.2.2.2⟩)
  (λ b o _ _ _ e _=>e) (λ b o _ _ _ e _=>⟨o.slots,e⟩) (λ b o hb e n=>by rw [aZ (λ z=>hb (by simp [z]))]; exact n)
  (λ b o _ e=>⟨o,e⟩) (λ b xs e=>by rw [aZ (ne _ _ e)]; exact e) (λ b o u e=>by rw [aZ (ne _ _ e)]; exact e) (λ b ps e=>⟨#[],by rw [aZ (ne _ _ e),e]; simp⟩)
  (λ m hm=>hm) hok I.bare
theorem qc{E:Value->Shared->Prop}{RR:Value->Addr->Result->Shared->Prop}
  (O:bN X scope cl x fr ix)(ht:∀ C fp s H,PF (kr X (x :: fr) scope cl C fp s H) ifs tt)(he:∀ C fp s H,PE (kr X (x :: fr) scope cl C fp s H) elt te)
  {it:Addr}{fp:List Addr}{tn:Nat->Heap->Prop}{J:It}{H2:Hp}{s2:Shared}(I2:Inv X pins σ H2 s2)(T:Turn X.prog X.w X.K (.Name x px) J fp it tn)(st2:tn 0 s2.heap)(f2:∀ b∈fp,dU X pins H2 b)
  (Z:List V->Hp->Prop)(W:Nat->Nat->List V->Hp->Prop)(m0:Nat)(w0:W 0 m0 [] H2)
  (turn:∀ i m ys H,W i m ys H->(J.stop i H /\ Z ys H) \/ (J.go i H /\ ys.length < sizeLine /\ ∃ N:List V->Hp->Prop,(∀ ys' H',N ys' H'->∃ m',m' < m /\ W (i + 1) m' ys' H') /\
   ∀ v H',J.DV i H v H'->tt (some v :: cut ix σ) H' λ b H3=>if b=true then te (some v :: cut ix σ) H3 λ y H4=>N (ys++[y]) H4 else N ys H3))
  (hRR:∀ D C s' ys H',Inv X pins σ (upd H' D (.lst ys)) s'->(∃ m,s'.heap.Ns C m)->dU X pins (upd H' D (.lst ys)) C->H' D=none->Z ys H'->RR (.ref D) C (.ok .next) s'):
  wpAny (model X.prog X.w) X.A (newList []) (λ acc s₃=>wpAny (model X.prog X.w) X.A (newFunctionEnv scope X.env.globals cl [] X.env.qual none .none (some X.env)) (λ cenv s₄ =>
   codeAny (model X.prog X.w) X.A (.compStart (.ListComp elt [⟨.Name x px,iter,ifs,0⟩] scope pos) 0 (.ref it) acc { cenv with scope:=relabel scope X.env }) (RR acc cenv.locals) s₄) E s₃) E s2:=by
 refine wpAny_newObj_type (wpAny_newFunctionEnv O.cell (by intro y hy; simp at hy) (λ h₁ yX ug=>?_) O.kind)
 dsimp only at yX ug ⊢
 generalize hG:s2.heap.push { cls:=.type "list", dict:=none,data:=.seq ([]:List Value).toArray }=G at yX ug ⊢
 have hC:G.objs.size=s2.heap.objs.size + 1:=by rw [<- hG,dP]
 have hDC:s2.heap.objs.size ≠ G.objs.size:=by rw [hC]; exact aT (kK _)
 have yY:s2.heap.objs.size <= G.objs.size:=by rw [hC]; exact kJ _
 have below:∀ b,b < s2.heap.objs.size->b ≠ G.objs.size /\ b ≠ s2.heap.objs.size:=λ b hb=>⟨by rw [hC]; exact aT (je hb),aT hb⟩
 have old:∀ b o,s2.heap.get? b=some o->h₁.get? b=some o:=λ b o e=>ug.extBut b o (below b (aF e)).1 (cB _ (hG ▸ cB _ e))
 have hacc:h₁.get? s2.heap.objs.size=some { cls:=.type "list", data:=.seq ([]:List Value).toArray }:=ug.extBut _ _ hDC (cB _ (hG ▸ fR _ rfl))
 have Ry:H2 s2.heap.objs.size=none:=I2.hok.fresh (az _)
 have Rz:H2 G.objs.size=none:=I2.hok.fresh yY
 have fD:dU X pins H2 s2.heap.objs.size:=I2.kg (az _) Ry
 have fC:dU X pins H2 G.objs.size:=I2.kg yY Rz
 have yZ:∀ b∈fp,b < s2.heap.objs.size:=λ b hb=>by
  obtain ⟨o,e,_⟩:=T.obj _ _ st2 b hb
  exact aF e
 have sA:∀ b∈frs X.stack,b∈X.env.locals :: X.fs:=I2.pU
 have dX:=O.DW
 have ok:(kr X (x :: fr) scope cl G.objs.size fp s2 H2).Ok:=by
  refine ⟨I2.ok.mod,O.kind,I2.ok.glob,I2.ok.blt,yY,λ y z c h1 h2=>I2.ok.inj y z c (dX y c h1) (dX z c h2),λ y hy=>O.EG y hy,λ y c h _=>absurd h ic,λ h=>I2.ok.hd h,I2.ok.frames,.inl rfl,λ b hb=>?_,I2.bs,bE I2.ok.DU I2.sz,λ b o e hb=>?_,λ b hb hs=>?_,I2.stack,I2.oK⟩
  ·exact ⟨(below b (yZ b hb)).1,λ y c e=>(f2 b hb).2.2.2.2.1 y c (dX y c e)⟩
  ·rcases (f2 b hb).2.2.2.1 with z | z
   ·exact I2.ok.BZ b o e z
   ·exact absurd (cg (aF (I2.ok.bs b o e).1) z) (dH _)
  ·rcases aJ.mp (sA b hs) with z | z
   ·exact (f2 b hb).2.1 z
   ·exact (f2 b hb).2.2.1 z
 have RA:∀ b,s2.heap.objs.size <= b->b ∉ frs X.stack:=λ b hb hs=>by
  rcases aJ.mp (sA b hs) with z | z
  ·exact absurd (cg I2.lt (z ▸ hb)) (dH _)
  ·exact I2.MH hb z
 have Ic:Inv (kr X (x :: fr) scope cl G.objs.size fp s2 H2) [(s2.heap.objs.size,{ cls:=.type "list", data:=.seq ([]:List Value).toArray })] (none :: cut ix σ) H2 { s2 with heap:=h₁,toks:=s2.toks + ([]:List (Str × Value)).length }:=by
  refine ⟨ok,rfl,I2.bare,Un.kept old,⟨_,yX,λ i y v h1 h2 h3=>?_⟩,λ y c e=>?_,Rz,λ y c e=>I2.gM y c (dX y c e),λ p hp=>?_,I2.hok.kept old,?_⟩
  ·cases i with
   | zero=>cases h2
   | succ j =>
    have h1:fr[j]? = some y:=h1
    have h2:(cut ix σ)[j]? = some (some v):=h2
    obtain ⟨i,e1,e2,k,kc⟩:=O.fx j y h1
    obtain ⟨c,e3⟩:=O.EG y kc
    have e4:σ[i]? = some (some v):=by
     unfold cut at h2
     rw [aY,e1] at h2
     have h2:some ((σ[i]?).join)=some (some v):=h2
     have h2:=Option.some.inj h2
     cases q:σ[i]? with
     | none=>rw [q] at h2; cases h2
     | some z=>rw [q] at h2; exact congrArg some h2
    obtain ⟨m,_,hl⟩:=I2.loc
    obtain ⟨u,r,l⟩:=hl i y v e2 e4 (k.elim (λ z=>.inr (.inl z)) λ z=>.inr (.inr z))
    refine ⟨u,r,.inr ⟨kc,c,e3,?_⟩⟩
    rcases l with ⟨l1,_⟩ | ⟨_,c',l2,l3⟩
    ·rcases k with k | k <;> (rw [k] at l1; cases l1)
    ·have e5:=dX y c e3
     rw [l2] at e5; cases e5
     obtain ⟨o,ho,hd⟩:=l3
     exact ⟨o,old _ _ ho,hd⟩
  ·obtain ⟨v,o,ho,hd⟩:=I2.cell y c (dX y c e)
   exact ⟨v,o,old _ _ ho,hd⟩
  ·have e:p=(s2.heap.objs.size,{ cls:=.type "list", data:=.seq ([]:List Value).toArray }):=by simpa [kr] using hp
   subst e
   exact ⟨hacc,Ry,hDC,RA _ (az _),λ v z=>by cases z⟩
  ·show (none :: cut ix σ).length=(x :: fr).length
   unfold cut
   simp [O.len]
 have za:∀ b∈fp,b ≠ s2.heap.objs.size:=λ b hb=>(below b (yZ b hb)).2
 have pX:∀ {pl:List (Addr × Obj)} {H':Hp},(∀ p∈pl,p.1=s2.heap.objs.size)->(∀ b∈fp,H' b=none)->∀ b∈fp,dU (kr X (x :: fr) scope cl G.objs.size fp s2 H2) pl H' b:=λ {pl H'} hp hn b hb =>
  ⟨hn b hb,(below b (yZ b hb)).1,λ hs=>ok.B0 b hb hs,.inl hb,λ y c e=>(f2 b hb).2.2.2.2.1 y c (dX y c e),λ p IQ z=>za b hb (z.symm.trans (hp p IQ))⟩
 have one:∀ {o:Obj},∀ p∈[(s2.heap.objs.size,o)],p.1=s2.heap.objs.size:=λ p hp=>by
  have e:=aC.mp hp
  rw [e]
 have loop:codeAny (model X.prog X.w) X.A (.compLoop (.ListComp elt [⟨.Name x px,iter,ifs,0⟩] scope pos) 0 (.ref it) (.ref s2.heap.objs.size) (compEnvC scope cl G.objs.size X.env)) (RR (.ref s2.heap.objs.size) G.objs.size)
   { s2 with heap:=h₁,toks:=s2.toks + ([]:List (Str × Value)).length }:=by
  refine lD (λ n s'=>∃ (i:Nat) (ys:List V) (its:List Value) (c:Nat) (z:Option V) (H':Hp),Inv (kr X (x :: fr) scope cl G.objs.size fp s2 H2) [(s2.heap.objs.size,{ cls:=.type "list", data:=.seq its.toArray c })] (z :: cut ix σ) H' s' /\ tn i s'.heap /\ (∀ b∈fp,H' b=none) /\ Vals ys its /\ ys.length <= sizeLine /\ W i n ys H') ?_ m0
   ⟨0,[],[],0,none,H2,Ic,T.keep _ _ _ st2 (λ b _ o e=>old b o e),λ b hb=>(f2 b hb).1,.nil,aQ _,w0⟩
  rintro n s3 ⟨i,ys,its,c,z,H3,I3,st3,Lj,rv,hl3,w3⟩
  rcases turn i n ys H3 w3 with ⟨stop,zz⟩ | ⟨go,hlt,N,hN,step⟩
  ·refine wpAny_mono (T.done (kr X (x :: fr) scope cl G.objs.size fp s2 H2) rfl rfl rfl O.calm i _ s3 _ H3 _ I3 (pX one Lj) st3 stop) (λ r s4 h4=>?_) λ _ _ e=>e
   obtain ⟨hr,I4⟩:=h4
   subst hr
   have pD:=I4.pin _ (bI _ (aC.mpr rfl))
   have IX:Inv X pins σ H3 s4:=I2.D6 I4.os I4.base I4.hok I4.bare λ b hb=>⟨(f2 b hb).2.2.2.1,(f2 b hb).2.1,(f2 b hb).2.2.2.2.1,(f2 b hb).2.2.2.2.2⟩
   obtain ⟨mC,WO,_⟩:=I4.loc
   exact hRR _ _ s4 ys H3 (IX.vp ⟨pD.2.1,fD.2⟩ ⟨hl3,its,c,rv,pD.1⟩) ⟨mC,WO⟩ ⟨by rw [aZ (bF hDC)]; exact I4.free,fC.2⟩ pD.2.1 zz
  ·refine wpAny_mono (T.item (kr X (x :: fr) scope cl G.objs.size fp s2 H2) rfl rfl rfl O.calm i _ s3 _ H3 _ I3 (pX one Lj) st3 go) (λ r s4 h4=>?_) λ _ _ e=>e
   obtain ⟨u,hr,h4⟩:=h4
   subst hr
   refine wpAny_mono h4 (λ _ s5 h5=>?_) λ _ _ e=>e
   obtain ⟨v,H5,I5,r5,y5,yJ,Q3⟩:=h5
   have Q4:=I5.pinned (pX one Q3) (T.obj _ _ yJ)
   refine wpAny_assign_Name (pV Q4 (i:=0) O.nd rfl (.inl (lookup_relabel_local O.loc)) r5 (λ s6 I6=>?_) (.inr (lookup_relabel_local O.loc)))
   have I6:Inv (kr X (x :: fr) scope cl G.objs.size fp s2 H2) _ (some v :: cut ix σ) H5 s6:=I6
   refine wpAny_mono (ht _ _ _ _ _ s6 _ H5 _ I6 (step v H5 y5)) (λ ok s7 h7=>?_) λ _ _ f=>False.elim f
   obtain ⟨H7,I7,q7⟩:=h7
   cases ok with
   | true =>
    rw [if_pos rfl] at q7 ⊢
    refine wpAny_mono (he _ _ _ _ _ s7 _ H7 _ I7 q7) (λ uy s8 h8=>?_) λ _ _ f=>False.elim f
    obtain ⟨y,H8,I8,r8,n8⟩:=h8
    have pD:=I8.pin _ (bI _ (iK _ (aC.mpr rfl)))
    have rl:=rv.length
    refine append_at (hsz:=by rw [aV]; omega) pD.1 λ h9 RB WQ=>?_
    obtain ⟨m',hm,w9⟩:=hN _ _ n8
    have Ia:Inv (kr X (x :: fr) scope cl G.objs.size fp s2 H2) (jH fp s5.heap) (some v :: cut ix σ) H8 s8:=I8.jW λ p hp=>I8.pin p (bI _ (bI _ hp))
    have Ib:=Ia.turned (h':=h9) (t':=s8.toks) (it:=s2.heap.objs.size) (λ b o hb e=>RB.extBut b o hb e) pD.2.1 hDC (.inr (az _)) (λ y c e=>fD.2.2.2.2.1 y c (dX y c e))
     λ p hp=>by
      obtain ⟨hb,_⟩:=nv (fp:=fp) (h:=s5.heap) (show p∈jH fp s5.heap from hp)
      exact za p.1 hb
    refine ⟨m',hm,i + 1,ys++[y],its++[uy],c + 1,some v,H8,Ib.jW λ p hp=>?_,T.keep _ _ _ yJ λ b hb o e=>?_,λ b hb=>?_,rv.append (.cons r8 .nil),by rw [bh,fX]; omega,w9⟩
    ·have e:=aC.mp hp
     subst e
     refine ⟨?_,pD.2.1,hDC,pD.2.2.2.1,λ v z=>by cases z⟩
     have q:its.toArray.push uy=(its++[uy]).toArray:=by simp
     rw [<- q]
     exact WQ
    ·exact RB.extBut b o (za b hb) (I8.pin (b,o) (bI _ (bI _ (cW hb e)))).1
    ·obtain ⟨o,e,d⟩:=T.obj _ _ yJ b hb
     exact (I8.pin (b,o) (bI _ (bI _ (cW hb e)))).2.1
   | false =>
    rw [if_neg ic] at q7 ⊢
    obtain ⟨m',hm,w9⟩:=hN _ _ q7
    refine ⟨m',hm,i + 1,ys,its,c,some v,H7,I7.jI,T.keep _ _ _ yJ λ b hb o e=>?_,λ b hb=>?_,rv,hl3,w9⟩
    ·exact (I7.pin (b,o) (bI _ (bI _ (cW hb e)))).1
    ·obtain ⟨o,e,d⟩:=T.obj _ _ yJ b hb
     exact (I7.pin (b,o) (bI _ (bI _ (cW hb e)))).2.1
 exact codeAny_compStart_list loop (T.self _ 0 _ _ _ (T.keep _ _ _ st2 λ b _ o e=>old b o e) loop)
def EH(wi:TI)(tt:TT)(te:TE)(ix:List Nat):TE:=λ σ H Q=>wi σ H λ J H1=>∃ W:Nat->Nat->List V->Hp->Prop,(∃ m,W 0 m [] H1) /\ ∀ i m ys H,W i m ys H ->
 (J.stop i H /\ ∀ p,H p=none->Q (.ref p) (upd H p (.lst ys))) \/ (J.go i H /\ ys.length < sizeLine /\ ∃ N:List V->Hp->Prop,(∀ ys' H',N ys' H'->∃ m',m' < m /\ W (i + 1) m' ys' H') /\
  ∀ v H',J.DV i H v H'->tt (some v :: cut ix σ) H' λ b H3=>if b=true then te (some v :: cut ix σ) H3 λ y H4=>N (ys++[y]) H4 else N ys H3)
theorem cT{wi:TI}(O:bN X scope cl x fr ix)(hi:PI X (.Name x px) iter wi)
  (ht:∀ C fp s H,PF (kr X (x :: fr) scope cl C fp s H) ifs tt)(he:∀ C fp s H,PE (kr X (x :: fr) scope cl C fp s H) elt te)
  (hs:∀ v,foldedSetIterable iter X.env v=pure v:=by intro _; rfl):PE X (.ListComp elt [⟨.Name x px,iter,ifs,0⟩] scope pos) (EH wi tt te ix):=by
 intro pins s σ H Q I h
 rw [eval_ListComp]
 refine wpAny_comprehension_free (use:=none) rfl hs O.clos O.kind O.names (cL (hi pins s σ H _ I h) λ v s1 h1=>cL h1 λ itv s2 h2=>?_)
 obtain ⟨it,fp,tn,J,H2,e,I2,T,st2,f2,W,⟨m0,w0⟩,turn⟩:=h2
 subst e
 refine qc O ht he I2 T st2 f2 (λ ys H=>∀ p,H p=none->Q (.ref p) (upd H p (.lst ys))) W m0 w0 turn λ D C s' ys H' I' hm fC hD z=>?_
 obtain ⟨m,hm⟩:=hm
 refine ⟨m,hm,λ h' hs'=>?_⟩
 exact ⟨.ref D,_,I'.turned (t':=s'.toks) (it:=C) (λ b o hb e=>hs'.extBut b o hb e) fC.1 fC.2.1 fC.2.2.2.1 fC.2.2.2.2.1 fC.2.2.2.2.2,rfl,z D hD⟩
def EI(te:TE)(i:Nat):TS:=λ D σ H=>te σ H λ v H1=>D.nx (σ.set i (some v)) H1
theorem lE{i:Nat}{y:Str}{py spos:Pos}{wi:TI}(hN:X.N.Nodup)(WR:X.N[i]? = some y)(hy:Loc X.env.scope y)
  (O:bN X scope cl x fr ix)(hi:PI X (.Name x px) iter wi)
  (ht:∀ C fp s H,PF (kr X (x :: fr) scope cl C fp s H) ifs tt)(he:∀ C fp s H,PE (kr X (x :: fr) scope cl C fp s H) elt te)
  (hsw:swapsWith (.ListComp elt [⟨.Name x px,iter,ifs,0⟩] scope pos) (some (.Name y py)) spos.line X.env=pure true:=by rfl)
  (hs:∀ v,foldedSetIterable iter X.env v=pure v:=by intro _; rfl)(hf:X.fn y=true \/ X.env.scope.names.lookup y=some .local:=by first | exact .inl rfl | exact .inr rfl | assumption):
  PS X (.Assign [.Name y py] (.ListComp elt [⟨.Name x px,iter,ifs,0⟩] scope pos) spos) (EI (EH wi tt te ix) i):=by
 intro pins s σ H D I h
 rw [exec_Assign_Name_used _ _ _ _ hsw]
 refine ao (wpAny_standAt (ao ?_))
 show wpAny _ X.A (do let _ <- comprehension (.ListComp elt [⟨.Name x px,iter,ifs,0⟩] scope pos) scope X.env _ (newList []) false (eval iter X.env) (some (assign (.Name y py) X.env))) _ _ s
 refine ao (wpAny_mono (wpAny_comprehension_free (use:=some (assign (.Name y py) X.env)) (Q:=λ _ s'=>SP X pins D .next s') rfl hs O.clos O.kind O.names
  (cL (hi pins s σ H _ I h) λ v s1 h1=>cL h1 λ itv s2 h2=>?_)) (λ _ s' hq=>aH (aH hq)) λ _ _ e=>e)
 obtain ⟨it,fp,tn,J,H2,e,I2,T,st2,f2,W,⟨m0,w0⟩,turn⟩:=h2
 subst e
 refine qc O ht he I2 T st2 f2 (λ ys H=>∀ p,H p=none->D.nx (σ.set i (some (.ref p))) (upd H p (.lst ys))) W m0 w0 turn λ L C s' ys H' I' hm fC hD z=>?_
 obtain ⟨m,hm⟩:=hm
 show wpAny _ X.A (assign (.Name y py) X.env (.ref L)) _ _ _
 refine wpAny_assign_Name (nh I' hN WR hy (v:=.ref L) rfl (λ s'' WS IS=>?_) hf)
 obtain ⟨a,IS,ha⟩:=IS
 have WT:C ≠ a:=by
  rcases ha with z | z
  ·rw [z]; exact fC.2.1
  ·exact bF (fC.2.2.2.2.1 _ _ z)
 refine ⟨m,hm.sameBut IS WT,λ h' hs'=>?_⟩
 exact ⟨_,_,WS.turned (t':=s''.toks) (it:=C) (λ b o hb e=>hs'.extBut b o hb e) fC.1 fC.2.1 fC.2.2.2.1 fC.2.2.2.2.1 fC.2.2.2.2.2,z L hD⟩
theorem bN.plain(calm:X.calm=true)(cell:∀ y∈scope.names,y.2 ≠ .cell)(free:∀ y∈scope.names,y.2 ≠ .free)(kind:scope.kind=.function)
  (names:∀ y∈scope.names,y.2=.local->scope.names.lookup y.1=some .local)(loc:scope.names.lookup x=some .local):bN X scope [] x [] [] where
 calm:=calm
 clos:=closureFor_none free
 cell:=cell
 kind:=kind
 names:=names
 loc:=loc
 nd:=by simp
 DW:=λ y c h=>by cases h
 EG:=λ y h=>by
  exfalso
  have mem:∀ {k:NameKind},(relabel scope X.env).names.lookup y=some k->∃ z∈scope.names,(if (z.2 == .free && X.env.scope.kind == .function && X.env.kindOf z.1 == some .cell) then (z.1,NameKind.cell) else (z.1,z.2))=(y,k):=λ {k} e=>by
   have q:=fG e
   obtain ⟨z,hz,e⟩:=aG.mp q
   exact ⟨z,hz,e⟩
  rcases h with h | h
  ·obtain ⟨z,hz,e⟩:=mem h
   have n1:=free z hz
   have n2:(z.2 == NameKind.free)=false:=by cases hk:z.2 <;> first | rfl | exact absurd hk n1
   rw [n2,pK,pK,if_neg ic] at e
   exact cell z hz (congrArg Prod.snd e)
  ·obtain ⟨z,hz,e⟩:=mem h
   have n1:=free z hz
   have n2:(z.2 == NameKind.free)=false:=by cases hk:z.2 <;> first | rfl | exact absurd hk n1
   rw [n2,pK,pK,if_neg ic] at e
   exact n1 (congrArg Prod.snd e)
 fx:=λ j y h=>by cases j <;> cases h
 len:=rfl
end
section
variable {X:Cx}
theorem EJ:cO X (.builtin "isinstance") (λ xs H Q=>∃ x T t b,xs=[x,.ty T] /\ g7 X.K H x t /\ PySem.W.kitOne X.K t (.type T)=some b /\ Q (.bl b) H):=by
 intro pins s σ H xs us Q I r h
 obtain ⟨x,T,t,b,rfl,ty,e,q⟩:=h
 obtain ⟨u,u',rfl,r1,r2⟩:=vals2 r
 cases r2
 exact Cc I r1 ty e λ tk=>⟨.bl b,H,I.tok tk,rfl,q⟩
theorem sC{prog:Program}{w:World}{A:Around}{E:Value->Shared->Prop}{it t:Addr}{items:Array Value}(hne:t ≠ it):∀ (n i:Nat) (s:Shared) (Q:List Value->Shared->Prop),s.heap.IsListIter it t i->s.heap.IsList t items->i + n <= items.size ->
  (∀ h',h'.IsListIter it t (i + n)->Heap.SameBut it s.heap h'->Q ((items.toList.drop i).take n) { s with heap:=h' })->wpAny (model prog w) A (draw (.ref it) n) Q E s
 | 0,i,s,Q,hit,_,_,hQ=>by
  show wpAny _ _ (pure []) Q E s
  exact aH (by simpa using hQ s.heap hit (pN ..))
 | n + 1,i,s,Q,hit,ht,hle,hQ=>by
  have hlt:i < items.size:=by omega
  show wpAny _ _ (pyNext (.ref it) >>= _) Q E s
  refine ao (wpAny_pyNext_list_item hit ht (x:=items[i]) (by simp [hlt]) λ h₁ Nh hs₁=>?_)
  refine ao (wpAny_holding (sC hne n (i + 1) _ _ Nh (ht.extBut hs₁.extBut hne) (by omega) λ h₂ WU hs₂=>aH ?_))
  have hd:items.toList.drop i=items[i] :: items.toList.drop (i + 1):=by simp [List.drop_eq_getElem_cons,hlt]
  have:=hQ h₂ (by rw [show i + (n + 1)=i + 1 + n by omega]; exact WU) (hs₁.trans hs₂)
  rw [hd,List.take_succ_cons] at this
  exact this
theorem vq{prog:Program}{w:World}{A:Around}{E:Value->Shared->Prop}{s:Shared}{t:Addr}{items:Array Value}{targets:List (Bool × (Value->Sem Unit))}{Q:Unit->Shared->Prop}(hh:A.handled=none)(ht:s.heap.IsList t items)
  (hn:targets.length=items.size)(hstar:targets.findIdx? (·.1)=none)
  (h:∀ h',Heap.ExtBut s.heap.objs.size s.heap h'->wpAny (model prog w) A (assignInOrder (targets.map (·.2)) items.toList) Q E { s with heap:=h' }):
  wpAny (model prog w) A (unpack (.ref t) targets) Q E s:=by
 have hlt:t ≠ s.heap.objs.size:=by obtain ⟨o,ho,_⟩:=ht; exact aT (aF ho)
 unfold unpack
 rw [hn,hstar]
 refine ao (wpAny_holding ?_)
 unfold unpackItems
 refine ao ?_
 unfold notIterableAtAll
 refine ao (wpAny_specialOf ht.typeIs F.slot_list_iter.lookup ?_)
 refine aH ?_
 simp only [bG,if_false]
 refine ao (wpAny_holding (wpAny_pyIter_list ht ?_))
 refine ao (wpAny_holding (sC hlt items.size 0 _ _ ⟨_,fR _ rfl,rfl,rfl⟩ (ht.push _) (by omega) λ h₁ Nh hs₁=>?_))
 have hall:List.take items.size (List.drop 0 items.toList)=items.toList:=by
  rw [List.drop_zero]; exact List.take_of_length_le (by simp)
 rw [hall]
 rw [if_neg (by simp)]
 have ht₁:h₁.IsList t items:=(ht.push _).extBut hs₁.extBut hlt
 refine ao (wpAny_holding (wpAny_pyNext_list_end hh Nh ht₁ (by simp) λ h₂ he₂=>?_))
 simp only [Option.isSome_none,bG,if_false]
 exact aH (h h₂ λ b o hb e=>he₂ b o hb (hs₁.extBut b o hb (cB _ e)))
def RC(K:aA)(n:Nat)(t:B5):TG:=λ v σ H Q=>∃ a xs,v=.ref a /\ bD K H a xs /\ xs.length=n /\ t xs σ H Q
theorem Ni{es:List Expr}{k:Nat}{t:B5}{n:Nat}(hc:X.calm=true)(h:Qs X es t)
  (hn:(assignEach es X.env).length=n:=by rfl)(hst:(assignEach es X.env).findIdx? (·.1)=none:=by rfl):PG X (.Tuple es k pos) (RC X.K n t):=by
 intro pins s σ H v u Q I r hw
 obtain ⟨a,xs,e1,hq,hl,hw⟩:=hw
 subst e1
 cases r
 obtain ⟨its,rv,pl,hz⟩:=I.list hq
 rw [assign_Tuple]
 refine ao (wpAny_standAt (vq (I.ok.hd hc) pl.isList (by simp [hn,<- hl,rv.length]) hst λ h' hx=>?_))
 have I1:Inv X pins σ H { s with heap:=h' }:=I.kept (t':=s.toks) λ b o e=>hx b o (aT (aF e)) e
 exact h pins _ σ H xs _ Q I1 (by simpa using rv) hw
end
end L2
namespace RV
open PySem
variable {t:Addr}
theorem Cj:Manifest.owners.lookup (String.ofList ['d','e','s','r','e','v','e','r'].reverse)=some Manifest.sig_reversed:=by kernel_rfl
theorem slot_next:Slot "reversed" "__next__" "reversed.__next__" :=
 .of (owner := "reversed") (n := "__next__") (by rw [typeLookup_type,builtinLookup_eq_fast]; kernel_rfl) (by decide +kernel) (by decide +kernel) (by decide +kernel)
  (by first | exact .inl (by decide +kernel) | exact .inr (by decide +kernel)) (by rw [isSubtype_type]; kernel_rfl)
theorem entry_next:entryFor table "reversed.__next__" = some Builtin.«reversed.__next__»:=entryFor_of_tree (by kernel_rfl)
theorem args_next(a:Value):argsOk "reversed.__next__" ⟨[a],[]⟩:=by
 unfold argsOk; rw [signature?_of (id := "reversed.__next__") (n:=['_','_','t','x','e','n','_','_']) (o:=['d','e','s','r','e','v','e','r']) (by kernel_rfl) Cj]; kernel_rfl
def vt(h:Heap)(a t:Addr)(i:Int):Prop:=∃ o,h.get? a=some o /\ o.cls=.type "reversed" /\ o.data=.fields #[.ref t,rawInt i]
section
variable {prog:Program}{w:World}{A:Around}{E:Value->Shared->Prop}{s:Shared}
theorem vt.typeIs{a:Addr}{i:Int}(x:vt s.heap a t i):s.TypeIs (.ref a) "reversed" := let ⟨o,ho,hc,_⟩:=x; ⟨o,ho,hc⟩
theorem vt.at{h h':Heap}{a:Addr}{i:Int}(x:vt h a t i)(e:∀ o,h.get? a=some o->h'.get? a=some o):vt h' a t i:=let ⟨o,ho,r⟩:=x; ⟨o,e _ ho,r⟩
theorem next_item{it:Addr}{i:Nat}{items:Array Value}{x:Value}{Q:Option Value->Shared->Prop}(hit:vt s.heap it t (i:Int))(ht:PyProof.Rows.IsTup s.heap t items)(hx:items[i]? = some x)(hfit:items.size < 2 ^ 62)
  (hQ:∀ h' tk,vt h' it t ((i:Int) - 1)->Heap.SameBut it s.heap h'->Q (some x) { s with heap:=h',toks:=tk }):wpAny (model prog w) A (pyNext (.ref it)) Q E s:=by
 obtain ⟨o,ho,hc,hd⟩:=id hit
 have hlt:i < items.size:=by
  rw [jB] at hx
  exact hx.1
 have hj:seqIndex? (i:Int) items.size=some i:=by
  have h1:¬ ((i:Int) < 0):=by omega
  unfold seqIndex?
  simp [h1,hlt]
 unfold pyNext
 refine ao (wpAny_attempt (wpAny_callSpecial?_slot (name:=Str.ofString "__next__") hit.typeIs slot_next
  (wpAny_call_entry slot_next hit.typeIs entry_next ?_ (args_next _))))
 unfold Builtin.«reversed.__next__»
 refine ao (wpAny_of_eq (a:=(Value.ref it,[])) rfl ?_)
 try dsimp only
 refine ao (wpAny_field ho hd (x:=.ref t) rfl ?_)
 refine ao (wpAny_field ho hd (x:=rawInt (i:Int)) rfl ?_)
 show wpAny _ _ (if (i:Int) < 0 then _ else _) _ _ s
 rw [if_neg (by omega)]
 refine ao (wpAny_specialOf ht.typeIs PyProof.Rows.slot_tuple_getitem.lookup ?_)
 refine wpAny_ite_split (λ hab=>absurd hab (by decide)) (λ _=>?_)
 refine ao (wpAny_mkInt ?_)
 refine ao (wpAny_attempt (PyProof.Rows.getItem_tuple ht (by omega) (by omega) hj hx ?_))
 try dsimp only
 refine ao (wpAny_field ho hd (x:=rawInt (i:Int)) rfl ?_)
 refine ao (wpAny_setField ho hd (by simp) ?_)
 refine aH ⟨x,rfl,aH (hQ _ _ ?_ (iI ..))⟩
 exact ⟨_,dO _ ho (jf (dI hd _)),(kL ..).trans hc,by
  rw [dI hd]; simp⟩
theorem next_end{it:Addr}{Q:Option Value->Shared->Prop}(hh:A.handled=none)(hit:vt s.heap it t (-1))
  (hQ:∀ h',Heap.ExtBut it s.heap h'->Q none { s with heap:=h' }):wpAny (model prog w) A (pyNext (.ref it)) Q E s:=by
 obtain ⟨o,ho,hc,hd⟩:=id hit
 unfold pyNext
 refine ao (wpAny_attempt (wpAny_callSpecial?_slot (name:=Str.ofString "__next__") hit.typeIs slot_next
  (wpAny_call_entry slot_next hit.typeIs entry_next ?_ (args_next _))))
 unfold Builtin.«reversed.__next__»
 refine ao (wpAny_of_eq (a:=(Value.ref it,[])) rfl ?_)
 try dsimp only
 refine ao (wpAny_field ho hd (x:=.ref t) rfl ?_)
 refine ao (wpAny_field ho hd (x:=rawInt (-1)) rfl ?_)
 show wpAny _ _ (if (-1:Int) < 0 then _ else _) _ _ s
 rw [if_pos (by decide)]
 refine ao (wpAny_rule ?_)
 refine ao ?_
 wp_delta
 refine ao (wpAny_setField ho hd (by simp) ?_)
 have ho2:=dO (Obj.mapFields (·.setIfInBounds 1 (rawInt (-1)))) ho (jf (dI hd _))
 refine wpAny_setField ho2 (dI hd _) (by simp) ?_
 refine ao ?_
 show wpAny _ _ (newExc (.type "StopIteration") [] >>= _) _ _ _
 refine ao ?_
 simp only [newExc,newTuple]
 refine ao (wpAny_newObj_type ?_ (by size_fits))
 refine ao (m:=firstArgMember _ _) (wpAny_of_eq (a:=Value.none) (by first | rfl | (simp only [firstArgMember]; rfl)) ?_)
 refine wpAny_newObj_type ?_ (by size_fits)
 simp only [raiseNew]
 refine ao (wpAny_handled ?_)
 first | rw [show A.in1.handled=none from hh] | rw [hh]
 refine ao (aH (wpAny_throw ?_))
 refine ao (wpAny_isInstance (T := "StopIteration") (b:=true) ⟨_,fR _ rfl,rfl⟩ isSubtype_stop ?_)
 refine aH (hQ _ λ b o' hb e=>?_)
 refine cB _ (cB _ ?_)
 exact (fB _ _ (bF hb)).trans ((fB _ _ (bF hb)).trans e)
variable {I:Addr}{fp wr:List Addr}{n:Nat}{P:Nat->Value->Prop}{St:Nat->Heap->Prop}{T:String}
end
end RV
namespace L2
open PySem PySem.Spec PyProof.Rows
variable {v x:V}{i j:Int}{b:Bool}{tl:TA}{g:TG}{A B:Prop}{p q a:Addr}{o:HO}{H':Hp}{xs:List V}{T:String}{R:It->Hp->Prop}{X:Cx}{y x0 x1 x2 x3 x4 x5 x6 x7 x8 x9 IZ:Option V}
section
variable {X:Cx}{tg:Expr}
end
section
variable {K:aA}{nx bk ct:St->Hp->Prop}{rt:VK}{σ:St}{H:Hp}{Q:VK}{P:Bool->Hp->Prop}{ta tb tc te:TE}{t u:TS}{c d:TT}
theorem Nj(h:nx σ H):Lc ⟨nx,rt,bk,ct⟩ σ H:=h
theorem EK(J:St->Hp->Prop)(h:t ⟨J,rt,bk,ct⟩ σ H)(k:∀ σ' H',J σ' H'->u ⟨nx,rt,bk,ct⟩ σ' H'):IP t u ⟨nx,rt,bk,ct⟩ σ H:=⟨J,h,k⟩
theorem RE(h:te σ H rt):QV te ⟨nx,rt,bk,ct⟩ σ H:=h
theorem Nk(h:te σ H λ _ H1=>nx σ H1):Ld te ⟨nx,rt,bk,ct⟩ σ H:=h
theorem s_c(h:Q v H):tC v σ H Q:=h
theorem WV{r:R2}(h:ta σ H λ x H1=>tb σ H1 λ y H2=>r x y H2 Q):MR r ta tb σ H Q:=h
theorem WW{r:V->Hp->VK->Prop}(h:ta σ H λ x H1=>r x H1 Q):ZW r ta σ H Q:=h
theorem s_u{g:Int->V}(h:Q (g i) H):rU g (.int i) H Q:=⟨i,rfl,h⟩
def nY(P:Bool->Hp->Prop):VK:=λ x H=>∃ k,x=.bl k /\ P k H
theorem RG(h:P b H):nY P (.bl b) H:=⟨b,rfl,h⟩
theorem Nl(h:te σ H (nY P)):Ln te σ H P:=h
theorem s_b(h:te σ H (nY P)):tB te σ H P:=h
theorem RH(h:c σ H λ b H1=>if b=true then d σ H1 P else P false H1):QO c d σ H P:=h
theorem WX(h:c σ H λ b H1=>if b=true then P true H1 else d σ H1 P):ZT c d σ H P:=h
theorem RI(h:c σ H λ b H1=>P (!b) H1):QS c σ H P:=h
theorem RJ(h:c σ H λ b H1=>if b=true then ta σ H1 Q else tb σ H1 Q):ZU c ta tb σ H Q:=h
theorem Nm(h:ta σ H (nY λ b H1=>if b=true then tb σ H1 Q else Q (.bl false) H1)):La ta tb σ H Q:=h
theorem RK(h:ta σ H (nY λ b H1=>if b=true then Q (.bl true) H1 else tb σ H1 Q)):QT ta tb σ H Q:=h
theorem WY{g:Int->Int->V}(h:Q (g i j) H):IA g (.int i) (.int j) H Q:=⟨i,j,rfl,rfl,h⟩
theorem s_i{C:Int->Int->Prop}{g:Int->Int->V}(hc:C i j)(h:Q (g i j) H):rI C g (.int i) (.int j) H Q:=⟨i,j,rfl,rfl,hc,h⟩
theorem RL(h:Q (.bl (decide (i=j))) H):WH (.int i) (.int j) H Q:=⟨rfl,by rw [show decide (V.int i=V.int j)=decide (i=j) by simp]; exact h⟩
theorem RM{i j:Str}(h:Q (.bl (decide (i=j))) H):WH (.str i) (.str j) H Q:=⟨rfl,by rw [show decide (V.str i=V.str j)=decide (i=j) by simp]; exact h⟩
theorem RN(h:Q (.bl (!decide (i=j))) H):ZX (.int i) (.int j) H Q:=⟨rfl,by rw [show decide (V.int i=V.int j)=decide (i=j) by simp]; exact h⟩
theorem s_call{sp:Sp}{E:XK}(h:tl σ H λ vs H1=>sp vs H1 Q E):Ei sp [] E tl σ H Q:=by
 show tl σ H λ vs H1=>sp (vs++[]) H1 Q E
 simpa only [dQ] using h
theorem RO{R:List V->Hp->Prop}(h:R [] H):Ra σ H R:=h
theorem Nn{R:List V->Hp->Prop}(h:ta σ H λ x H1=>tl σ H1 λ xs H2=>R (x :: xs) H2):Lo ta tl σ H R:=h
theorem WZ{r:List V->Hp->VK->Prop}(h:tl σ H λ vs H1=>r vs H1 Q):WK r tl σ H Q:=h
theorem RP(h:te σ H λ x H1=>g x σ H1 nx):MP te g ⟨nx,rt,bk,ct⟩ σ H:=h
theorem AF(h1:b=true->A)(h2:b=false->B):if b=true then A else B:=by
 cases b
 ·rw [if_neg ic]; exact h2 rfl
 ·rw [if_pos rfl]; exact h1 rfl
theorem zb{p:Prop}[Decidable p](h1:p->A)(h2:¬ p->B):if decide p=true then A else B:=AF (λ h=>h1 (of_decide_eq_true h)) λ h=>h2 (of_decide_eq_false h)
theorem Np{p:Prop}[Decidable p](hp:p)(h:A):if decide p=true then A else B:=zb (λ _=>h) λ n=>absurd hp n
theorem Nq{p:Prop}[Decidable p](hp:¬ p)(h:B):if decide p=true then A else B:=zb (λ n=>absurd n hp) λ _=>h
theorem EL{p:Prop}[Decidable p](h1:¬ p->A)(h2:p->B):if (!decide p)=true then A else B:=AF (λ h=>h1 (by simpa using h)) λ h=>h2 (by simpa using h)
theorem Nr{p:Prop}[Decidable p](hp:p)(h:B):if (!decide p)=true then A else B:=EL (λ n=>absurd hp n) λ _=>h
theorem RQ(h:B):if (!true)=true then A else B:=Ru h
theorem RS(h:A):if (!false)=true then A else B:=Rv h
def eE(H:Hp)(p:Addr)(o:HO)(H':Hp):Prop:=H p=none /\ H'=upd H p o
def kh(H:Hp)(p:Addr)(o:HO)(H':Hp):Prop:=H'=upd H p o
theorem eE.self(n:eE H p o H'):H' p=some o:=by rw [n.2]; exact cS
theorem eE.keep{v:HO}(n:eE H p o H')(h:H q=some v):H' q=some v:=by rw [n.2,aZ (bx h n.1)]; exact h
theorem eE.same(n:eE H p o H'):aE H H':=λ _ _ h=>n.keep h
theorem eE.none{H':Hp}(n:eE H p o H')(h:H' q=Option.none):H q=Option.none:=n.same.free h
theorem eE.ne{v:HO}{H':Hp}(n:eE H p o H')(h:H q=some v):q ≠ p:=bx h n.1
theorem kh.self(n:kh H p o H'):H' p=some o:=by rw [show H'=upd H p o from n]; exact cS
theorem kh.keep{v:HO}(n:kh H p o H')(ne:q ≠ p)(h:H q=some v):H' q=some v:=by rw [show H'=upd H p o from n,aZ ne]; exact h
theorem kh.none{v:HO}(n:kh H p o H')(hp:H p=some v)(h:H q=Option.none):H' q=Option.none:=by rw [show H'=upd H p o from n,aZ (λ e=>by rw [e,hp] at h; cases h)]; exact h
def RT(xs:List V)(H:Hp)(Q:VK):Prop:=xs.length <= sizeLine /\ ∀ p,H p=none->Q (.ref p) (upd H p (.tup xs))
def RU(xs:List V)(H:Hp)(Q:VK):Prop:=xs.length <= sizeLine /\ ∀ p,H p=none->Q (.ref p) (upd H p (.lst xs))
theorem RW(h:tl σ H λ xs H1=>RT xs H1 Q):Rb tl σ H Q:=h
theorem RX(h:tl σ H λ xs H1=>RU xs H1 Q):Rc tl σ H Q:=h
theorem Nt(hz:xs.length <= 1000)(h:∀ p H',eE H p (.tup xs) H'->Q (.ref p) H'):RT xs H Q:=⟨bE hz (by decide),λ p hp=>h p _ ⟨hp,rfl⟩⟩
theorem Nu(hz:xs.length <= 1000)(h:∀ p H',eE H p (.lst xs) H'->Q (.ref p) H'):RU xs H Q:=⟨bE hz (by decide),λ p hp=>h p _ ⟨hp,rfl⟩⟩
theorem dz(hS:bD K H p xs)(hv:rN xs i=some v)(h:Q v H):M8 K (.ref p) (.int i) H Q:=⟨p,xs,i,v,rfl,rfl,hS,hv,h⟩
theorem qd(hS:gm K H p xs)(hv:rN xs i=some v)(h:Q v H):M9 K (.ref p) (.int i) H Q:=⟨p,xs,i,v,rfl,rfl,hS,hv,h⟩
theorem Lz{z:Str}{ch:Nat}(hz:z.length <= 1000)(hv:rN z.cps.toList i=some ch)(h:Q (.str ⟨#[ch]⟩) H):Rh (.str z) (.int i) H Q:=⟨z,i,ch,rfl,rfl,bE hz (by decide),hv,h⟩
theorem RY(hS:bD K H p xs \/ gm K H p xs)(h1:iR x=true)(h2:xs.all iR=true)(h:Q (.bl (nW x xs)) H):Rj K false x (.ref p) H Q:=⟨p,xs,rfl,hS,h1,h2,h⟩
theorem RZ(hS:bD K H p xs \/ gm K H p xs)(h1:iR x=true)(h2:xs.all iR=true)(h:Q (.bl (!nW x xs)) H):Rj K true x (.ref p) H Q:=⟨p,xs,rfl,hS,h1,h2,h⟩
theorem W2{r:V->List V->Hp->VK->Prop}(h:ta σ H λ x H1=>Qu K T x H1 /\ tl σ H1 λ xs H2=>r x xs H2 Q):Z1 K T r ta tl σ H Q:=h
theorem R1{r:V->List V->Hp->VK->Prop}(h:ta σ H λ x H1=>Qu K T x H1 /\ r x [] H1 Q):Rk K T r ta σ H Q:=h
theorem EM{l:Addr}{y:V}(hl:H l=some (.lst xs))(hz:xs.length < 1000000)(h:∀ H',kh H l (.lst (xs++[y])) H'->Q .c6 H'):Av (.ref l) [y] H Q:=⟨l,xs,y,rfl,rfl,hl,cg hz (by decide),h _ rfl⟩
theorem s_pop{l:Addr}{y:V}(hl:H l=some (.lst xs))(hy:xs[xs.length - 1]? = some y)(h:∀ H',kh H l (.lst xs.dropLast) H'->Q y H'):Rm (.ref l) [] H Q:=⟨l,xs,y,rfl,rfl,hl,hy,h _ rfl⟩
def R3(K:aA)(R:It->Hp->Prop):V->Hp->Prop:=λ x H=>∃ a,x=.ref a /\ (∃ xs,bD K H a xs) /\ R (Iw K a) H
def R4(K:aA)(R:It->Hp->Prop):V->Hp->Prop:=λ x H=>∃ a,x=.ref a /\ (∃ xs,gm K H a xs) /\ R (Lf K a) H
theorem Nv{tl:TE}(h:tl σ H (R3 K R)):Lg K tl σ H R:=h
theorem IT{tl:TE}(h:tl σ H (R4 K R)):Q0 K tl σ H R:=h
theorem zc(hb:b=true)(h:A):if b=true then A else B:=AF (λ _=>h) λ n=>by rw [hb] at n; cases n
theorem zd(hb:b=false)(h:B):if b=true then A else B:=AF (λ n=>by rw [hb] at n; cases n) λ _=>h
def Nx(K:aA):List V->Hp->VK->Prop:=λ xs H Q=>∃ p ys,xs=[.ref p] /\ (bD K H p ys \/ gm K H p ys) /\ Q (.int ys.length) H
theorem dG:cO X (.builtin "len") (Nx X.K):=uc
theorem R5{ys:List V}(hS:bD K H p ys \/ gm K H p ys)(h:Q (.int ys.length) H):Nx K [.ref p] H Q:=⟨p,ys,rfl,hS,h⟩
def LA:List V->Hp->VK->Prop:=λ xs H Q=>(∃ i,xs=[.int i] /\ Q (.int i) H) \/ ∃ k,xs=[.bl k] /\ Q (.int (if k then 1 else 0)) H
theorem nB:cO X (.type "int") LA:=Ca
theorem Ny(h:Q (.int (if b then 1 else 0)) H):LA [.bl b] H Q:=.inr ⟨b,rfl,h⟩
def Nz(K:aA):List V->Hp->VK->Prop:=λ xs H Q=>∃ x T t b,xs=[x,.ty T] /\ g7 K H x t /\ PySem.W.kitOne K t (.type T)=some b /\ Q (.bl b) H
theorem gC:cO X (.builtin "isinstance") (Nz X.K):=EJ
theorem LB{ty:Value}(ht:g7 K H x ty)(e:PySem.W.kitOne K ty (.type T)=some b)(h:Q (.bl b) H):Nz K [x,.ty T] H Q:=⟨x,T,ty,b,rfl,ht,e,h⟩
def AG(K:aA):List V->Hp->VK->Prop:=λ xs H Q=>∃ p ys,xs=[.ref p] /\ (bD K H p ys \/ gm K H p ys) /\ ∀ l,H l=none->Q (.ref l) (upd H l (.lst ys))
theorem qe:cO X (.type "list") (AG X.K):=ud
theorem EN{ys:List V}(hS:bD K H p ys \/ gm K H p ys)(h:∀ l H',eE H l (.lst ys) H'->Q (.ref l) H'):AG K [.ref p] H Q:=⟨p,ys,rfl,hS,λ l hl=>h l _ ⟨hl,rfl⟩⟩
def R6(R:It->Hp->Prop):List V->Hp->Prop:=λ vs H=>∃ j:Int,vs=[.int j] /\ -(2 ^ 62) <= j /\ j < 2 ^ 62 /\ R (kq 0 j.toNat) H
theorem EO(h:tl σ H (R6 R)):Lh tl σ H R:=h
theorem R7(h1:-(2 ^ 62) <= j)(h2:j < 2 ^ 62)(h:R (kq 0 j.toNat) H):R6 R [.int j] H:=⟨j,rfl,h1,h2,h⟩
def LC(J:It)(g:TG)(tb:TS)(nx:St->Hp->Prop)(rt:VK)(σ:St)(H:Hp):Prop:=∃ W:Nat->Nat->St->Hp->Prop,(∃ m,W 0 m σ H) /\ ∀ i m σ H,W i m σ H ->
 (J.stop i H /\ nx σ H) \/ (J.go i H /\ ∃ N:St->Hp->Prop,(∀ σ' H',N σ' H'->∃ m',m' < m /\ W (i + 1) m' σ' H') /\ ∀ x H',J.DV i H x H'->g x σ H' λ σ2 H2=>tb ⟨N,rt,nx,N⟩ σ2 H2)
theorem R8{wi:TI}{tb:TS}(h:wi σ H λ J H1=>LC J g tb nx rt σ H1):Q2 wi g tb ⟨nx,rt,bk,ct⟩ σ H:=h
theorem lF{lo:Int}{n:Nat}{tb:TS}(Pv:Nat->St->Hp->Prop)(h0:Pv 0 σ H)
  (hs:∀ i σ H,i < n->Pv i σ H->g (.int (lo + i)) σ H λ σ2 H2=>tb ⟨Pv (i + 1),rt,nx,Pv (i + 1)⟩ σ2 H2)(hd:∀ σ H,Pv n σ H->nx σ H):LC (kq lo n) g tb nx rt σ H :=
 B8 (D:=⟨nx,rt,nx,nx⟩) Pv h0 hs hd
theorem f_list{tb:TS}(Pv:Nat->St->Hp->Prop)(h0:Pv 0 σ H)(hl:∀ i σ H,i <= xs.length->Pv i σ H->bD K H a xs)
  (hs:∀ i x σ H,xs[i]? = some x->Pv i σ H->g x σ H λ σ2 H2=>tb ⟨Pv (i + 1),rt,nx,Pv (i + 1)⟩ σ2 H2)(hd:∀ σ H,Pv xs.length σ H->nx σ H):LC (Iw K a) g tb nx rt σ H :=
 Eb (D:=⟨nx,rt,nx,nx⟩) Pv h0 hl hs hd
theorem f_tup{tb:TS}(Pv:Nat->St->Hp->Prop)(h0:Pv 0 σ H)(hl:∀ i σ H,i <= xs.length->Pv i σ H->gm K H a xs)
  (hs:∀ i x σ H,xs[i]? = some x->Pv i σ H->g x σ H λ σ2 H2=>tb ⟨Pv (i + 1),rt,nx,Pv (i + 1)⟩ σ2 H2)(hd:∀ σ H,Pv xs.length σ H->nx σ H):LC (Lf K a) g tb nx rt σ H :=
 Iz (D:=⟨nx,rt,nx,nx⟩) Pv h0 hl hs hd
theorem NB{n:Nat}{gs:B5}{R:St->Hp->Prop}(hS:gm K H a xs)(hn:xs.length=n)(h:gs xs σ H R):MO K n gs (.ref a) σ H R:=⟨a,xs,rfl,hS,hn,h⟩
theorem IU{gs:B5}{vs:List V}{R:St->Hp->Prop}(h:g v σ H λ σ' H'=>gs vs σ' H' R):Le g gs (v :: vs) σ H R:=⟨v,vs,rfl,h⟩
theorem NC{R:St->Hp->Prop}(h:R σ H):QY [] σ H R:=⟨rfl,h⟩
theorem IV{xs:List V}(hS:bD K H p xs)(h:R (Iw K p) H):R3 K R (.ref p) H:=⟨p,rfl,⟨xs,hS⟩,h⟩
theorem ND{xs:List V}(hS:gm K H p xs)(h:R (Lf K p) H):R4 K R (.ref p) H:=⟨p,rfl,⟨xs,hS⟩,h⟩
theorem W3{tb:TS}{m:Nat}{W:Nat->St->Hp->Prop}(h:tb ⟨λ σ' H'=>∃ m',m' < m /\ W m' σ' H',rt,nx,λ σ' H'=>∃ m',m' < m /\ W m' σ' H'⟩ σ H):∃ N:St->Hp->Prop,(∀ σ' H',N σ' H'->∃ m',m' < m /\ W m' σ' H') /\ tb ⟨N,rt,nx,N⟩ σ H:=⟨_,λ _ _ h=>h,h⟩
theorem oO{tb:TS}(W:Nat->St->Hp->Prop)(h0:∃ m,W m σ H)(hs:∀ m σ H,W m σ H->c σ H λ b H1=>if b=true then ∃ N:St->Hp->Prop,(∀ σ' H',N σ' H'->∃ m',m' < m /\ W m' σ' H') /\ tb ⟨N,rt,nx,N⟩ σ H1 else nx σ H1):Ea c tb ⟨nx,rt,bk,ct⟩ σ H:=⟨W,h0,hs⟩
def LD(t u:TS):TS:=IP t u
def LF(t u:TS):TS:=IP t u
theorem qf{st:Stmt}{rest:List Stmt}{t u:TS}(h1:PS X st t)(h2:rM X rest u):rM X (st :: rest) (LD t u):=lC h1 h2
theorem ER{st:Stmt}{rest:List Stmt}{t u:TS}(h1:PS X st t)(h2:rM X rest u):rM X (st :: rest) (LF t u):=lC h1 h2
theorem NF(h:t ⟨λ σ' H'=>σ'=σ /\ H'=H,rt,bk,ct⟩ σ H)(k:u ⟨nx,rt,bk,ct⟩ σ H):LD t u ⟨nx,rt,bk,ct⟩ σ H:=⟨_,h,λ _ _ e=>by rw [e.1,e.2]; exact k⟩
theorem NG(h:t ⟨λ σ' H'=>σ'=σ /\ aE H H',rt,bk,ct⟩ σ H)(k:∀ H',aE H H'->u ⟨nx,rt,bk,ct⟩ σ H'):LF t u ⟨nx,rt,bk,ct⟩ σ H:=⟨_,h,λ _ _ e=>by rw [e.1]; exact k _ e.2⟩
theorem kh.same{H0:Hp}(n:kh H p o H')(e:aE H0 H)(hp:H0 p=Option.none):aE H0 H':=λ b v q=>n.keep (bx q hp) (e b v q)
theorem R9{xs:List V}(hS:bD K H p xs)(h:A):Qu K "list" (.ref p) H /\ A:=⟨.inl ⟨rfl,_,hS⟩,h⟩
theorem NH{r:St}(h:Q v H):j9 0 (some v :: r) H Q:=⟨v,rfl,h⟩
theorem W4{r:St}{R:St->Hp->Prop}(h:R (some v :: r) H):gq 0 v (y :: r) H R:=h
theorem NI{r:St}(h:Q v H):j9 1 (x0 :: some v :: r) H Q:=⟨v,rfl,h⟩
theorem W5{r:St}{R:St->Hp->Prop}(h:R (x0 :: some v :: r) H):gq 1 v (x0 :: y :: r) H R:=h
theorem NJ{r:St}(h:Q v H):j9 2 (x0 :: x1 :: some v :: r) H Q:=⟨v,rfl,h⟩
theorem W6{r:St}{R:St->Hp->Prop}(h:R (x0 :: x1 :: some v :: r) H):gq 2 v (x0 :: x1 :: y :: r) H R:=h
theorem NK{r:St}(h:Q v H):j9 3 (x0 :: x1 :: x2 :: some v :: r) H Q:=⟨v,rfl,h⟩
theorem Sa{r:St}{R:St->Hp->Prop}(h:R (x0 :: x1 :: x2 :: some v :: r) H):gq 3 v (x0 :: x1 :: x2 :: y :: r) H R:=h
theorem NL{r:St}(h:Q v H):j9 4 (x0 :: x1 :: x2 :: x3 :: some v :: r) H Q:=⟨v,rfl,h⟩
theorem W7{r:St}{R:St->Hp->Prop}(h:R (x0 :: x1 :: x2 :: x3 :: some v :: r) H):gq 4 v (x0 :: x1 :: x2 :: x3 :: y :: r) H R:=h
theorem NN{r:St}(h:Q v H):j9 5 (x0 :: x1 :: x2 :: x3 :: x4 :: some v :: r) H Q:=⟨v,rfl,h⟩
theorem W8{r:St}{R:St->Hp->Prop}(h:R (x0 :: x1 :: x2 :: x3 :: x4 :: some v :: r) H):gq 5 v (x0 :: x1 :: x2 :: x3 :: x4 :: y :: r) H R:=h
theorem NO{r:St}(h:Q v H):j9 6 (x0 :: x1 :: x2 :: x3 :: x4 :: x5 :: some v :: r) H Q:=⟨v,rfl,h⟩
theorem W9{r:St}{R:St->Hp->Prop}(h:R (x0 :: x1 :: x2 :: x3 :: x4 :: x5 :: some v :: r) H):gq 6 v (x0 :: x1 :: x2 :: x3 :: x4 :: x5 :: y :: r) H R:=h
theorem NP{r:St}(h:Q v H):j9 7 (x0 :: x1 :: x2 :: x3 :: x4 :: x5 :: x6 :: some v :: r) H Q:=⟨v,rfl,h⟩
theorem Xa{r:St}{R:St->Hp->Prop}(h:R (x0 :: x1 :: x2 :: x3 :: x4 :: x5 :: x6 :: some v :: r) H):gq 7 v (x0 :: x1 :: x2 :: x3 :: x4 :: x5 :: x6 :: y :: r) H R:=h
theorem NQ{r:St}(h:Q v H):j9 8 (x0 :: x1 :: x2 :: x3 :: x4 :: x5 :: x6 :: x7 :: some v :: r) H Q:=⟨v,rfl,h⟩
theorem Xb{r:St}{R:St->Hp->Prop}(h:R (x0 :: x1 :: x2 :: x3 :: x4 :: x5 :: x6 :: x7 :: some v :: r) H):gq 8 v (x0 :: x1 :: x2 :: x3 :: x4 :: x5 :: x6 :: x7 :: y :: r) H R:=h
theorem NR{r:St}(h:Q v H):j9 9 (x0 :: x1 :: x2 :: x3 :: x4 :: x5 :: x6 :: x7 :: x8 :: some v :: r) H Q:=⟨v,rfl,h⟩
theorem Xc{r:St}{R:St->Hp->Prop}(h:R (x0 :: x1 :: x2 :: x3 :: x4 :: x5 :: x6 :: x7 :: x8 :: some v :: r) H):gq 9 v (x0 :: x1 :: x2 :: x3 :: x4 :: x5 :: x6 :: x7 :: x8 :: y :: r) H R:=h
theorem IW{r:St}(h:Q v H):j9 10 (x0 :: x1 :: x2 :: x3 :: x4 :: x5 :: x6 :: x7 :: x8 :: x9 :: some v :: r) H Q:=⟨v,rfl,h⟩
theorem Sb{r:St}{R:St->Hp->Prop}(h:R (x0 :: x1 :: x2 :: x3 :: x4 :: x5 :: x6 :: x7 :: x8 :: x9 :: some v :: r) H):gq 10 v (x0 :: x1 :: x2 :: x3 :: x4 :: x5 :: x6 :: x7 :: x8 :: x9 :: y :: r) H R:=h
theorem IY{r:St}(h:Q v H):j9 11 (x0 :: x1 :: x2 :: x3 :: x4 :: x5 :: x6 :: x7 :: x8 :: x9 :: IZ :: some v :: r) H Q:=⟨v,rfl,h⟩
theorem Sd{r:St}{R:St->Hp->Prop}(h:R (x0 :: x1 :: x2 :: x3 :: x4 :: x5 :: x6 :: x7 :: x8 :: x9 :: IZ :: some v :: r) H):gq 11 v (x0 :: x1 :: x2 :: x3 :: x4 :: x5 :: x6 :: x7 :: x8 :: x9 :: IZ :: y :: r) H R:=h
theorem I0{Vi:Option V}{r:St}(h:Q v H):j9 12 (x0 :: x1 :: x2 :: x3 :: x4 :: x5 :: x6 :: x7 :: x8 :: x9 :: IZ :: Vi :: some v :: r) H Q:=⟨v,rfl,h⟩
theorem Se{Vi:Option V}{r:St}{R:St->Hp->Prop}(h:R (x0 :: x1 :: x2 :: x3 :: x4 :: x5 :: x6 :: x7 :: x8 :: x9 :: IZ :: Vi :: some v :: r) H):gq 12 v (x0 :: x1 :: x2 :: x3 :: x4 :: x5 :: x6 :: x7 :: x8 :: x9 :: IZ :: Vi :: y :: r) H R:=h
end
end L2
namespace ZP
open PySem
variable {Q:Value->Shared->Prop}
def Src(t:Bool)(h:Heap)(a:Addr)(xs:Array Value):Prop:=match t with
 | true=>h.IsTuple a xs
 | false=>h.IsList a xs
def kq(t:Bool)(h:Heap)(it a:Addr)(i:Nat):Prop:=match t with
 | true=>h.IsTupleIter it a i
 | false=>h.IsListIter it a i
def lG(t:Bool)(a:Addr):Obj:=match t with
 | true=>{ cls:=.type "tuple_iterator", data:=.fields #[.ref a,.int 0 0] }
 | false=>{ cls:=.type "list_iterator", data:=.fields #[.ref a,.int 0 0] }
section
variable {t:Bool}{h h':Heap}{a it:Addr}{xs:Array Value}{i:Nat}
theorem Src.at(x:Src t h a xs)(k:∀ o,h.get? a=some o->h'.get? a=some o):Src t h' a xs:=by
 cases t
 ·obtain ⟨o,e,r⟩:=x; exact ⟨o,k o e,r⟩
 ·obtain ⟨o,e,r⟩:=x; exact ⟨o,k o e,r⟩
theorem Src.here(x:Src t h a xs):∃ o,h.get? a=some o:=by
 cases t
 ·obtain ⟨o,e,r⟩:=x; exact ⟨o,e⟩
 ·obtain ⟨o,e,r⟩:=x; exact ⟨o,e⟩
theorem Src.push(x:Src t h a xs)(o:Obj):Src t (h.push o) a xs:=x.at λ _ e=>cB _ e
theorem kq.at(x:kq t h it a i)(k:∀ o,h.get? it=some o->h'.get? it=some o):kq t h' it a i:=by
 cases t
 ·obtain ⟨o,e,r⟩:=x; exact ⟨o,k o e,r⟩
 ·obtain ⟨o,e,r⟩:=x; exact ⟨o,k o e,r⟩
theorem kq.here(x:kq t h it a i):∃ o,h.get? it=some o /\ ∃ vs,o.data=.fields vs:=by
 cases t
 ·obtain ⟨o,e,c,d⟩:=x; exact ⟨o,e,_,d⟩
 ·obtain ⟨o,e,c,d⟩:=x; exact ⟨o,e,_,d⟩
theorem kq.new(e:h.get? it=some (lG t a)):kq t h it a 0:=by
 cases t
 ·exact ⟨_,e,rfl,rfl⟩
 ·exact ⟨_,e,rfl,rfl⟩
end
section
variable {prog:Program}{w:World}{A:Around}{E:Value->Shared->Prop}{s:Shared}{t:Bool}{a it:Addr}{xs:Array Value}{i:Nat}
theorem AH(x:Src t s.heap a xs)(q:Q (.ref s.heap.objs.size) { s with heap:=s.heap.push (lG t a) }):wpAny (model prog w) A (pyIter (.ref a)) Q E s:=by
 cases t
 ·exact wpAny_pyIter_list x q
 ·exact wpAny_pyIter_tuple x q
theorem alive{T:Addr}{o:Obj}{Q:Option Obj->Shared->Prop}(ho:s.heap.get? T=some o)(h:Q (some o) s):wpAny (model prog w) A (loadIfAlive T) Q E s:=by
 have h':Q (s.heap.get? T) s:=by rw [ho]; exact h
 exact λ _ _ _=>h'
theorem next_item{x:Value}(hit:kq t s.heap it a i)(hs:Src t s.heap a xs)(hx:xs[i]? = some x)
  (hQ:∀ h',kq t h' it a (i + 1)->Heap.SameBut it s.heap h'->Q x { s with heap:=h' }):wpAny (model prog w) A (Builtin.SmallTypes.nextOf (.ref it)) Q E s:=by
 cases t
 ·exact wpAny_nextOf_list_item hit hs hx hQ
 ·have hit:s.heap.IsTupleIter it a i:=hit
  obtain ⟨o,ho,hc,hd⟩:=id hit
  obtain ⟨ol,Qw,_,nl,hdl⟩:=id hs
  unfold Builtin.SmallTypes.nextOf
  refine ao (wpAny_callSpecial?_slot (name:=Str.ofString "__next__") hit.typeIs tQ (wpAny_call_entry tQ hit.typeIs F.entry_tuple_iterator_next ?_ (F.args_tuple_iterator_next_1 _)))
  show wpAny _ _ (field (.ref it) 0 >>= _) _ _ s
  refine ao (wpAny_field ho hd (x:=.ref a) rfl ?_)
  show wpAny _ _ (if (Value.ref a == Value.none)=true then _ else _) _ _ s
  rw [if_neg (show ¬ ((Value.ref a == Value.none)=true) from ic)]
  show wpAny _ _ (field (.ref it) 1 >>= _) _ _ s
  refine ao (wpAny_field ho hd (x:=.int i 0) rfl ?_)
  show wpAny _ _ (seqItems? (.ref a) >>= _) _ _ s
  refine ao (wpAny_seqItems Qw hdl ?_)
  simp only [gE,hx]
  refine ao (wpAny_setField ho hd (by simp) (aH ⟨x,rfl,aH (hQ _ ?_ (iI ..))⟩))
  exact ⟨_,dO _ ho (jf (dI hd _)),(kL ..).trans hc,by rw [dI hd]; simp [rawInt]⟩
theorem next_end(hh:A.handled=none)(hit:kq t s.heap it a i)(hs:Src t s.heap a xs)(hx:xs[i]? = none)
  (hE:∀ h' e,Heap.ExtBut it s.heap h'->(∃ o,h'.get? e=some o /\ o.cls=.type "StopIteration")->E (.ref e) { s with heap:=h' }):wpAny (model prog w) A (Builtin.SmallTypes.nextOf (.ref it)) Q E s:=by
 cases t
 ·exact wpAny_nextOf_list_end hh hit hs hx hE
 ·have hit:s.heap.IsTupleIter it a i:=hit
  obtain ⟨o,ho,hc,hd⟩:=id hit
  obtain ⟨ol,Qw,_,nl,hdl⟩:=id hs
  unfold Builtin.SmallTypes.nextOf
  refine ao (wpAny_callSpecial?_slot (name:=Str.ofString "__next__") hit.typeIs tQ (wpAny_call_entry tQ hit.typeIs F.entry_tuple_iterator_next ?_ (F.args_tuple_iterator_next_1 _)))
  show wpAny _ _ (field (.ref it) 0 >>= _) _ _ s
  refine ao (wpAny_field ho hd (x:=.ref a) rfl ?_)
  show wpAny _ _ (if (Value.ref a == Value.none)=true then _ else _) _ _ s
  rw [if_neg (show ¬ ((Value.ref a == Value.none)=true) from ic)]
  show wpAny _ _ (field (.ref it) 1 >>= _) _ _ s
  refine ao (wpAny_field ho hd (x:=.int i 0) rfl ?_)
  show wpAny _ _ (seqItems? (.ref a) >>= _) _ _ s
  refine ao (wpAny_seqItems Qw hdl ?_)
  simp only [gE,hx]
  refine ao (wpAny_rule (ao (wpAny_setField ho hd (by simp) ?_)))
  show wpAny _ _ (newExc (.type "StopIteration") [] >>= _) _ _ _
  refine ao ?_
  simp only [newExc,newTuple]
  refine ao (wpAny_newObj_type ?_ (by size_fits))
  refine ao (m:=firstArgMember _ _) (wpAny_of_eq (a:=Value.none) (by first | rfl | (simp only [firstArgMember]; rfl)) ?_)
  refine wpAny_newObj_type ?_ (by size_fits)
  simp only [raiseNew]
  refine ao (wpAny_handled ?_)
  first | rw [show A.in1.handled=none from hh] | rw [hh]
  refine ao (aH (wpAny_throw ?_))
  exact hE _ _ (((iI ..).extBut.push _).push _) ⟨_,fR _ rfl,rfl⟩
end
abbrev ZO(h:Heap)(z TI TO:Addr)(f0:Value)(f:Bool):Prop :=
 h.get? z=some { cls:=.type "zip", dict:=none,data:=.fields #[f0,.bool f,.bool false,.ref TI,.ref TO],slots:=#[] }
structure Zs (t1 t2:Bool) (TI TO i1 i2 l1 l2:Addr) (i:Nat) (h:Heap):Prop where
 ti:IsPair h TI (.ref i1) (.ref i2)
 to:∃ a b,IsPair h TO a b
 a1:kq t1 h i1 l1 i
 a2:kq t2 h i2 l2 i
theorem Zs.keep{t1 t2:Bool}{TI TO i1 i2 l1 l2:Addr}{i:Nat}{h h':Heap}(x:Zs t1 t2 TI TO i1 i2 l1 l2 i h)(k:∀ b,b=TI \/ b=TO \/ b=i1 \/ b=i2->∀ o,h.get? b=some o->h'.get? b=some o):Zs t1 t2 TI TO i1 i2 l1 l2 i h' :=
 ⟨k _ (.inl rfl) _ x.ti,let ⟨a,b,e⟩:=x.to; ⟨a,b,k _ (.inr (.inl rfl)) _ e⟩,x.a1.at λ o e=>k _ (.inr (.inr (.inl rfl))) o e,x.a2.at λ o e=>k _ (.inr (.inr (.inr rfl))) o e⟩
def Rest(z TO i1 i2:Addr)(h h':Heap):Prop:=∀ c o,c ≠ z->c ≠ TO->c ≠ i1->c ≠ i2->h.get? c=some o->h'.get? c=some o
section
variable {prog:Program}{w:World}{A:Around}{E:Value->Shared->Prop}{s:Shared}{t1 t2:Bool}{z TI TO i1 i2 l1 l2:Addr}{i:Nat}{xs ys:Array Value}{x y:Value}
theorem ES(D:ZipApart z TI TO i1 i2 l1 l2)(hz:ZO s.heap z TI TO .none false)(st:Zs t1 t2 TI TO i1 i2 l1 l2 i s.heap)(hl1:Src t1 s.heap l1 xs)(hl2:Src t2 s.heap l2 ys)(hx:xs[i]? = some x)(hy:ys[i]? = some y)
  (hQ:∀ h',ZO h' z TI TO (rawInt s.heap.objs.size) false->Zs t1 t2 TI TO i1 i2 l1 l2 (i + 1) h'->IsPair h' s.heap.objs.size x y->h'.objs.size=s.heap.objs.size + 1->Rest z TO i1 i2 s.heap h'->Q (.ref s.heap.objs.size) { s with heap:=h' }):
  wpAny (model prog w) A (Builtin.«zip.__next__» ⟨[.ref z],[]⟩) (λ fin s'=>∃ v,fin=.done (.ret v) /\ Q v s') E s:=by
 obtain ⟨hTI,⟨a,b,hTO⟩,h1,h2⟩:=st
 show wpAny _ _ (field (.ref z) 2 >>= _) _ _ _
 refine ao (wpAny_field hz rfl (x:=.bool false) rfl ?_)
 show wpAny _ _ (field (.ref z) 3 >>= _) _ _ _
 refine ao (wpAny_field hz rfl (x:=.ref TI) rfl ?_)
 refine ao (wpAny_seqItems hTI rfl ?_)
 show wpAny _ _ (Builtin.SmallTypes.ownedTupleIsFree (.ref z) >>= _) _ _ _
 refine ao ?_
 unfold Builtin.SmallTypes.ownedTupleIsFree
 refine ao (wpAny_field hz rfl (x:=.none) rfl (aH ?_))
 simp only [if_true]
 refine ao (wpAny_rule ?_)
 refine ao (wpAny_field hz rfl (x:=.ref TO) rfl ?_)
 refine ao (wpAny_setField_rec hz (by simp) λ h₁ vz hs₁=>?_)
 replace vz:ZO h₁ z TI TO .ellipsis false:=vz
 refine ao ?_
 simp only [List.zipIdx_cons,List.zipIdx_nil,iJ,jC]
 refine ao (ao (wpAny_onRaise ?_))
 show wpAny _ _ (Builtin.SmallTypes.nextOf (.ref i1) >>= _) _ _ _
 refine ao (next_item (h1.at λ o e=>hs₁.extBut _ o D.i1z e) (hl1.at λ o e=>hs₁.extBut _ o D.l1z e) hx λ h₂ LG hs₂=>aH ?_)
 have ET:IsPair h₂ TO a b:=hs₂.extBut _ _ D.TOi1 (hs₁.extBut _ _ D.TOz hTO)
 refine ao (wpAny_seqItems ET rfl ?_)
 refine ao (wpAny_updateSeq_pair ET λ h₃ I9 mS=>?_)
 replace I9:IsPair h₃ TO x b:=I9
 refine ao (wpAny_letGo (aH ?_))
 refine ao (ao (wpAny_onRaise ?_))
 show wpAny _ _ (Builtin.SmallTypes.nextOf (.ref i2) >>= _) _ _ _
 refine ao (next_item (h2.at λ o e=>mS.extBut _ o D.TOi2.symm (hs₂.extBut _ o D.i12.symm (hs₁.extBut _ o D.i2z e)))
  (hl2.at λ o e=>mS.extBut _ o D.l2TO (hs₂.extBut _ o D.l2i1 (hs₁.extBut _ o D.l2z e))) hy λ h₄ h2₄ LH=>aH ?_)
 have Sf:IsPair h₄ TO x b:=LH.extBut _ _ D.TOi2 I9
 refine ao (wpAny_seqItems Sf rfl ?_)
 refine ao (wpAny_updateSeq_pair Sf λ h₅ Ja LI=>?_)
 replace Ja:IsPair h₅ TO x y:=Ja
 refine ao (wpAny_letGo (aH (aH ?_)))
 refine ao (wpAny_seqItems Ja rfl ?_)
 refine ao (wpAny_newTuple ?_)
 have hsz:h₅.objs.size=s.heap.objs.size:=by rw [LI.1,LH.1,mS.1,hs₂.1,hs₁.1]
 have Z3:ZO h₅ z TI TO .ellipsis false:=LI.extBut _ _ D.TOz.symm (LH.extBut _ _ D.i2z.symm (mS.extBut _ _ D.TOz.symm (hs₂.extBut _ _ D.i1z.symm vz)))
 have Z4:Rest z TO i1 i2 s.heap h₅:=λ c o c1 c2 c3 c4 e=>LI.extBut _ _ c2 (LH.extBut _ _ c4 (mS.extBut _ _ c2 (hs₂.extBut _ _ c3 (hs₁.extBut _ _ c1 e))))
 have h1₅:kq t1 h₅ i1 l1 (i + 1):=LG.at λ o e=>LI.extBut _ o D.TOi1.symm (LH.extBut _ o D.i12 (mS.extBut _ o D.TOi1.symm e))
 have h2₅:kq t2 h₅ i2 l2 (i + 1):=h2₄.at λ o e=>LI.extBut _ o D.TOi2.symm e
 have Sg:z < h₅.objs.size:=aF Z3
 show wpAny _ _ (Builtin.SmallTypes.ownedTupleHandOut (.ref z) (.ref h₅.objs.size) >>= _) _ _ _
 refine ao ?_
 unfold Builtin.SmallTypes.ownedTupleHandOut
 have hz₆:ZO (h₅.push { cls:=.type "tuple", data:=.seq #[x,y] }) z TI TO .ellipsis false:=cB _ Z3
 refine ao (wpAny_setField_rec hz₆ (by simp) λ h₇ Xd Xe=>?_)
 replace Xd:ZO h₇ z TI TO (rawInt h₅.objs.size) false:=Xd
 refine wpAny_setField_rec Xd (by simp) λ h₈ Vj Xf=>?_
 replace Vj:ZO h₈ z TI TO (rawInt h₅.objs.size) false:=Vj
 have up:∀ c o,c ≠ z->h₅.get? c=some o->h₈.get? c=some o:=λ c o c1 e=>Xf.extBut _ _ c1 (Xe.extBut _ _ c1 (cB _ e))
 have Z5:IsPair h₈ h₅.objs.size x y:=Xf.extBut _ _ (jE Sg) (Xe.extBut _ _ (jE Sg) (fR _ rfl))
 have Z6:h₈.objs.size=h₅.objs.size + 1:=by rw [Xf.1,Xe.1,dP]
 rw [hsz] at Vj Z5 Z6
 refine aH ⟨_,rfl,?_⟩
 show Q (.ref h₅.objs.size) _
 rw [hsz]
 exact hQ h₈ Vj ⟨up _ _ D.TIz (Z4 _ _ D.TIz D.TITO D.TIi1 D.TIi2 hTI),⟨x,y,up _ _ D.TOz Ja⟩,h1₅.at λ o e=>up _ o D.i1z e,h2₅.at λ o e=>up _ o D.i2z e⟩ Z5 Z6 λ c o c1 c2 c3 c4 e=>up c o c1 (Z4 c o c1 c2 c3 c4 e)
theorem Vk{f:Bool}{T:Addr}{oT:Obj}(D:ZipApart z TI TO i1 i2 l1 l2)(hz:ZO s.heap z TI TO (rawInt T) f)(hT:s.heap.get? T=some oT)(st:Zs t1 t2 TI TO i1 i2 l1 l2 i s.heap)(hl1:Src t1 s.heap l1 xs)(hl2:Src t2 s.heap l2 ys)(hx:xs[i]? = some x)(hy:ys[i]? = some y)
  (hQ:∀ h',ZO h' z TI TO (rawInt T) true->Zs t1 t2 TI TO i1 i2 l1 l2 (i + 1) h'->IsPair h' s.heap.objs.size x y->h'.objs.size=s.heap.objs.size + 1->Rest z TO i1 i2 s.heap h'->Q (.ref s.heap.objs.size) { s with heap:=h' }):
  wpAny (model prog w) A (Builtin.«zip.__next__» ⟨[.ref z],[]⟩) (λ fin s'=>∃ v,fin=.done (.ret v) /\ Q v s') E s:=by
 obtain ⟨hTI,⟨a,b,hTO⟩,h1,h2⟩:=st
 show wpAny _ _ (field (.ref z) 2 >>= _) _ _ _
 refine ao (wpAny_field hz rfl (x:=.bool false) rfl ?_)
 show wpAny _ _ (field (.ref z) 3 >>= _) _ _ _
 refine ao (wpAny_field hz rfl (x:=.ref TI) rfl ?_)
 refine ao (wpAny_seqItems hTI rfl ?_)
 show wpAny _ _ (Builtin.SmallTypes.ownedTupleIsFree (.ref z) >>= _) _ _ _
 have fin:∀ h₁,ZO h₁ z TI TO (rawInt T) true->Heap.SameBut z s.heap h₁->∀ h₂ h₃,kq t1 h₂ i1 l1 (i + 1)->Heap.SameBut i1 h₁ h₂->kq t2 h₃ i2 l2 (i + 1)->Heap.SameBut i2 h₂ h₃ ->
   Q (.ref h₃.objs.size) { s with heap:=h₃.push { cls:=.type "tuple", data:=.seq #[x,y] } }:=by
  intro h₁ vz hs₁ h₂ h₃ q1 hs₂ q2 mS
  have hsz:h₃.objs.size=s.heap.objs.size:=by rw [mS.1,hs₂.1,hs₁.1]
  have up:Rest z TO i1 i2 s.heap (h₃.push { cls:=.type "tuple", data:=.seq #[x,y] }):=λ c o c1 c2 c3 c4 e=>cB _ (mS.extBut _ _ c4 (hs₂.extBut _ _ c3 (hs₁.extBut _ _ c1 e)))
  have hp:IsPair (h₃.push { cls:=.type "tuple", data:=.seq #[x,y] }) h₃.objs.size x y:=fR _ rfl
  rw [hsz] at hp ⊢
  refine hQ _ (cB _ (mS.extBut _ _ D.i2z.symm (hs₂.extBut _ _ D.i1z.symm vz))) ⟨up _ _ D.TIz D.TITO D.TIi1 D.TIi2 hTI,⟨a,b,?_⟩,?_,?_⟩ hp (by rw [dP,hsz]) up
  ·exact cB _ (mS.extBut _ _ D.TOi2 (hs₂.extBut _ _ D.TOi1 (hs₁.extBut _ _ D.TOz hTO)))
  ·exact q1.at λ o e=>cB _ (mS.extBut _ o D.i12 e)
  ·exact q2.at λ o e=>cB _ e
 refine ao ?_
 unfold Builtin.SmallTypes.ownedTupleIsFree
 refine ao (wpAny_field hz rfl (x:=rawInt T) rfl ?_)
 show wpAny _ _ (loadIfAlive ((T:Int).toNat) >>= _) _ _ _
 rw [gE]
 refine ao (alive hT ?_)
 simp only [Option.isNone_some,bG,if_false]
 refine ao (wpAny_field hz rfl (x:=.bool f) rfl ?_)
 cases f
 ·rw [if_pos (by decide)]
  refine ao (wpAny_setField_rec hz (by simp) λ h₁ vz hs₁=>aH ?_)
  replace vz:ZO h₁ z TI TO (rawInt T) true:=vz
  rw [if_neg (by decide)]
  refine ao ?_
  simp only [<- jA,iJ,jC]
  refine ao (ao (wpAny_holding ?_))
  show wpAny _ _ (Builtin.SmallTypes.nextOf (.ref i1) >>= _) _ _ _
  refine ao (next_item (h1.at λ o e=>hs₁.extBut _ o D.i1z e) (hl1.at λ o e=>hs₁.extBut _ o D.l1z e) hx λ h₂ LG hs₂=>aH ?_)
  refine aH (ao (ao (wpAny_holding ?_)))
  show wpAny _ _ (Builtin.SmallTypes.nextOf (.ref i2) >>= _) _ _ _
  refine ao (next_item (h2.at λ o e=>hs₂.extBut _ o D.i12.symm (hs₁.extBut _ o D.i2z e)) (hl2.at λ o e=>hs₂.extBut _ o D.l2i1 (hs₁.extBut _ o D.l2z e)) hy λ h₃ Xg mS=>aH ?_)
  refine aH (aH ?_)
  refine ao (wpAny_newTuple (aH ⟨_,rfl,?_⟩) (hsz:=by show 2 <= sizeLine; decide))
  exact fin h₁ vz hs₁ h₂ h₃ LG hs₂ Xg mS
 ·rw [if_neg (by decide)]
  refine aH ?_
  have vz:=hz
  have hs₁:Heap.SameBut z s.heap s.heap:=pN ..
  let h₁:=s.heap
  rw [if_neg (by decide)]
  refine ao ?_
  simp only [<- jA,iJ,jC]
  refine ao (ao (wpAny_holding ?_))
  show wpAny _ _ (Builtin.SmallTypes.nextOf (.ref i1) >>= _) _ _ _
  refine ao (next_item (h1.at λ o e=>hs₁.extBut _ o D.i1z e) (hl1.at λ o e=>hs₁.extBut _ o D.l1z e) hx λ h₂ LG hs₂=>aH ?_)
  refine aH (ao (ao (wpAny_holding ?_)))
  show wpAny _ _ (Builtin.SmallTypes.nextOf (.ref i2) >>= _) _ _ _
  refine ao (next_item (h2.at λ o e=>hs₂.extBut _ o D.i12.symm (hs₁.extBut _ o D.i2z e)) (hl2.at λ o e=>hs₂.extBut _ o D.l2i1 (hs₁.extBut _ o D.l2z e)) hy λ h₃ Xg mS=>aH ?_)
  refine aH (aH ?_)
  refine ao (wpAny_newTuple (aH ⟨_,rfl,?_⟩) (hsz:=by show 2 <= sizeLine; decide))
  exact fin h₁ vz hs₁ h₂ h₃ LG hs₂ Xg mS
theorem Jb{f:Bool}{f0:Value}{Q:Fin->Shared->Prop}(hf:f0=.none \/ ∃ (T:Addr) (oT:Obj),f0=rawInt T /\ s.heap.get? T=some oT)(hh:A.handled=none)(D:ZipApart z TI TO i1 i2 l1 l2)(hz:ZO s.heap z TI TO f0 f)(st:Zs t1 t2 TI TO i1 i2 l1 l2 i s.heap)(hl1:Src t1 s.heap l1 xs)(hl2:Src t2 s.heap l2 ys)
  (hend:xs[i]? = none \/ ys[i]? = none)
  (hE:∀ h' e,Rest z TO i1 i2 s.heap h'->(∃ o,h'.get? e=some o /\ o.cls=.type "StopIteration")->E (.ref e) { s with heap:=h' }):
  wpAny (model prog w) A (Builtin.«zip.__next__» ⟨[.ref z],[]⟩) Q E s:=by
 obtain ⟨hTI,⟨a,b,hTO⟩,h1,h2⟩:=st
 show wpAny _ _ (field (.ref z) 2 >>= _) _ _ _
 refine ao (wpAny_field hz rfl (x:=.bool false) rfl ?_)
 show wpAny _ _ (field (.ref z) 3 >>= _) _ _ _
 refine ao (wpAny_field hz rfl (x:=.ref TI) rfl ?_)
 refine ao (wpAny_seqItems hTI rfl ?_)
 show wpAny _ _ (Builtin.SmallTypes.ownedTupleIsFree (.ref z) >>= _) _ _ _
 refine ao ?_
 unfold Builtin.SmallTypes.ownedTupleIsFree
 rcases hf with rfl | ⟨T,oT,rfl,hT⟩
 ·refine ao (wpAny_field hz rfl (x:=.none) rfl (aH ?_))
  simp only [if_true]
  refine ao (wpAny_rule ?_)
  refine ao (wpAny_field hz rfl (x:=.ref TO) rfl ?_)
  refine ao (wpAny_setField_rec hz (by simp) λ h₁ vz hs₁=>?_)
  replace vz:ZO h₁ z TI TO .ellipsis f:=vz
  refine ao ?_
  simp only [List.zipIdx_cons,List.zipIdx_nil,iJ,jC]
  refine ao (ao (wpAny_onRaise ?_))
  show wpAny _ _ (Builtin.SmallTypes.nextOf (.ref i1) >>= _) _ _ _
  cases hx:xs[i]? with
  | none =>
   refine ao (next_end hh (h1.at λ o e=>hs₁.extBut _ o D.i1z e) (hl1.at λ o e=>hs₁.extBut _ o D.l1z e) hx λ h₂ e hs₂ he=>?_)
   obtain ⟨oe,NS,hce⟩:=he
   have Z7:ZO h₂ z TI TO .ellipsis f:=hs₂ _ _ D.i1z.symm vz
   have Xh:e ≠ z:=λ x=>by subst x; rw [Z7] at NS; cases NS; simp at hce
   exact wpAny_setField_rec Z7 (by simp) λ h₃ _ mS=>hE h₃ e (λ c o c1 _ c3 _ x=>mS.extBut _ _ c1 (hs₂ _ _ c3 (hs₁.extBut _ _ c1 x))) ⟨oe,mS.extBut _ _ Xh NS,hce⟩
  | some x =>
   have hy:ys[i]? = none:=by
    rcases hend with h | h
    ·rw [hx] at h; cases h
    ·exact h
   refine ao (next_item (h1.at λ o e=>hs₁.extBut _ o D.i1z e) (hl1.at λ o e=>hs₁.extBut _ o D.l1z e) hx λ h₂ LG hs₂=>aH ?_)
   have ET:IsPair h₂ TO a b:=hs₂.extBut _ _ D.TOi1 (hs₁.extBut _ _ D.TOz hTO)
   refine ao (wpAny_seqItems ET rfl ?_)
   refine ao (wpAny_updateSeq_pair ET λ h₃ I9 mS=>?_)
   refine ao (wpAny_letGo (aH ?_))
   refine ao (ao (wpAny_onRaise ?_))
   show wpAny _ _ (Builtin.SmallTypes.nextOf (.ref i2) >>= _) _ _ _
   refine ao (next_end hh (h2.at λ o e=>mS.extBut _ o D.TOi2.symm (hs₂.extBut _ o D.i12.symm (hs₁.extBut _ o D.i2z e)))
    (hl2.at λ o e=>mS.extBut _ o D.l2TO (hs₂.extBut _ o D.l2i1 (hs₁.extBut _ o D.l2z e))) hy λ h₄ e LH he=>?_)
   obtain ⟨oe,NS,hce⟩:=he
   have Z8:ZO h₄ z TI TO .ellipsis f:=LH _ _ D.i2z.symm (mS.extBut _ _ D.TOz.symm (hs₂.extBut _ _ D.i1z.symm vz))
   have Xh:e ≠ z:=λ x=>by subst x; rw [Z8] at NS; cases NS; simp at hce
   exact wpAny_setField_rec Z8 (by simp) λ h₅ _ LI=>hE h₅ e (λ c o c1 c2 c3 c4 x=>LI.extBut _ _ c1 (LH _ _ c4 (mS.extBut _ _ c2 (hs₂.extBut _ _ c3 (hs₁.extBut _ _ c1 x))))) ⟨oe,LI.extBut _ _ Xh NS,hce⟩
 ·refine ao (wpAny_field hz rfl (x:=rawInt T) rfl ?_)
  show wpAny _ _ (loadIfAlive ((T:Int).toNat) >>= _) _ _ _
  rw [gE]
  refine ao (alive hT ?_)
  simp only [Option.isNone_some,bG,if_false]
  refine ao (wpAny_field hz rfl (x:=.bool f) rfl ?_)
  cases f
  ·rw [if_pos (by decide)]
   refine ao (wpAny_setField_rec hz (by simp) λ h₁ vz hs₁=>aH ?_)
   rw [if_neg (by decide)]
   refine ao ?_
   simp only [<- jA,iJ,jC]
   refine ao (ao (wpAny_holding ?_))
   show wpAny _ _ (Builtin.SmallTypes.nextOf (.ref i1) >>= _) _ _ _
   cases hx:xs[i]? with
   | none=>exact ao (next_end hh (h1.at λ o e=>hs₁.extBut _ o D.i1z e) (hl1.at λ o e=>hs₁.extBut _ o D.l1z e) hx λ h₂ e hs₂ he=>hE h₂ e (λ c o c1 _ c3 _ x=>hs₂ _ _ c3 (hs₁.extBut _ _ c1 x)) he)
   | some x =>
    have hy:ys[i]? = none:=by
     rcases hend with h | h
     ·rw [hx] at h; cases h
     ·exact h
    refine ao (next_item (h1.at λ o e=>hs₁.extBut _ o D.i1z e) (hl1.at λ o e=>hs₁.extBut _ o D.l1z e) hx λ h₂ LG hs₂=>aH ?_)
    refine aH (ao (ao (wpAny_holding ?_)))
    show wpAny _ _ (Builtin.SmallTypes.nextOf (.ref i2) >>= _) _ _ _
    exact ao (next_end hh (h2.at λ o e=>hs₂.extBut _ o D.i12.symm (hs₁.extBut _ o D.i2z e)) (hl2.at λ o e=>hs₂.extBut _ o D.l2i1 (hs₁.extBut _ o D.l2z e)) hy λ h₃ e mS he=>hE h₃ e (λ c o c1 _ c3 c4 x=>mS _ _ c4 (hs₂.extBut _ _ c3 (hs₁.extBut _ _ c1 x))) he)
  ·rw [if_neg (by decide)]
   refine aH ?_
   let h₁:=s.heap
   have hs₁:Heap.SameBut z s.heap s.heap:=pN ..
   rw [if_neg (by decide)]
   refine ao ?_
   simp only [<- jA,iJ,jC]
   refine ao (ao (wpAny_holding ?_))
   show wpAny _ _ (Builtin.SmallTypes.nextOf (.ref i1) >>= _) _ _ _
   cases hx:xs[i]? with
   | none=>exact ao (next_end hh (h1.at λ o e=>hs₁.extBut _ o D.i1z e) (hl1.at λ o e=>hs₁.extBut _ o D.l1z e) hx λ h₂ e hs₂ he=>hE h₂ e (λ c o c1 _ c3 _ x=>hs₂ _ _ c3 (hs₁.extBut _ _ c1 x)) he)
   | some x =>
    have hy:ys[i]? = none:=by
     rcases hend with h | h
     ·rw [hx] at h; cases h
     ·exact h
    refine ao (next_item (h1.at λ o e=>hs₁.extBut _ o D.i1z e) (hl1.at λ o e=>hs₁.extBut _ o D.l1z e) hx λ h₂ LG hs₂=>aH ?_)
    refine aH (ao (ao (wpAny_holding ?_)))
    show wpAny _ _ (Builtin.SmallTypes.nextOf (.ref i2) >>= _) _ _ _
    exact ao (next_end hh (h2.at λ o e=>hs₂.extBut _ o D.i12.symm (hs₁.extBut _ o D.i2z e)) (hl2.at λ o e=>hs₂.extBut _ o D.l2i1 (hs₁.extBut _ o D.l2z e)) hy λ h₃ e mS he=>hE h₃ e (λ c o c1 _ c3 c4 x=>mS _ _ c4 (hs₂.extBut _ _ c3 (hs₁.extBut _ _ c1 x))) he)
theorem Jc{Q:Option Value->Shared->Prop}{Q':Value->Shared->Prop}(hT:s.TypeIs (.ref z) "zip")(h:wpAny (model prog w) A.in1 (Builtin.«zip.__next__» ⟨[.ref z],[]⟩) (λ fin s'=>∃ v,fin=.done (.ret v) /\ Q' v s') (λ _ _=>False) s)(q:∀ v s',Q' v s'->Q (some v) s'):wpAny (model prog w) A (pyNext (.ref z)) Q E s:=by
 unfold pyNext
 refine ao (wpAny_attempt (wpAny_callSpecial?_slot (name:=Str.ofString "__next__") hT F.slot_zip_next (wpAny_call_entry F.slot_zip_next hT F.entry_zip_next (wpAny_mono h (λ fin s' h'=>?_) λ _ _ h'=>h'.elim) (F.args_zip_next_1 _))))
 obtain ⟨v,rfl,h'⟩:=h'
 exact ⟨v,rfl,aH (q v s' h')⟩
theorem NT{Q:Option Value->Shared->Prop}(hT:s.TypeIs (.ref z) "zip")(h:wpAny (model prog w) A.in1 (Builtin.«zip.__next__» ⟨[.ref z],[]⟩) (λ _ _=>False) (λ e s'=>∃ a o,e=.ref a /\ s'.heap.get? a=some o /\ o.cls=.type "StopIteration" /\ Q none s') s):wpAny (model prog w) A (pyNext (.ref z)) Q E s:=by
 unfold pyNext
 refine ao (wpAny_attempt (wpAny_callSpecial?_slot (name:=Str.ofString "__next__") hT F.slot_zip_next (wpAny_call_entry F.slot_zip_next hT F.entry_zip_next (wpAny_mono h (λ _ _ h'=>h'.elim) λ e s' h'=>?_) (F.args_zip_next_1 _))))
 obtain ⟨a,o,rfl,ho,hc,q⟩:=h'
 refine ao (wpAny_isInstance (T := "StopIteration") (b:=true) ⟨o,ho,hc⟩ isSubtype_stop ?_)
 exact aH q
end
section
variable {prog:Program}{w:World}{A:Around}{E:Value->Shared->Prop}{s:Shared}{t1 t2:Bool}{l1 l2:Addr}{xs ys:Array Value}
abbrev Vl(t1:Bool)(h:Heap)(l1:Addr):Heap:=h.push (lG t1 l1)
abbrev Vm(t1 t2:Bool)(h:Heap)(l1 l2:Addr):Heap:=(Vl t1 h l1).push (lG t2 l2)
abbrev Vn(t1 t2:Bool)(h:Heap)(l1 l2:Addr):Heap:=(Vm t1 t2 h l1 l2).push { cls:=.type "tuple", data:=.seq #[.ref h.objs.size,.ref (Vl t1 h l1).objs.size] }
abbrev Vo(t1 t2:Bool)(h:Heap)(l1 l2:Addr):Heap:=(Vn t1 t2 h l1 l2).push { cls:=.type "tuple", data:=.seq #[.none,.none] }
abbrev NU(t1 t2:Bool)(h:Heap)(l1 l2:Addr):Heap:=(Vo t1 t2 h l1 l2).push { cls:=.type "zip", data:=.fields #[.none,.bool false,.bool false,.ref (Vm t1 t2 h l1 l2).objs.size,.ref (Vn t1 t2 h l1 l2).objs.size] }
theorem Ck(t1 t2:Bool)(l1 l2:Addr)(xs ys:Array Value):
  Meets (Builtin.«zip.__new__» ⟨[.type "zip", .ref l1,.ref l2],[]⟩) (λ _ R s=>Src t1 s.heap l1 xs /\ Src t2 s.heap l2 ys /\
   R (.ok (.ret (.ref (Vo t1 t2 s.heap l1 l2).objs.size))) { s with heap:=NU t1 t2 s.heap l1 l2 }) :=
 .of_wp λ prog w A R s h=>by
  obtain ⟨hp,g,d,tk,os⟩:=s; obtain ⟨hl1,hl2,h⟩:=h
  have hsub:=sub_zip
  have hL1:Src t1 (Shared.heap ⟨hp,g,d,tk,os⟩) l1 xs:=hl1
  have Z9:Src t2 (Shared.heap ⟨hp.push (lG t1 l1),g,d,tk,os⟩) l2 ys:=Src.push hl2 _
  wp_walk using AH hL1,AH Z9
  exact ⟨_,rfl,h⟩
theorem EU(hl1:Src t1 s.heap l1 xs)(hl2:Src t2 s.heap l2 ys)
  (h:∀ h',ZO h' (s.heap.objs.size + 4) (s.heap.objs.size + 2) (s.heap.objs.size + 3) .none false->Zs t1 t2 (s.heap.objs.size + 2) (s.heap.objs.size + 3) s.heap.objs.size (s.heap.objs.size + 1) l1 l2 0 h' ->
   h'.objs.size=s.heap.objs.size + 5->(∀ c o,s.heap.get? c=some o->h'.get? c=some o)->Q (.ref (s.heap.objs.size + 4)) { s with heap:=h' }):
  wpAny (model prog w) A (call (.type "zip") [.ref l1,.ref l2]) Q E s:=by
 refine callType_new F.called_zip (by decide) (F.typeCall_zip_2 _ _) (F.newCall_zip_2 _ _) (λ obj=>F.args_object_init_3 obj _ _) F.entry_zip_new
  (Ck t1 t2 l1 l2 xs ys) ⟨hl1,hl2,?_⟩
 have z1:(Vl t1 s.heap l1).objs.size=s.heap.objs.size + 1:=dP ..
 have z2:(Vm t1 t2 s.heap l1 l2).objs.size=s.heap.objs.size + 2:=by rw [dP,z1]
 have z3:(Vn t1 t2 s.heap l1 l2).objs.size=s.heap.objs.size + 3:=by rw [dP,z2]
 have z4:(Vo t1 t2 s.heap l1 l2).objs.size=s.heap.objs.size + 4:=by rw [dP,z3]
 have z5:(NU t1 t2 s.heap l1 l2).objs.size=s.heap.objs.size + 5:=by rw [dP,z4]
 have g5:(NU t1 t2 s.heap l1 l2).get? (Vo t1 t2 s.heap l1 l2).objs.size=some _:=fR _ rfl
 have g4:(NU t1 t2 s.heap l1 l2).get? (Vn t1 t2 s.heap l1 l2).objs.size=some _:=cB _ (fR _ rfl)
 have g3:(NU t1 t2 s.heap l1 l2).get? (Vm t1 t2 s.heap l1 l2).objs.size=some _:=cB _ (cB _ (fR _ rfl))
 have r2:(lG t2 l2).isFreed=false:=by cases t2 <;> rfl
 have r1:(lG t1 l1).isFreed=false:=by cases t1 <;> rfl
 have g2:(NU t1 t2 s.heap l1 l2).get? (Vl t1 s.heap l1).objs.size=some (lG t2 l2):=cB _ (cB _ (cB _ (fR _ r2)))
 have g1:(NU t1 t2 s.heap l1 l2).get? s.heap.objs.size=some (lG t1 l1):=cB _ (cB _ (cB _ (cB _ (fR _ r1))))
 show _ /\ _
 rw [z2,z3,z4] at g5
 rw [z1,z2] at g3
 rw [z3] at g4
 rw [z1] at g2
 rw [z4]
 exact ⟨⟨_,g5,rfl⟩,h _ g5 ⟨g3,⟨_,_,g4⟩,kq.new g1,kq.new g2⟩ z5 λ c o x =>
  cB _ (cB _ (cB _ (cB _ (cB _ x))))⟩
end
section
variable {prog:Program}{w:World}{A:Around}{E:Value->Shared->Prop}{s:Shared}{I:Addr}{T:String}{St:Heap->Prop}
end
end ZP
theorem BT.Si:PySem.bootBuiltins "zip" = some (.type "zip"):=by decide +kernel
namespace L2
open PySem PySem.Spec PyProof.Rows
variable {b a:Addr}{xs:List V}{R:Option Int->Hp->Prop}{scope:Scope}{cl:List (Str × Addr)}{fr:List Str}{ix:List Nat}{v:V}{tt:TT}
section
variable {X:Cx}{pins:List (Addr × Obj)}{σ:St}{H:Hp}{s:Shared}{h':Heap}
theorem Inv.oQ{t':Nat}{fp:List Addr}(I:Inv X pins σ H s)(k:∀ b o,b ∉ fp->s.heap.get? b=some o->h'.get? b=some o)(hf:∀ b∈fp,dU X pins H b):Inv X pins σ H { s with heap:=h',toks:=t' }:=by
 have QN:∀ b u,H b=some u->b ∉ fp:=λ b u e z=>by rw [(hf b z).1] at e; cases e
 refine I.step (g':=s.gens) (d':=s.drawn) (ch:=fp) (λ b hb=>?_) (λ b o _ _ hc e _=>k b o hc e) (λ b o _ _ hc e _=>⟨o.slots,k b o hc e⟩) (λ _ _ _ _ n=>n)
  (λ b o hc e=>⟨o,k b o hc e⟩) (λ _ _ e=>e) (λ _ _ _ e=>e) (λ b ps e=>⟨#[],by rw [e]; simp⟩) (λ m hm=>?_) (λ b u e=>?_) I.bare
 ·exact ⟨(hf b hb).2.2.2.1,(hf b hb).2.1,(hf b hb).2.2.2.2.1,(hf b hb).2.2.2.2.2⟩
 ·obtain ⟨o,es,ep,ho,r⟩:=hm
  exact ⟨o,es,ep,k _ o (λ z=>(hf _ z).2.1 rfl) ho,r⟩
 ·refine (I.hok b u e).stay (λ c v hc q=>k c v ?_ q) (λ _ q=>q) λ _ _ q=>q
  rcases hc with z | z
  ·rw [z]; exact QN b u e
  ·exact QN c _ z
theorem dU.upd{T:Addr}{o:HO}(f:dU X pins H b)(h:b ≠ T):dU X pins (L2.upd H T o) b:=⟨by rw [aZ h]; exact f.1,f.2⟩
def Cm(t:Bool)(K:aA)(H:Hp)(a:Addr)(xs:List V):Prop:=match t with
 | true=>gm K H a xs
 | false=>bD K H a xs
theorem aE.Xi{K:aA}{H H':Hp}(e:aE H H')(h:gm K H a xs):gm K H' a xs:=by
 rcases h with (h | ⟨o,h⟩) | h
 ·exact .inl (.inl (e _ _ h))
 ·exact .inl (.inr ⟨o,e _ _ h⟩)
 ·exact .inr h
theorem Inv.src{t:Bool}(I:Inv X pins σ H s)(h:Cm t X.K H a xs):∃ its:List Value,Vals xs its /\ ZP.Src t s.heap a its.toArray /\ xs.length <= sizeLine:=by
 cases t
 ·obtain ⟨its,r,pl,z⟩:=I.list h
  exact ⟨its,r,pl.isList,z⟩
 ·obtain ⟨its,r,pl,z⟩:=I.tuple h
  exact ⟨its,r,pl,z⟩
def bu(H:Hp)(ps:List Addr)(xs ys:List V)(i:Nat):Prop:=ps.length=i /\ ∀ (j:Nat) (p:Addr),ps[j]? = some p->∃ x y,xs[j]? = some x /\ ys[j]? = some y /\ H p=some (.tup [x,y])
theorem vA:ju X (binaryOp .FloorDiv) (rI (λ _ j=>0 < j /\ j < 18446744073709551616) λ i j=>.int (i / j)):=MT λ i j _ _ _ _ _ hc q=>by
 have h1:(0:Int) < j:=hc.1
 have h2:j < 18446744073709551616:=hc.2
 refine floordiv_int (by omega) (by rw [Int.fdiv_eq_ediv_of_nonneg i (by omega)]; exact q) (.inl (PyProof.noPylong_of_log2 ?_))
 have h3:j.natAbs.log2 < 64:=(Nat.log2_lt (by omega)).mpr (by omega)
 omega
end
section
variable {K:aA}{nx bk ct:St->Hp->Prop}{rt:VK}{σ:St}{H:Hp}{Q:VK}{te:TE}{t u:TS}
def LJ(R:Option Int->Hp->Prop):V->Hp->Prop:=λ x H=>∃ i,x=.int i /\ R (some i) H
theorem NV(h:te σ H (LJ R)):Lq te σ H R:=h
theorem Jd{i:Int}(h:R (some i) H):LJ R (.int i) H:=⟨i,rfl,h⟩
theorem EV(h:R none H):As σ H R:=h
end
def vB{α:Type}(P:α->Prop):List α->Prop
 | []=>True
 | a :: l=>P a /\ vB P l
theorem vB.mem{α:Type}{P:α->Prop}:∀ {l:List α},vB P l->∀ a∈l,P a
 | [],_,a,h=>nomatch h
 | b :: l,hl,a,h=>by
  rcases aJ.mp h with e | h
  ·rw [e]; exact hl.1
  ·exact vB.mem hl.2 a h
section
variable {X:Cx}
theorem bN.caps{x:Str}{nm:List Str}(calm:X.calm=true)(clos:closureFor scope X.env=pure cl)(cell:∀ y∈scope.names,y.2 ≠ .cell)(kind:scope.kind=.function)
  (names:∀ y∈scope.names,y.2=.local->scope.names.lookup y.1=some .local)(loc:scope.names.lookup x=some .local)(nd:(x :: fr).Nodup)
  (hcl:vB (λ p=>X.env.cells.lookup p.1=some p.2) cl)(hnm:cl.map (·.1)=nm)(hfree:∀ z∈scope.names,z.2=.free->z.1∈nm)(hlen:fr.length=ix.length)
  (hfx:vB (λ p=>X.N[p.2]? = some p.1 /\ X.env.kindOf p.1=some .cell /\ (relabel scope X.env).names.lookup p.1=some .cell) (fr.zip ix)):bN X scope cl x fr ix where
 calm:=calm
 clos:=clos
 cell:=cell
 kind:=kind
 names:=names
 loc:=loc
 nd:=nd
 DW:=λ y c h=>hcl.mem (y,c) (fG h)
 EG:=λ y h=>by
  have mem:∀ {k:NameKind},(relabel scope X.env).names.lookup y=some k->∃ z∈scope.names,(if (z.2 == .free && X.env.scope.kind == .function && X.env.kindOf z.1 == some .cell) then (z.1,NameKind.cell) else (z.1,z.2))=(y,k):=λ {k} e=>by
   have q:=fG e
   obtain ⟨z,hz,e⟩:=aG.mp q
   exact ⟨z,hz,e⟩
  have key:∃ z∈scope.names,z.1=y /\ z.2=.free:=by
   rcases h with h | h
   ·obtain ⟨z,hz,e⟩:=mem h
    refine ⟨z,hz,?_⟩
    by_cases hf:(z.2 == NameKind.free)=true
    ·refine ⟨?_,by cases hk:z.2 <;> rw [hk] at hf <;> first | rfl | cases hf⟩
     split at e
     ·exact congrArg Prod.fst e
     ·exact congrArg Prod.fst e
    ·exfalso
     rw [Bool.not_eq_true] at hf
     rw [hf,pK,pK,if_neg ic] at e
     exact cell z hz (congrArg Prod.snd e)
   ·obtain ⟨z,hz,e⟩:=mem h
    refine ⟨z,hz,?_⟩
    split at e
    ·exact absurd (congrArg Prod.snd e) (by intro q; cases q)
    ·exact ⟨congrArg Prod.fst e,congrArg Prod.snd e⟩
  obtain ⟨z,hz,rfl,hk⟩:=key
  have hm:=hfree z hz hk
  rw [<- hnm] at hm
  obtain ⟨p,hp,e⟩:=aG.mp hm
  cases q:cl.lookup z.1 with
  | some c=>exact ⟨c,rfl⟩
  | none =>
   exfalso
   have:=List.lookup_eq_none_iff.mp q p hp
   rw [e] at this
   simp at this
 fx:=λ j y h=>by
  have hj:j < fr.length:=(fu h).1
  have hi:ix[j]? = some (ix[j]'(by omega)):=by simp
  have hz:(y,ix[j]'(by omega))∈fr.zip ix:=fS (i:=j) (by rw [kG]; exact ⟨h,hi⟩)
  obtain ⟨a,b,c⟩:=hfx.mem _ hz
  exact ⟨_,hi,a,.inl b,.inl c⟩
 len:=hlen
end
section
variable {X:Cx}{K:aA}{nx bk ct:St->Hp->Prop}{rt:VK}{σ:St}{H:Hp}{Q:VK}{P:Bool->Hp->Prop}{te ta tb:TE}{t u:TS}
def Je:R2:=λ x y H Q=>y=.c6 /\ Q (.bl (decide (x=.c6))) H
theorem oR:ju X (compareOp .Is) Je:=MY
theorem NW(h:Q (.bl true) H):Je .c6 .c6 H Q:=⟨rfl,h⟩
theorem NX(h:Q (.bl false) H):Je (.ref a) .c6 H Q:=⟨rfl,h⟩
theorem NY{i:Int}(h:Q (.bl false) H):Je (.int i) .c6 H Q:=⟨rfl,h⟩
theorem NZ{n:Nat}{gs:B5}{R:St->Hp->Prop}(hS:bD K H a xs)(hn:xs.length=n)(h:gs xs σ H R):RC K n gs (.ref a) σ H R:=⟨a,xs,rfl,hS,hn,h⟩
theorem Sj{l:Addr}{zs:List V}(h1:H l=some (.lst xs))(h2:H b=some (.lst zs))(hz:xs.length + zs.length <= 1000000)(h:∀ p H',eE H p (.lst (xs++zs)) H'->Q (.ref p) H'):Rn (.ref l) (.ref b) H Q :=
 ⟨l,b,xs,zs,rfl,rfl,h1,h2,bE hz (by decide),λ p hp=>h p _ ⟨hp,rfl⟩⟩
theorem EW{l:Addr}{zs:List V}(h1:H l=some (.lst xs))(h2:H b=some (.lst zs))(hz:xs.length + zs.length <= 1000000)(h:∀ H',kh H l (.lst (xs++zs)) H'->Q .c6 H'):Aw (.ref l) [.ref b] H Q :=
 ⟨l,b,xs,zs,rfl,rfl,h1,h2,bE hz (by decide),h _ rfl⟩
def Sk(K:aA)(P:Bool->Hp->Prop):VK:=λ x H=>∃ k,IC K x H k /\ P k H
def Sl(K:aA)(ta:TE):TT:=λ σ H Q=>ta σ H λ x H'=>∃ k,IC K x H' k /\ Q k H'
theorem nC{a:Expr}(ha:PE X a ta)(he:∀ whole,isTrue a X.env whole=(do let v <- whole; standAt a.pos; holding [v] (truthy v))):PT X a (Sl X.K ta):=Eh ha he
theorem Sm(h:ta σ H (Sk K P)):Sl K ta σ H P:=h
theorem N1{p:Addr}(hS:bD K H p xs)(h:P (!xs.isEmpty) H):Sk K P (.ref p) H:=⟨_,.inl ⟨xs,hS,rfl⟩,h⟩
theorem Xj{r:V->Option Int->Option Int->Hp->VK->Prop}{tl th:TO}(h:te σ H λ x H1=>tl σ H1 λ l H2=>th σ H2 λ u H3=>r x l u H3 Q):Z0 r te tl th σ H Q:=h
theorem Sn{lo hi:Option Int}(hS:bD K H a xs)(h:∀ p H',eE H p (.lst (kO xs lo hi)) H'->Q (.ref p) H'):Ri K (.ref a) lo hi H Q:=⟨a,xs,rfl,hS,λ p hp=>h p _ ⟨hp,rfl⟩⟩
theorem N2{i:Nat}(e:σ[i]? = some (some v))(h:Q v H):j9 i σ H Q:=⟨v,e,h⟩
theorem N3{i:Nat}(h:te σ H λ v H1=>gq i v σ H1 nx):EI te i ⟨nx,rt,bk,ct⟩ σ H:=h
theorem N4{to ti:TE}{ts:Iv}{R:St->Hp->Prop}(h:to σ H λ o H1=>ti σ H1 λ i H2=>ts o i v H2 λ H3=>R σ H3):QZ to ti ts v σ H R:=h
theorem um{p:Addr}{k:Int}{j:Nat}{R:Hp->Prop}(hl:H p=some (.lst xs))(hj:Em xs.length k=some j)(h:∀ H',kh H p (.lst (xs.set j v)) H'->R H'):Lr (.ref p) (.int k) v H R:=⟨p,xs,k,j,rfl,rfl,hl,hj,h _ rfl⟩
theorem vC(x y:Str):(x++y).length=x.length + y.length:=by
 show (x.cps++y.cps).size=x.cps.size + y.cps.size
 simp
theorem So(h:P true H):Rx σ H P:=h
def Jf(J:It)(tt:TT)(te:TE)(τ:St)(Q:VK)(H:Hp):Prop:=∃ W:Nat->Nat->List V->Hp->Prop,(∃ m,W 0 m [] H) /\ ∀ i m ys H,W i m ys H ->
 (J.stop i H /\ ∀ p,H p=none->Q (.ref p) (upd H p (.lst ys))) \/ (J.go i H /\ ys.length < sizeLine /\ ∃ N:List V->Hp->Prop,(∀ ys' H',N ys' H'->∃ m',m' < m /\ W (i + 1) m' ys' H') /\
  ∀ v H',J.DV i H v H'->tt (some v :: τ) H' λ b H3=>if b=true then te (some v :: τ) H3 λ y H4=>N (ys++[y]) H4 else N ys H3)
theorem N5{wi:TI}(h:wi σ H λ J H1=>Jf J tt te (cut ix σ) Q H1):EH wi tt te ix σ H Q:=h
theorem jZ{lo:Int}{n:Nat}{τ:St}(Pv:Nat->List V->Hp->Prop)(h0:Pv 0 [] H)
  (hs:∀ i ys H,i < n->Pv i ys H->ys.length < sizeLine /\ tt (some (.int (lo + i)) :: τ) H λ b H3=>if b=true then te (some (.int (lo + i)) :: τ) H3 λ y H4=>Pv (i + 1) (ys++[y]) H4 else Pv (i + 1) ys H3)
  (hd:∀ ys H,Pv n ys H->∀ p H',eE H p (.lst ys) H'->Q (.ref p) H'):Jf (kq lo n) tt te τ Q H:=by
 refine ⟨λ i m ys H=>m=n - i /\ i <= n /\ Pv i ys H,⟨n,by simp,aQ _,h0⟩,?_⟩
 rintro i m ys H ⟨rfl,hi,p⟩
 by_cases hlt:i < n
 ·obtain ⟨hz,q⟩:=hs i ys H hlt p
  refine .inr ⟨hlt,hz,Pv (i + 1),λ σ' H' p'=>⟨n - (i + 1),by omega,rfl,hlt,p'⟩,λ x H' y=>?_⟩
  obtain ⟨e,y⟩:=y
  subst e y
  exact q
 ·have e:i=n:=by omega
  subst e
  exact .inl ⟨az _,λ q hq=>hd ys H p q _ ⟨hq,rfl⟩⟩
theorem f7{τ:St}(Pv:Nat->List V->Hp->Prop)(h0:Pv 0 [] H)(hl:∀ i ys H,i <= xs.length->Pv i ys H->bD K H a xs)
  (hs:∀ i x ys H,xs[i]? = some x->Pv i ys H->ys.length < sizeLine /\ tt (some x :: τ) H λ b H3=>if b=true then te (some x :: τ) H3 λ y H4=>Pv (i + 1) (ys++[y]) H4 else Pv (i + 1) ys H3)
  (hd:∀ ys H,Pv xs.length ys H->∀ p H',eE H p (.lst ys) H'->Q (.ref p) H'):Jf (Iw K a) tt te τ Q H:=by
 refine ⟨λ i m ys H=>m=xs.length - i /\ i <= xs.length /\ Pv i ys H,⟨xs.length,by simp,aQ _,h0⟩,?_⟩
 rintro i m ys H ⟨rfl,hi,p⟩
 have q:=hl i ys H hi p
 by_cases hlt:i < xs.length
 ·have hx:xs[i]? = some xs[i]:=by simp [hlt]
  obtain ⟨hz,q'⟩:=hs i _ ys H hx p
  refine .inr ⟨⟨xs,xs[i],q,hx⟩,hz,Pv (i + 1),λ σ' H' p'=>⟨xs.length - (i + 1),by omega,rfl,hlt,p'⟩,λ x H' y=>?_⟩
  obtain ⟨e,y⟩:=y
  subst e
  have e2:x=xs[i]:=Option.some.inj ((y xs q).symm.trans hx)
  subst e2
  exact q'
 ·have e:i=xs.length:=by omega
  subst e
  exact .inl ⟨⟨xs,q,az _⟩,λ r hr=>hd ys H p r _ ⟨hr,rfl⟩⟩
end
structure jk (X:Cx) (scope:Scope) (cl:List (Str × Addr)) (xs fr:List Str) (ix:List Nat):Prop where
 calm:X.calm=true
 clos:closureFor scope X.env=pure cl
 cell:∀ y∈scope.names,y.2 ≠ .cell
 kind:scope.kind=.function
 names:∀ y∈scope.names,y.2=.local->scope.names.lookup y.1=some .local
 nd:(xs++fr).Nodup
 DW:∀ y c,cl.lookup y=some c->X.env.cells.lookup y=some c
 EG:∀ y,((relabel scope X.env).names.lookup y=some .cell \/ (relabel scope X.env).names.lookup y=some .free)->∃ c,cl.lookup y=some c
 fx:∀ (j:Nat) y,fr[j]? = some y->∃ i:Nat,ix[j]? = some i /\ X.N[i]? = some y /\ (X.env.kindOf y=some .cell \/ X.env.kindOf y=some .free) /\ ((relabel scope X.env).names.lookup y=some .cell \/ (relabel scope X.env).names.lookup y=some .free)
 len:fr.length=ix.length
section
variable {X:Cx}{pins:List (Addr × Obj)}{σ:St}{H:Hp}{s:Shared}
theorem jk.of{x:Str}{xs:List Str}(O:bN X scope cl x fr ix)(nd:(xs++fr).Nodup):jk X scope cl xs fr ix:=⟨O.calm,O.clos,O.cell,O.kind,O.names,nd,O.DW,O.EG,O.fx,O.len⟩
theorem nZ{elt iter tg:Expr}{xs:List Str}{g:TG}{ifs:List Expr}{pos:Pos}{te:TE}{E:Value->Shared->Prop}{RR:Value->Addr->Result->Shared->Prop}
  (O:jk X scope cl xs fr ix)(hg:∀ C fp s H,PG (kr X (xs++fr) scope cl C fp s H) tg g)(ht:∀ C fp s H,PF (kr X (xs++fr) scope cl C fp s H) ifs tt)(he:∀ C fp s H,PE (kr X (xs++fr) scope cl C fp s H) elt te)
  {it:Addr}{fp:List Addr}{tn:Nat->Heap->Prop}{J:It}{H2:Hp}{s2:Shared}(I2:Inv X pins σ H2 s2)(T:Turn X.prog X.w X.K tg J fp it tn)(st2:tn 0 s2.heap)(f2:∀ b∈fp,dU X pins H2 b)
  (Z:List V->Hp->Prop)(W:Nat->Nat->List V->St->Hp->Prop)(m0:Nat)(w0:W 0 m0 [] (List.replicate xs.length none++cut ix σ) H2)
  (turn:∀ i m ys τ H,W i m ys τ H->(J.stop i H /\ Z ys H) \/ (J.go i H /\ ys.length < sizeLine /\ ∃ N:List V->St->Hp->Prop,(∀ ys' τ' H',N ys' τ' H'->∃ m',m' < m /\ W (i + 1) m' ys' τ' H') /\
   ∀ v H',J.DV i H v H'->g v τ H' λ τ2 H2=>tt τ2 H2 λ b H3=>if b=true then te τ2 H3 λ y H4=>N (ys++[y]) τ2 H4 else N ys τ2 H3))
  (hRR:∀ D C s' ys H',Inv X pins σ (upd H' D (.lst ys)) s'->(∃ m,s'.heap.Ns C m)->dU X pins (upd H' D (.lst ys)) C->H' D=none->Z ys H'->RR (.ref D) C (.ok .next) s'):
  wpAny (model X.prog X.w) X.A (newList []) (λ acc s₃=>wpAny (model X.prog X.w) X.A (newFunctionEnv scope X.env.globals cl [] X.env.qual none .none (some X.env)) (λ cenv s₄ =>
   codeAny (model X.prog X.w) X.A (.compStart (.ListComp elt [⟨tg,iter,ifs,0⟩] scope pos) 0 (.ref it) acc { cenv with scope:=relabel scope X.env }) (RR acc cenv.locals) s₄) E s₃) E s2:=by
 refine wpAny_newObj_type (wpAny_newFunctionEnv O.cell (by intro y hy; simp at hy) (λ h₁ yX ug=>?_) O.kind)
 dsimp only at yX ug ⊢
 generalize hG:s2.heap.push { cls:=.type "list", dict:=none,data:=.seq ([]:List Value).toArray }=G at yX ug ⊢
 have hC:G.objs.size=s2.heap.objs.size + 1:=by rw [<- hG,dP]
 have hDC:s2.heap.objs.size ≠ G.objs.size:=by rw [hC]; exact aT (kK _)
 have yY:s2.heap.objs.size <= G.objs.size:=by rw [hC]; exact kJ _
 have below:∀ b,b < s2.heap.objs.size->b ≠ G.objs.size /\ b ≠ s2.heap.objs.size:=λ b hb=>⟨by rw [hC]; exact aT (je hb),aT hb⟩
 have old:∀ b o,s2.heap.get? b=some o->h₁.get? b=some o:=λ b o e=>ug.extBut b o (below b (aF e)).1 (cB _ (hG ▸ cB _ e))
 have hacc:h₁.get? s2.heap.objs.size=some { cls:=.type "list", data:=.seq ([]:List Value).toArray }:=ug.extBut _ _ hDC (cB _ (hG ▸ fR _ rfl))
 have Ry:H2 s2.heap.objs.size=none:=I2.hok.fresh (az _)
 have Rz:H2 G.objs.size=none:=I2.hok.fresh yY
 have fD:dU X pins H2 s2.heap.objs.size:=I2.kg (az _) Ry
 have fC:dU X pins H2 G.objs.size:=I2.kg yY Rz
 have yZ:∀ b∈fp,b < s2.heap.objs.size:=λ b hb=>by
  obtain ⟨o,e,_⟩:=T.obj _ _ st2 b hb
  exact aF e
 have sA:∀ b∈frs X.stack,b∈X.env.locals :: X.fs:=I2.pU
 have dX:=O.DW
 have ok:(kr X (xs++fr) scope cl G.objs.size fp s2 H2).Ok:=by
  refine ⟨I2.ok.mod,O.kind,I2.ok.glob,I2.ok.blt,yY,λ y z c h1 h2=>I2.ok.inj y z c (dX y c h1) (dX z c h2),λ y hy=>O.EG y hy,λ y c h _=>absurd h ic,λ h=>I2.ok.hd h,I2.ok.frames,.inl rfl,λ b hb=>?_,I2.bs,bE I2.ok.DU I2.sz,λ b o e hb=>?_,λ b hb hs=>?_,I2.stack,I2.oK⟩
  ·exact ⟨(below b (yZ b hb)).1,λ y c e=>(f2 b hb).2.2.2.2.1 y c (dX y c e)⟩
  ·rcases (f2 b hb).2.2.2.1 with z | z
   ·exact I2.ok.BZ b o e z
   ·exact absurd (cg (aF (I2.ok.bs b o e).1) z) (dH _)
  ·rcases aJ.mp (sA b hs) with z | z
   ·exact (f2 b hb).2.1 z
   ·exact (f2 b hb).2.2.1 z
 have RA:∀ b,s2.heap.objs.size <= b->b ∉ frs X.stack:=λ b hb hs=>by
  rcases aJ.mp (sA b hs) with z | z
  ·exact absurd (cg I2.lt (z ▸ hb)) (dH _)
  ·exact I2.MH hb z
 have Ic:Inv (kr X (xs++fr) scope cl G.objs.size fp s2 H2) [(s2.heap.objs.size,{ cls:=.type "list", data:=.seq ([]:List Value).toArray })] (List.replicate xs.length none++cut ix σ) H2 { s2 with heap:=h₁,toks:=s2.toks + ([]:List (Str × Value)).length }:=by
  refine ⟨ok,rfl,I2.bare,Un.kept old,⟨_,yX,λ i y v h1 h2 h3=>?_⟩,λ y c e=>?_,Rz,λ y c e=>I2.gM y c (dX y c e),λ p hp=>?_,I2.hok.kept old,?_⟩
  ·have hk:xs.length <= i:=by
    rcases cH i xs.length with q | q
    ·rw [List.getElem?_append_left (by simpa using q),List.getElem?_replicate,if_pos q] at h2
     cases h2
    ·exact q
   ·obtain ⟨j,rfl⟩:∃ j,i=xs.length + j:=⟨i - xs.length,by omega⟩
    have h1:fr[j]? = some y:=by
     have h1:(xs++fr)[xs.length + j]? = some y:=h1
     rwa [tR (by omega),Nat.add_sub_cancel_left] at h1
    have h2:(cut ix σ)[j]? = some (some v):=by
     rwa [tR (by simp),List.length_replicate,Nat.add_sub_cancel_left] at h2
    obtain ⟨i,e1,e2,k,kc⟩:=O.fx j y h1
    obtain ⟨c,e3⟩:=O.EG y kc
    have e4:σ[i]? = some (some v):=by
     unfold cut at h2
     rw [aY,e1] at h2
     have h2:some ((σ[i]?).join)=some (some v):=h2
     have h2:=Option.some.inj h2
     cases q:σ[i]? with
     | none=>rw [q] at h2; cases h2
     | some z=>rw [q] at h2; exact congrArg some h2
    obtain ⟨m,_,hl⟩:=I2.loc
    obtain ⟨u,r,l⟩:=hl i y v e2 e4 (k.elim (λ z=>.inr (.inl z)) λ z=>.inr (.inr z))
    refine ⟨u,r,.inr ⟨kc,c,e3,?_⟩⟩
    rcases l with ⟨l1,_⟩ | ⟨_,c',l2,l3⟩
    ·rcases k with k | k <;> (rw [k] at l1; cases l1)
    ·have e5:=dX y c e3
     rw [l2] at e5; cases e5
     obtain ⟨o,ho,hd⟩:=l3
     exact ⟨o,old _ _ ho,hd⟩
  ·obtain ⟨v,o,ho,hd⟩:=I2.cell y c (dX y c e)
   exact ⟨v,o,old _ _ ho,hd⟩
  ·have e:p=(s2.heap.objs.size,{ cls:=.type "list", data:=.seq ([]:List Value).toArray }):=by simpa [kr] using hp
   subst e
   exact ⟨hacc,Ry,hDC,RA _ (az _),λ v z=>by cases z⟩
  ·show (List.replicate xs.length none++cut ix σ).length=(xs++fr).length
   unfold cut
   simp [O.len]
 have za:∀ b∈fp,b ≠ s2.heap.objs.size:=λ b hb=>(below b (yZ b hb)).2
 have pX:∀ {pl:List (Addr × Obj)} {H':Hp},(∀ p∈pl,p.1=s2.heap.objs.size)->(∀ b∈fp,H' b=none)->∀ b∈fp,dU (kr X (xs++fr) scope cl G.objs.size fp s2 H2) pl H' b:=λ {pl H'} hp hn b hb =>
  ⟨hn b hb,(below b (yZ b hb)).1,λ hs=>ok.B0 b hb hs,.inl hb,λ y c e=>(f2 b hb).2.2.2.2.1 y c (dX y c e),λ p IQ z=>za b hb (z.symm.trans (hp p IQ))⟩
 have one:∀ {o:Obj},∀ p∈[(s2.heap.objs.size,o)],p.1=s2.heap.objs.size:=λ p hp=>by
  have e:=aC.mp hp
  rw [e]
 have loop:codeAny (model X.prog X.w) X.A (.compLoop (.ListComp elt [⟨tg,iter,ifs,0⟩] scope pos) 0 (.ref it) (.ref s2.heap.objs.size) (compEnvC scope cl G.objs.size X.env)) (RR (.ref s2.heap.objs.size) G.objs.size)
   { s2 with heap:=h₁,toks:=s2.toks + ([]:List (Str × Value)).length }:=by
  refine lD (λ n s'=>∃ (i:Nat) (ys:List V) (its:List Value) (c:Nat) (τ:St) (H':Hp),Inv (kr X (xs++fr) scope cl G.objs.size fp s2 H2) [(s2.heap.objs.size,{ cls:=.type "list", data:=.seq its.toArray c })] τ H' s' /\ tn i s'.heap /\ (∀ b∈fp,H' b=none) /\ Vals ys its /\ ys.length <= sizeLine /\ W i n ys τ H') ?_ m0
   ⟨0,[],[],0,_,H2,Ic,T.keep _ _ _ st2 (λ b _ o e=>old b o e),λ b hb=>(f2 b hb).1,.nil,aQ _,w0⟩
  rintro n s3 ⟨i,ys,its,c,τ,H3,I3,st3,Lj,rv,hl3,w3⟩
  rcases turn i n ys τ H3 w3 with ⟨stop,zz⟩ | ⟨go,hlt,N,hN,step⟩
  ·refine wpAny_mono (T.done (kr X (xs++fr) scope cl G.objs.size fp s2 H2) rfl rfl rfl O.calm i _ s3 _ H3 _ I3 (pX one Lj) st3 stop) (λ r s4 h4=>?_) λ _ _ e=>e
   obtain ⟨hr,I4⟩:=h4
   subst hr
   have pD:=I4.pin _ (bI _ (aC.mpr rfl))
   have IX:Inv X pins σ H3 s4:=I2.D6 I4.os I4.base I4.hok I4.bare λ b hb=>⟨(f2 b hb).2.2.2.1,(f2 b hb).2.1,(f2 b hb).2.2.2.2.1,(f2 b hb).2.2.2.2.2⟩
   obtain ⟨mC,WO,_⟩:=I4.loc
   exact hRR _ _ s4 ys H3 (IX.vp ⟨pD.2.1,fD.2⟩ ⟨hl3,its,c,rv,pD.1⟩) ⟨mC,WO⟩ ⟨by rw [aZ (bF hDC)]; exact I4.free,fC.2⟩ pD.2.1 zz
  ·refine wpAny_mono (T.item (kr X (xs++fr) scope cl G.objs.size fp s2 H2) rfl rfl rfl O.calm i _ s3 _ H3 _ I3 (pX one Lj) st3 go) (λ r s4 h4=>?_) λ _ _ e=>e
   obtain ⟨u,hr,h4⟩:=h4
   subst hr
   refine wpAny_mono h4 (λ _ s5 h5=>?_) λ _ _ e=>e
   obtain ⟨v,H5,I5,r5,y5,yJ,Q3⟩:=h5
   have Q4:=I5.pinned (pX one Q3) (T.obj _ _ yJ)
   refine wpAny_mono (hg _ _ _ _ _ s5 τ H5 v u _ Q4 r5 (step v H5 y5)) (λ _ s6 h6=>?_) λ _ _ f=>False.elim f
   obtain ⟨τ2,H6,I6,q6⟩:=h6
   refine wpAny_mono (ht _ _ _ _ _ s6 _ H6 _ I6 q6) (λ ok s7 h7=>?_) λ _ _ f=>False.elim f
   obtain ⟨H7,I7,q7⟩:=h7
   cases ok with
   | true =>
    rw [if_pos rfl] at q7 ⊢
    refine wpAny_mono (he _ _ _ _ _ s7 _ H7 _ I7 q7) (λ uy s8 h8=>?_) λ _ _ f=>False.elim f
    obtain ⟨y,H8,I8,r8,n8⟩:=h8
    have pD:=I8.pin _ (bI _ (iK _ (aC.mpr rfl)))
    have rl:=rv.length
    refine append_at (hsz:=by rw [aV]; omega) pD.1 λ h9 RB WQ=>?_
    obtain ⟨m',hm,w9⟩:=hN _ _ _ n8
    have Ia:Inv (kr X (xs++fr) scope cl G.objs.size fp s2 H2) (jH fp s5.heap) τ2 H8 s8:=I8.jW λ p hp=>I8.pin p (bI _ (bI _ hp))
    have Ib:=Ia.turned (h':=h9) (t':=s8.toks) (it:=s2.heap.objs.size) (λ b o hb e=>RB.extBut b o hb e) pD.2.1 hDC (.inr (az _)) (λ y c e=>fD.2.2.2.2.1 y c (dX y c e))
     λ p hp=>by
      obtain ⟨hb,_⟩:=nv (fp:=fp) (h:=s5.heap) (show p∈jH fp s5.heap from hp)
      exact za p.1 hb
    refine ⟨m',hm,i + 1,ys++[y],its++[uy],c + 1,τ2,H8,Ib.jW λ p hp=>?_,T.keep _ _ _ yJ λ b hb o e=>?_,λ b hb=>?_,rv.append (.cons r8 .nil),by rw [bh,fX]; omega,w9⟩
    ·have e:=aC.mp hp
     subst e
     refine ⟨?_,pD.2.1,hDC,pD.2.2.2.1,λ v z=>by cases z⟩
     have q:its.toArray.push uy=(its++[uy]).toArray:=by simp
     rw [<- q]
     exact WQ
    ·exact RB.extBut b o (za b hb) (I8.pin (b,o) (bI _ (bI _ (cW hb e)))).1
    ·obtain ⟨o,e,d⟩:=T.obj _ _ yJ b hb
     exact (I8.pin (b,o) (bI _ (bI _ (cW hb e)))).2.1
   | false =>
    rw [if_neg ic] at q7 ⊢
    obtain ⟨m',hm,w9⟩:=hN _ _ _ q7
    refine ⟨m',hm,i + 1,ys,its,c,τ2,H7,I7.jI,T.keep _ _ _ yJ λ b hb o e=>?_,λ b hb=>?_,rv,hl3,w9⟩
    ·exact (I7.pin (b,o) (bI _ (bI _ (cW hb e)))).1
    ·obtain ⟨o,e,d⟩:=T.obj _ _ yJ b hb
     exact (I7.pin (b,o) (bI _ (bI _ (cW hb e)))).2.1
 exact codeAny_compStart_list loop (T.self _ 0 _ _ _ (T.keep _ _ _ st2 λ b _ o e=>old b o e) loop)
def ze(wi:TI)(g:TG)(tt:TT)(te:TE)(ix:List Nat)(k:Nat):TE:=λ σ H Q=>wi σ H λ J H1=>∃ W:Nat->Nat->List V->St->Hp->Prop,(∃ m,W 0 m [] (List.replicate k none++cut ix σ) H1) /\ ∀ i m ys τ H,W i m ys τ H ->
 (J.stop i H /\ ∀ p,H p=none->Q (.ref p) (upd H p (.lst ys))) \/ (J.go i H /\ ys.length < sizeLine /\ ∃ N:List V->St->Hp->Prop,(∀ ys' τ' H',N ys' τ' H'->∃ m',m' < m /\ W (i + 1) m' ys' τ' H') /\
  ∀ v H',J.DV i H v H'->g v τ H' λ τ2 H2=>tt τ2 H2 λ b H3=>if b=true then te τ2 H3 λ y H4=>N (ys++[y]) τ2 H4 else N ys τ2 H3)
theorem EX{elt iter tg:Expr}{xs:List Str}{g:TG}{ifs:List Expr}{pos:Pos}{wi:TI}{te:TE}(O:jk X scope cl xs fr ix)(hi:PI X tg iter wi)(hg:∀ C fp s H,PG (kr X (xs++fr) scope cl C fp s H) tg g)
  (ht:∀ C fp s H,PF (kr X (xs++fr) scope cl C fp s H) ifs tt)(he:∀ C fp s H,PE (kr X (xs++fr) scope cl C fp s H) elt te)
  (hs:∀ v,foldedSetIterable iter X.env v=pure v:=by intro _; rfl):PE X (.ListComp elt [⟨tg,iter,ifs,0⟩] scope pos) (ze wi g tt te ix xs.length):=by
 intro pins s σ H Q I h
 rw [eval_ListComp]
 refine wpAny_comprehension_free (use:=none) rfl hs O.clos O.kind O.names (cL (hi pins s σ H _ I h) λ v s1 h1=>cL h1 λ itv s2 h2=>?_)
 obtain ⟨it,fp,tn,J,H2,e,I2,T,st2,f2,W,⟨m0,w0⟩,turn⟩:=h2
 subst e
 refine nZ O hg ht he I2 T st2 f2 (λ ys H=>∀ p,H p=none->Q (.ref p) (upd H p (.lst ys))) W m0 w0 turn λ D C s' ys H' I' hm fC hD z=>?_
 obtain ⟨m,hm⟩:=hm
 refine ⟨m,hm,λ h' hs'=>?_⟩
 exact ⟨.ref D,_,I'.turned (t':=s'.toks) (it:=C) (λ b o hb e=>hs'.extBut b o hb e) fC.1 fC.2.1 fC.2.2.2.1 fC.2.2.2.2.1 fC.2.2.2.2.2,rfl,z D hD⟩
end
end L2
theorem BT.vD:PySem.bootBuiltins "enumerate" = some (.type "enumerate"):=by decide +kernel
namespace L2
open PySem PySem.Spec PyProof.Rows
variable {w:World}{K:aA}{es:List Expr}{k n:Nat}{pos:Pos}{t1 t2:Bool}{xs ys:List V}{a b:Addr}{R:It->Hp->Prop}{g:TG}{tt:TT}
def Sq(K:aA)(t1 t2:Bool)(l1 l2:Addr)(xs ys:List V):It :=
 ⟨λ i H=>Cm t1 K H l1 xs /\ Cm t2 K H l2 ys /\ i < min xs.length ys.length,
  λ i H v H'=>∃ p x y,xs[i]? = some x /\ ys[i]? = some y /\ v=.ref p /\ eE H p (.tup [x,y]) H',
  λ i H=>Cm t1 K H l1 xs /\ Cm t2 K H l2 ys /\ min xs.length ys.length <= i⟩
theorem EY{P:Program}{z TI TO i1 i2 l1 l2:Addr}(D:ZipApart z TI TO i1 i2 l1 l2):
  Turn P w K (.Tuple es k pos) (Sq K t1 t2 l1 l2 xs ys) [z,TI,TO,i1,i2] z (λ i h=>ZP.ZO h z TI TO .none false /\ ZP.Zs t1 t2 TI TO i1 i2 l1 l2 i h) where
 mem:=by simp
 obj:=λ i h st b hb=>by
  obtain ⟨hz,hs⟩:=st
  obtain ⟨a,c,hTO⟩:=hs.to
  simp only [aJ,fF,or_false] at hb
  rcases hb with e | e | e | e | e <;> rw [e]
  ·exact ⟨_,hz,λ v q=>by cases q⟩
  ·exact ⟨_,hs.ti,λ v q=>by cases q⟩
  ·exact ⟨_,hTO,λ v q=>by cases q⟩
  ·obtain ⟨o,e1,vs,d⟩:=hs.a1.here
   exact ⟨o,e1,λ v q=>by rw [d] at q; cases q⟩
  ·obtain ⟨o,e1,vs,d⟩:=hs.a2.here
   exact ⟨o,e1,λ v q=>by rw [d] at q; cases q⟩
 keep:=λ i h h' st kk=>⟨kk z (by simp) _ st.1,st.2.keep λ b hb o e=>kk b (by rcases hb with q | q | q | q <;> simp [q]) o e⟩
 item:=by
  intro X hP hw hK hc i pins s σ H E I hf st hg
  subst hP hw hK
  obtain ⟨q1,q2,hlt⟩:=hg
  obtain ⟨EZ,v1,Cn,z1⟩:=I.src q1
  obtain ⟨its2,v2,Co,z2⟩:=I.src q2
  have hx:xs[i]? = some (xs[i]'(by omega)):=by simp
  have hy:ys[i]? = some (ys[i]'(by omega)):=by simp
  generalize xs[i]'(by omega)=x at hx
  generalize ys[i]'(by omega)=y at hy
  obtain ⟨u,hu,ru⟩:=v1.get hx
  obtain ⟨v,hv,rv⟩:=v2.get hy
  obtain ⟨hz,hs⟩:=st
  refine ZP.Jc ⟨_,hz,rfl⟩ (ZP.ES (Q:=λ r s'=>r=.ref s.heap.objs.size /\ ∃ h',s'={ s with heap:=h' } /\ ZP.ZO h' z TI TO (rawInt s.heap.objs.size) false /\ ZP.Zs t1 t2 TI TO i1 i2 l1 l2 (i + 1) h' /\ IsPair h' s.heap.objs.size u v /\ ZP.Rest z TO i1 i2 s.heap h')
   D hz hs Cn Co (by simpa using hu) (by simpa using hv) λ h' a1 a2 a3 _ a5=>⟨rfl,h',rfl,a1,a2,a3,a5⟩) λ r s' q=>?_
  obtain ⟨rfl,h',rfl,hz',st',IQ,hr⟩:=q
  refine ⟨_,rfl,wpAny_letOwnedTupleGo_zip hz' λ h2 hz2 hs2=>?_⟩
  have hTl:z ≠ s.heap.objs.size:=aT (aF hz)
  have hr2:∀ b o,b ∉ [z,TO,i1,i2]->s.heap.get? b=some o->h2.get? b=some o:=λ b o hb e =>
   hs2.extBut b o (λ q=>hb (by simp [q])) (hr b o (λ q=>hb (by simp [q])) (λ q=>hb (by simp [q])) (λ q=>hb (by simp [q])) (λ q=>hb (by simp [q])) e)
  have I1:Inv X pins σ H { s with heap:=h2,toks:=s.toks }:=I.oQ (fp:=[z,TO,i1,i2]) hr2 λ b hb=>hf b (by
   simp only [aJ,fF,or_false] at hb ⊢
   rcases hb with h | h | h | h <;> simp [h])
  have hfr:H s.heap.objs.size=none:=I.hok.fresh (az _)
  have I2:=I1.vp (I.kg (az _) hfr) (o:=.tup [x,y]) ⟨by show 2 <= sizeLine; decide,[u,v],.cons ru (.cons rv .nil),⟨_,hs2.extBut _ _ (bF hTl) IQ,rfl,_,rfl⟩⟩
  obtain ⟨a,c,hTO⟩:=st'.to
  refine ⟨.ref s.heap.objs.size,_,I2,rfl,⟨_,x,y,hx,hy,rfl,hfr,rfl⟩,⟨hz2,st'.keep λ b hb o e=>hs2.extBut b o ?_ e⟩,λ b hb=>?_⟩
  ·rcases hb with q | q | q | q <;> rw [q]
   ·exact D.TIz
   ·exact D.TOz
   ·exact D.i1z
   ·exact D.i2z
  ·rw [aZ ?_]
   ·exact (hf b hb).1
   ·obtain ⟨a0,c0,Xk⟩:=hs.to
    obtain ⟨o1,e1,_⟩:=hs.a1.here
    obtain ⟨o2,e2,_⟩:=hs.a2.here
    have lt:∀ {b:Addr} {o:Obj},s.heap.get? b=some o->b ≠ s.heap.objs.size:=λ e=>aT (aF e)
    simp only [aJ,fF,or_false] at hb
    rcases hb with h | h | h | h | h <;> rw [h]
    ·exact lt hz
    ·exact lt hs.ti
    ·exact lt Xk
    ·exact lt e1
    ·exact lt e2
 done:=by
  intro X hP hw hK hc i pins s σ H E I hf st hg
  subst hP hw hK
  obtain ⟨q1,q2,hge⟩:=hg
  obtain ⟨EZ,v1,Cn,z1⟩:=I.src q1
  obtain ⟨its2,v2,Co,z2⟩:=I.src q2
  obtain ⟨hz,hs⟩:=st
  have e1:=v1.length
  have e2:=v2.length
  refine ZP.NT ⟨_,hz,rfl⟩ (ZP.Jb (.inl rfl) (I.ok.hd hc) D hz hs Cn Co ?_ λ h' e hr he=>?_)
  ·rcases Nat.le_total xs.length ys.length with hle | hle
   ·refine .inl ?_
    simp only [jb]
    exact ja (by omega)
   ·refine .inr ?_
    simp only [jb]
    exact ja (by omega)
  ·obtain ⟨o,ho,hcl⟩:=he
   refine ⟨e,o,rfl,ho,hcl,rfl,?_⟩
   exact I.oQ (t':=s.toks) (fp:=[z,TO,i1,i2]) (λ b o hb e=>hr b o (λ q=>hb (by simp [q])) (λ q=>hb (by simp [q])) (λ q=>hb (by simp [q])) (λ q=>hb (by simp [q])) e) λ b hb=>hf b (by
    simp only [aJ,fF,or_false] at hb ⊢
    rcases hb with h | h | h | h <;> simp [h])
 self:=λ A i s Q E st q=>wpAny_pyIter_zip st.1 q
section
variable {X:Cx}{es:List Expr}{k:Nat}{tpos:Pos}
def N6(K:aA)(R:It->Hp->Prop):List V->Hp->Prop:=λ vs H=>∃ t1 t2 a b xs ys,vs=[.ref a,.ref b] /\ Cm t1 K H a xs /\ Cm t2 K H b ys /\ R (Sq K t1 t2 a b xs ys) H
def Ss(K:aA)(ta:TA):TI:=λ σ H R=>ta σ H (N6 K R)
theorem E1{a b:Expr}{ta:TA}{p:Pos}(hg:Gl X "zip")(hm:X.mg "zip" = none)(ha:PA X [a,b] ta)
  (he:starEach [a,b] X.env=(false,eval a X.env) :: starEach [b] X.env:=by rfl)(hpl:(backTo pos (starEach [b] X.env)).any (·.1)=false:=by rfl):PI X (.Tuple es k tpos) (.Call (.Name "zip" p) [a,b] [] pos) (Ss X.K ta):=by
 intro pins s σ H R I h
 refine wpAny_Call_Name_kw (gO I hg hm BT.Si ?_)
 refine jg (cL (ha pos pins s σ H _ I h) λ us s1 ⟨vs,H1,I1,rv,q1⟩=>?_) he hpl
 obtain ⟨t1,t2,pa,pb,xs,ys,rfl,hx,hy,q⟩:=q1
 obtain ⟨u,u',rfl,r1,r2⟩:=vals2 rv
 cases r1; cases r2
 obtain ⟨EZ,v1,Cn,z1⟩:=I1.src hx
 obtain ⟨its2,v2,Co,z2⟩:=I1.src hy
 obtain ⟨o1,e1⟩:=Cn.here
 obtain ⟨o2,e2⟩:=Co.here
 refine ZP.EU Cn Co λ h' hz st hsz hk=>?_
 have I2:Inv X pins σ H1 { s1 with heap:=h',toks:=s1.toks }:=I1.kept hk
 refine wpAny_pyIter_zip hz ⟨_,_,_,_,H1,rfl,I2,EY (zipApart_new (aF e1) (aF e2)),⟨hz,st⟩,λ b hb=>?_,q⟩
 have fr:∀ b,s1.heap.objs.size <= b->dU X pins H1 b:=λ b hb=>I1.kg hb (I1.hok.fresh hb)
 refine fr b ?_
 simp only [aJ,fF,or_false] at hb
 rcases hb with h | h | h | h | h <;> rw [h]
 ·exact kI _ _
 ·exact kI _ _
 ·exact kI _ _
 ·exact az _
 ·exact kI _ _
end
def Su(K:aA)(l:Addr)(xs:List V):It :=
 ⟨λ i H=>bD K H l xs /\ i < xs.length,λ i H v H'=>∃ p x,xs[i]? = some x /\ v=.ref p /\ eE H p (.tup [.int i,x]) H',λ i H=>bD K H l xs /\ xs.length <= i⟩
theorem Cp{P:Program}{e it l:Addr}(hei:e ≠ it):
  Turn P w K (.Tuple es k pos) (Su K l xs) [e,it] e (λ i h=>(∃ old,IsEnum h e it i old) /\ h.IsListIter it l i) where
 mem:=by simp
 obj:=λ i h st b hb=>by
  obtain ⟨⟨old,he⟩,o,e1,c,d⟩:=st
  simp only [aJ,fF,or_false] at hb
  rcases hb with q | q <;> rw [q]
  ·exact ⟨_,he,λ v q=>by cases q⟩
  ·exact ⟨o,e1,λ v q=>by rw [d] at q; cases q⟩
 keep:=λ i h h' st kk=>⟨let ⟨old,he⟩:=st.1; ⟨old,kk e (by simp) _ he⟩,let ⟨o,e1,r⟩:=st.2; ⟨o,kk it (by simp) o e1,r⟩⟩
 item:=by
  intro X hP hw hK hc i pins s σ H E I hf st hg
  subst hP hw hK
  obtain ⟨q1,hlt⟩:=hg
  obtain ⟨EZ,v1,pl,z1⟩:=I.list q1
  have hx:xs[i]? = some (xs[i]'(by omega)):=by simp
  generalize xs[i]'(by omega)=x at hx
  obtain ⟨u,hu,ru⟩:=v1.get hx
  obtain ⟨⟨old,he⟩,hit⟩:=st
  have hT1:e ≠ s.heap.objs.size:=aT (aF he)
  have hT2:it ≠ s.heap.objs.size:=by
   obtain ⟨o,e1,_⟩:=hit
   exact aT (aF e1)
  refine wpAny_pyNext_enum_item he hit pl.isList (by simpa using hu) hei λ h' ho vE hT hsz hk=>⟨_,rfl,?_⟩
  refine wpAny_letOwnedTupleGo_enum ho λ h2 Vp hs2=>?_
  have hfr:H s.heap.objs.size=none:=I.hok.fresh (az _)
  have I1:Inv X pins σ H { s with heap:=h2,toks:=s.toks + 1 }:=I.oQ (fp:=[e,it]) (λ b o hb e1=>hs2.extBut b o (λ q=>hb (by simp [q])) (hk b o (λ q=>hb (by simp [q])) (λ q=>hb (by simp [q])) e1)) λ b hb=>hf b hb
  have I2:=I1.vp (I.kg (az _) hfr) (o:=.tup [.int i,x]) ⟨by show 2 <= sizeLine; decide,[.int i s.toks,u],.cons ⟨_,rfl⟩ (.cons ru .nil),⟨_,hs2.extBut _ _ (bF hT1) hT,rfl,_,rfl⟩⟩
  refine ⟨.ref s.heap.objs.size,_,I2,rfl,⟨_,x,hx,rfl,hfr,rfl⟩,⟨⟨_,by simpa using Vp⟩,vE.extBut hs2.extBut (bF hei)⟩,λ b hb=>?_⟩
  rw [aZ ?_]
  ·exact (hf b hb).1
  ·simp only [aJ,fF,or_false] at hb
   rcases hb with h | h <;> rw [h]
   ·exact hT1
   ·exact hT2
 done:=by
  intro X hP hw hK hc i pins s σ H E I hf st hg
  subst hP hw hK
  obtain ⟨q1,hge⟩:=hg
  obtain ⟨EZ,v1,pl,z1⟩:=I.list q1
  obtain ⟨⟨old,he⟩,hit⟩:=st
  have e1:=v1.length
  refine wpAny_pyNext_enum_end (I.ok.hd hc) he hit pl.isList ?_ λ h' hx=>⟨rfl,?_⟩
  ·simp only [jb]
   exact ja (by omega)
  ·exact I.oQ (t':=s.toks) (fp:=[e,it]) (λ b o hb e1=>hx b o (λ q=>hb (by simp [q])) e1) λ b hb=>hf b hb
 self:=λ A i s Q E st q=>let ⟨old,he⟩:=st.1; wpAny_pyIter_enum he q
section
variable {X:Cx}{es:List Expr}{k:Nat}{tpos:Pos}
def N7(K:aA)(R:It->Hp->Prop):List V->Hp->Prop:=λ vs H=>∃ a xs,vs=[.ref a] /\ bD K H a xs /\ R (Su K a xs) H
def LK(K:aA)(ta:TA):TI:=λ σ H R=>ta σ H (N7 K R)
theorem oU{a:Expr}{ta:TA}{p:Pos}(hg:Gl X "enumerate")(hm:X.mg "enumerate" = none)(ha:PA X [a] ta)
  (he:starEach [a] X.env=(false,eval a X.env) :: starEach [] X.env:=by rfl)(hpl:(backTo pos (starEach [] X.env)).any (·.1)=false:=by rfl):PI X (.Tuple es k tpos) (.Call (.Name "enumerate" p) [a] [] pos) (LK X.K ta):=by
 intro pins s σ H R I h
 refine wpAny_Call_Name_kw (gO I hg hm BT.vD ?_)
 refine jg (cL (ha pos pins s σ H _ I h) λ us s1 ⟨vs,H1,I1,rv,q1⟩=>?_) he hpl
 obtain ⟨pa,xs,rfl,hx,q⟩:=q1
 obtain ⟨u,rfl,r1⟩:=vals1 rv
 cases r1
 obtain ⟨EZ,v1,pl,z1⟩:=I1.list hx
 refine call_enumerate_list pl.isList λ h' hE hI hsz hk=>?_
 have I2:Inv X pins σ H1 { s1 with heap:=h',toks:=s1.toks }:=I1.kept hk
 refine wpAny_pyIter_enum hE ⟨_,_,_,_,H1,rfl,I2,Cp (Nat.succ_ne_self _),⟨⟨_,hE⟩,hI⟩,λ b hb=>?_,q⟩
 have fr:∀ b,s1.heap.objs.size <= b->dU X pins H1 b:=λ b hb=>I1.kg hb (I1.hok.fresh hb)
 refine fr b ?_
 simp only [aJ,fF,or_false] at hb
 rcases hb with h | h <;> rw [h]
 ·exact kI _ _
 ·exact az _
end
section
variable {X:Cx}
theorem E2{prog:Program}{A:Around}{bs:List Bool}:TruthOf prog w A (λ i v=>((bs.map Value.bool).toArray)[i]? = some v) (λ i=>bs.getD i false):=by
 intro i v s Q E hP hQ
 simp only [jb,aY] at hP
 obtain ⟨b,hb,rfl⟩:=dg.mp hP
 have e:bs.getD i false=b:=by simp [List.getD,hb]
 have hQ:Q b s:=by
  have hQ:Q (bs.getD i false) s:=hQ
  rwa [e] at hQ
 first | exact wpAny_truthy_bool hQ | exact aH hQ
theorem AI:∀ {bs:List Bool} {us:List Value},Vals (bs.map V.bl) us->us=bs.map Value.bool
 | [],us,h=>by cases h; rfl
 | b :: bs,us,h=>by
  cases h with
  | cons r rr =>
   cases r
   rw [AI rr]
   rfl
theorem range_all(bs:List Bool):(List.range bs.length).all (λ i=>bs.getD i false)=bs.all id:=by
 rw [Bool.eq_iff_iff]
 simp only [List.all_eq_true,fE]
 constructor
 ·intro h b hb
  obtain ⟨i,hi,rfl⟩:=kH.mp hb
  have:=h i hi
  simpa [List.getD,hi] using this
 ·intro h i hi
  have:=h bs[i] (gn hi)
  simpa [List.getD,hi] using this
def Sv(K:aA):List V->Hp->VK->Prop:=λ xs H Q=>∃ (p:Addr) (bs:List Bool),xs=[.ref p] /\ bD K H p (bs.map V.bl) /\ Q (.bl (bs.all id)) H
theorem Cq(hc:X.calm=true):cO X (.builtin "all") (Sv X.K):=by
 intro pins s σ H xs us Q I r h
 obtain ⟨p,bs,rfl,hS,q⟩:=h
 obtain ⟨u,rfl,ru⟩:=vals1 r
 cases ru
 obtain ⟨its,rv,pl,hz⟩:=I.list hS
 have e:=AI rv
 subst e
 have hlt:p < s.heap.objs.size:=by
  obtain ⟨o,ho,_⟩:=pl.isList
  exact aF ho
 have W:=Walks.list (prog:=X.prog) (w:=X.w) (A:=X.A.in1) (show X.A.in1.handled=none from I.ok.hd hc) s.heap.objs.size p (aT hlt) (bs.map Value.bool).toArray
 refine call_all_walk (wpAny_pyIter_list pl.isList ⟨s.heap.objs.size,_,_,_,_,_,λ i=>bs.getD i false,rfl,W,⟨⟨_,fR _ rfl,rfl,rfl⟩,pl.isList.push _⟩,E2,λ h' tk hk=>?_⟩)
 refine ⟨.bl (bs.all id),H,I.kept λ b o e=>hk b o (λ z=>aT (aF e) (aC.mp z)) (cB _ e),?_,q⟩
 show Value.bool _=Value.bool _
 rw [aV,au,range_all]
end
mutual
inductive RD (K:aA) (H:Hp):V->PyData->Prop
 | c6:RD K H .c6 .none
 | bl (b:Bool):RD K H (.bl b) (.bool b)
 | int (i:Int):RD K H (.int i) (.int i)
 | str (x:Str):RD K H (.str x) (.str x)
 | lst {a:Addr} {xs:List V} {ds:List PyData}:bD K H a xs->oG K H xs ds->RD K H (.ref a) (.list ds)
 | tup {a:Addr} {xs:List V} {ds:List PyData}:gm K H a xs->oG K H xs ds->RD K H (.ref a) (.tuple ds)
inductive oG (K:aA) (H:Hp):List V->List PyData->Prop
 | nil:oG K H [] []
 | cons {x:V} {d:PyData} {xs:List V} {ds:List PyData}:RD K H x d->oG K H xs ds->oG K H (x :: xs) (d :: ds)
end
section
variable {X:Cx}{pins:List (Addr × Obj)}{σ:St}{H:Hp}{s:Shared}
mutual
theorem RD.reads(I:Inv X pins σ H s):∀ {x:V} {d:PyData} {u:Value},RD X.K H x d->RelV x u->∃ as,Reads s.heap u d as
 | _,_,_,.c6,r=>by cases r; exact ⟨[],.none⟩
 | _,_,_,.bl b,r=>by cases r; exact ⟨[],.bool b⟩
 | _,_,_,.int i,r=>by obtain ⟨t,rfl⟩:=r; exact ⟨[],.int i t⟩
 | _,_,_,.str x,r=>by obtain ⟨t,rfl⟩:=r; exact ⟨[],.str x t⟩
 | _,_,_,.lst h rs,r=>by
  cases r
  obtain ⟨its,rv,⟨o,n,e,hc,hd,hs⟩,z⟩:=I.list h
  obtain ⟨as,q⟩:=oG.reads I rs rv
  exact ⟨_,.list e hc hs (by simpa using q)⟩
 | _,_,_,.tup h rs,r=>by
  cases r
  obtain ⟨its,rv,⟨o,e,hc,n,hs⟩,z⟩:=I.tuple h
  obtain ⟨as,q⟩:=oG.reads I rs rv
  exact ⟨_,.tuple e hc hs (by simpa using q)⟩
theorem oG.reads(I:Inv X pins σ H s):∀ {xs:List V} {ds:List PyData} {us:List Value},oG X.K H xs ds->Vals xs us->∃ as,ReadsAll s.heap us ds as
 | _,_,_,.nil,r=>by cases r; exact ⟨[],.nil⟩
 | _,_,_,.cons h rs,r=>by
  cases r with
  | cons r1 r2 =>
   obtain ⟨as,q⟩:=RD.reads I h r1
   obtain ⟨bs,q'⟩:=oG.reads I rs r2
   exact ⟨_,.cons q q'⟩
end
end
section
variable {K:aA}{H H':Hp}
mutual
theorem RD.same(e:aE H H'):∀ {x:V} {d:PyData},RD K H x d->RD K H' x d
 | _,_,.c6=>.c6
 | _,_,.bl b=>.bl b
 | _,_,.int i=>.int i
 | _,_,.str x=>.str x
 | _,_,.lst h rs=>.lst (e.seq h) (oG.same e rs)
 | _,_,.tup h rs=>.tup (e.Xi h) (oG.same e rs)
theorem oG.same(e:aE H H'):∀ {xs:List V} {ds:List PyData},oG K H xs ds->oG K H' xs ds
 | _,_,.nil=>.nil
 | _,_,.cons h rs=>.cons (RD.same e h) (oG.same e rs)
end
theorem oG.append{ds es:List PyData}(h:oG K H xs ds)(h':oG K H ys es):oG K H (xs++ys) (ds++es):=by
 induction xs generalizing ds with
 | nil=>cases h; exact h'
 | cons x xs ih=>cases h with
  | cons a b=>exact .cons a (ih b)
end
def Sh(k:Nat)(d:PyData):Prop:=d.canLay0=true /\ d.depth <= k
theorem Sh.shaped{d:PyData}(h:Sh k d)(hk:k <= 64):SeqAt.shaped d=true:=by
 unfold SeqAt.shaped
 rw [h.1,decide_eq_true (bE h.2 hk)]
 rfl
theorem Sh.mono{j k:Nat}{d:PyData}(h:Sh j d)(hk:j <= k):Sh k d:=⟨h.1,bE h.2 hk⟩
theorem Sh.int(i:Int):Sh k (.int i):=⟨rfl,aQ _⟩
theorem Sh.bool(i:Bool):Sh k (.bool i):=⟨rfl,aQ _⟩
theorem Sh.c6:Sh k .none:=⟨rfl,aQ _⟩
theorem Sh.str{x:Str}(h:PyData.strOk x=true):Sh k (.str x):=⟨h,aQ _⟩
theorem Sh.all:∀ {ds:List PyData},(∀ d∈ds,Sh k d)->PyData.canLayAll0 ds=true /\ PyData.depthAll ds <= k
 | [],_=>⟨rfl,aQ _⟩
 | d :: ds,h=>by
  have h1:=h d (by simp)
  have h2:=Sh.all (ds:=ds) λ e he=>h e (cV _ he)
  refine ⟨?_,?_⟩
  ·show (PyData.canLay0 d && PyData.canLayAll0 ds)=true
   rw [h1.1,h2.1]; rfl
  ·show max (PyData.depth d) (PyData.depthAll ds) <= k
   exact Nat.max_le.mpr ⟨h1.2,h2.2⟩
theorem Sh.list{ds:List PyData}(h:∀ d∈ds,Sh k d):Sh (k + 1) (.list ds):=⟨(Sh.all h).1,Nat.succ_le_succ (Sh.all h).2⟩
theorem Sh.tup{k:Nat}{ds:List PyData}(h:∀ d∈ds,Sh k d):Sh (k + 1) (.tuple ds):=⟨(Sh.all h).1,Nat.succ_le_succ (Sh.all h).2⟩
def E3(K:aA):R2:=λ x y H Q=>∃ d e,RD K H x d /\ RD K H y e /\ SeqAt.shaped d=true /\ SeqAt.shaped e=true /\ Q (.bl (PyData.eqv d e)) H
section
variable {X:Cx}
theorem nD(hu:X.A.units + 64 < cLine):ju X (compareOp .Eq) (E3 X.K):=by
 intro pins s σ H x y v u Q I rx ry h
 obtain ⟨d,e,hd,he,sd,se,q⟩:=h
 obtain ⟨as,ra⟩:=hd.reads I rx
 obtain ⟨bs,rb⟩:=he.reads I ry
 exact eq_dataH ra rb sd se hu ⟨.bl _,H,I,rfl,q⟩
end
section
variable {K:aA}{nx bk ct:St->Hp->Prop}{rt:VK}{σ:St}{H:Hp}{Q:VK}{P:Bool->Hp->Prop}{ta tb tc te:TE}{t u:TS}
theorem N8{x y:V}(d:PyData)(k:Nat)(hk:k <= 64)(hx:RD K H x d)(hy:RD K H y d)(hs:Sh k d)(h:Q (.bl true) H):E3 K x y H Q:=⟨d,d,hx,hy,hs.shaped hk,hs.shaped hk,by rw [SeqAt.eqv_refl d hs.1]; exact h⟩
theorem Sw{p:Addr}{bs:List Bool}(hS:bD K H p (bs.map V.bl))(h:Q (.bl (bs.all id)) H):Sv K [.ref p] H Q:=⟨p,bs,rfl,hS,h⟩
theorem Sx{lo hi:Option Int}(hS:gm K H a xs)(hw:¬ (HT.fT xs.length 0 lo=0 /\ HT.fT xs.length xs.length hi=xs.length))(h:∀ p H',eE H p (.tup (kO xs lo hi)) H'->Q (.ref p) H'):Rg K (.ref a) lo hi H Q:=⟨a,xs,rfl,hS,hw,λ p hp=>h p _ ⟨hp,rfl⟩⟩
theorem vF{l:Addr}{k:Int}(hl:H l=some (.lst xs))(h1:-(2 ^ 62) <= k)(h2:k < 2 ^ 62)(hz:xs.length * k.toNat <= 1000000)(h:∀ p H',eE H p (.lst (List.replicate k.toNat xs).flatten) H'->Q (.ref p) H'):Ro (.ref l) (.int k) H Q :=
 ⟨l,k,xs,rfl,rfl,hl,by omega,by omega,bE hz (by decide),λ p hp=>h p _ ⟨hp,rfl⟩⟩
theorem N9{tl:TA}(h:tl σ H (N6 K R)):Ss K tl σ H R:=h
theorem AJ(hx:Cm t1 K H a xs)(hy:Cm t2 K H b ys)(h:R (Sq K t1 t2 a b xs ys) H):N6 K R [.ref a,.ref b] H:=⟨t1,t2,a,b,xs,ys,rfl,hx,hy,h⟩
theorem Jg{tl:TA}(h:tl σ H (N7 K R)):LK K tl σ H R:=h
theorem Sy(hS:bD K H a xs)(h:R (Su K a xs) H):N7 K R [.ref a] H:=⟨a,xs,rfl,hS,h⟩
theorem zf{tb:TS}(Pv:Nat->St->Hp->Prop)(h0:Pv 0 σ H)(hl:∀ i σ H,i <= xs.length->Pv i σ H->bD K H a xs)
  (hs:∀ i x p σ H H',xs[i]? = some x->Pv i σ H->eE H p (.tup [.int i,x]) H'->g (.ref p) σ H' λ σ2 H2=>tb ⟨Pv (i + 1),rt,nx,Pv (i + 1)⟩ σ2 H2)(hd:∀ σ H,Pv xs.length σ H->nx σ H):LC (Su K a xs) g tb nx rt σ H:=by
 refine ⟨λ i m σ H=>m=xs.length - i /\ i <= xs.length /\ Pv i σ H,⟨xs.length,by simp,aQ _,h0⟩,?_⟩
 rintro i m σ H ⟨rfl,hi,p⟩
 have q:=hl i σ H hi p
 by_cases hlt:i < xs.length
 ·refine .inr ⟨⟨q,hlt⟩,Pv (i + 1),λ σ' H' p'=>⟨xs.length - (i + 1),by omega,rfl,hlt,p'⟩,λ x H' y=>?_⟩
  obtain ⟨pa,x',hx,rfl,n⟩:=y
  exact hs i x' pa σ H H' hx p n
 ·have e:i=xs.length:=by omega
  subst e
  exact .inl ⟨⟨q,az _⟩,hd σ H p⟩
theorem Sz{tb:TS}(Pv:Nat->St->Hp->Prop)(h0:Pv 0 σ H)(hl:∀ i σ H,i <= min xs.length ys.length->Pv i σ H->Cm t1 K H a xs /\ Cm t2 K H b ys)
  (hs:∀ i x y p σ H H',xs[i]? = some x->ys[i]? = some y->Pv i σ H->eE H p (.tup [x,y]) H'->g (.ref p) σ H' λ σ2 H2=>tb ⟨Pv (i + 1),rt,nx,Pv (i + 1)⟩ σ2 H2)(hd:∀ σ H,Pv (min xs.length ys.length) σ H->nx σ H):LC (Sq K t1 t2 a b xs ys) g tb nx rt σ H:=by
 refine ⟨λ i m σ H=>m=min xs.length ys.length - i /\ i <= min xs.length ys.length /\ Pv i σ H,⟨min xs.length ys.length,by simp,aQ _,h0⟩,?_⟩
 rintro i m σ H ⟨rfl,hi,p⟩
 have q:=hl i σ H hi p
 by_cases hlt:i < min xs.length ys.length
 ·refine .inr ⟨⟨q.1,q.2,hlt⟩,Pv (i + 1),λ σ' H' p'=>⟨min xs.length ys.length - (i + 1),by omega,rfl,hlt,p'⟩,λ x H' y=>?_⟩
  obtain ⟨pa,x',y',hx,hy,rfl,n⟩:=y
  exact hs i x' y' pa σ H H' hx hy p n
 ·have e:i=min xs.length ys.length:=by omega
  rw [e] at p
  exact .inl ⟨⟨q.1,q.2,by omega⟩,hd σ H p⟩
def E4(J:It)(g:TG)(tt:TT)(te:TE)(τ0:St)(Q:VK)(H:Hp):Prop:=∃ W:Nat->Nat->List V->St->Hp->Prop,(∃ m,W 0 m [] τ0 H) /\ ∀ i m ys τ H,W i m ys τ H ->
 (J.stop i H /\ ∀ p,H p=none->Q (.ref p) (upd H p (.lst ys))) \/ (J.go i H /\ ys.length < sizeLine /\ ∃ N:List V->St->Hp->Prop,(∀ ys' τ' H',N ys' τ' H'->∃ m',m' < m /\ W (i + 1) m' ys' τ' H') /\
  ∀ v H',J.DV i H v H'->g v τ H' λ τ2 H2=>tt τ2 H2 λ b H3=>if b=true then te τ2 H3 λ y H4=>N (ys++[y]) τ2 H4 else N ys τ2 H3)
theorem Jh{wi:TI}{ix:List Nat}(h:wi σ H λ J H1=>E4 J g tt te (List.replicate k none++cut ix σ) Q H1):ze wi g tt te ix k σ H Q:=h
theorem Oa{τ0:St}(Pv:Nat->List V->St->Hp->Prop)(h0:Pv 0 [] τ0 H)(hl:∀ i zs τ H,i <= min xs.length ys.length->Pv i zs τ H->Cm t1 K H a xs /\ Cm t2 K H b ys /\ zs.length <= i)(hz:xs.length <= 1000000)
  (hs:∀ i x y p zs τ H H',xs[i]? = some x->ys[i]? = some y->Pv i zs τ H->eE H p (.tup [x,y]) H'->g (.ref p) τ H' λ τ2 H2=>tt τ2 H2 λ b H3=>if b=true then te τ2 H3 λ y H4=>Pv (i + 1) (zs++[y]) τ2 H4 else Pv (i + 1) zs τ2 H3)
  (hd:∀ zs τ H,Pv (min xs.length ys.length) zs τ H->∀ p H',eE H p (.lst zs) H'->Q (.ref p) H'):E4 (Sq K t1 t2 a b xs ys) g tt te τ0 Q H:=by
 refine ⟨λ i m zs τ H=>m=min xs.length ys.length - i /\ i <= min xs.length ys.length /\ Pv i zs τ H,⟨min xs.length ys.length,by simp,aQ _,h0⟩,?_⟩
 rintro i m zs τ H ⟨rfl,hi,p⟩
 obtain ⟨q1,q2,q3⟩:=hl i zs τ H hi p
 by_cases hlt:i < min xs.length ys.length
 ·refine .inr ⟨⟨q1,q2,hlt⟩,cg (show zs.length < 1000001 by omega) (by decide),Pv (i + 1),λ zs' τ' H' p'=>⟨min xs.length ys.length - (i + 1),by omega,rfl,hlt,p'⟩,λ x H' y=>?_⟩
  obtain ⟨pa,x',y',hx,hy,rfl,n⟩:=y
  exact hs i x' y' pa zs τ H H' hx hy p n
 ·have e:i=min xs.length ys.length:=by omega
  rw [e] at p
  exact .inl ⟨⟨q1,q2,by omega⟩,λ r hr=>hd zs τ H p r _ ⟨hr,rfl⟩⟩
theorem Ji{τ0:St}(Pv:Nat->List V->St->Hp->Prop)(h0:Pv 0 [] τ0 H)(hl:∀ i zs τ H,i <= xs.length->Pv i zs τ H->bD K H a xs /\ zs.length <= i)(hz:xs.length <= 1000000)
  (hs:∀ i x p zs τ H H',xs[i]? = some x->Pv i zs τ H->eE H p (.tup [.int i,x]) H'->g (.ref p) τ H' λ τ2 H2=>tt τ2 H2 λ b H3=>if b=true then te τ2 H3 λ y H4=>Pv (i + 1) (zs++[y]) τ2 H4 else Pv (i + 1) zs τ2 H3)
  (hd:∀ zs τ H,Pv xs.length zs τ H->∀ p H',eE H p (.lst zs) H'->Q (.ref p) H'):E4 (Su K a xs) g tt te τ0 Q H:=by
 refine ⟨λ i m zs τ H=>m=xs.length - i /\ i <= xs.length /\ Pv i zs τ H,⟨xs.length,by simp,aQ _,h0⟩,?_⟩
 rintro i m zs τ H ⟨rfl,hi,p⟩
 obtain ⟨q1,q3⟩:=hl i zs τ H hi p
 by_cases hlt:i < xs.length
 ·refine .inr ⟨⟨q1,hlt⟩,cg (show zs.length < 1000001 by omega) (by decide),Pv (i + 1),λ zs' τ' H' p'=>⟨xs.length - (i + 1),by omega,rfl,hlt,p'⟩,λ x H' y=>?_⟩
  obtain ⟨pa,x',hx,rfl,n⟩:=y
  exact hs i x' pa zs τ H H' hx p n
 ·have e:i=xs.length:=by omega
  rw [e] at p
  exact .inl ⟨⟨q1,by omega⟩,λ r hr=>hd zs τ H p r _ ⟨hr,rfl⟩⟩
end
def vG(w:World)(K:aA)(a:Addr)(kvs:List (Key × V)):Prop:=(a == sysModules)=false /\ ∀ (P:Program) (h:Heap),K.In h->∃ vs,KV kvs vs /\ h.DictOf (bW P w) a vs
def entriesOf(w:World):List (Str × Tok × Value)->List DictEntry
 | []=>[]
 | (k,t,v) :: r=>{ hash:=PyData.keyHash w.params k,key:=.str k t,val:=v } :: entriesOf w r
theorem jl{P:Program}{w:World}:∀ (es:List (Str × Tok × Value)),(∀ e∈entriesOf w es,∃ k,(bW P w).is k e.key=true /\ e.hash=(bW P w).hash k) /\ Pairs (bW P w) (entriesOf w es) (es.map λ e=>(Sum.inr e.1,e.2.2))
 | []=>by
  refine ⟨λ e h=>?_,?_⟩
  ·simp [entriesOf] at h
  ·exact Pairs.nil
 | (k,t,v) :: r=>by
  obtain ⟨h1,h2⟩:=jl (P:=P) (w:=w) r
  refine ⟨λ e he=>?_,.cons (jF P w k t) rfl h2⟩
  rcases aJ.mp he with q | q
  ·subst q
   exact ⟨.inr k,jF P w k t,rfl⟩
  ·exact h1 e q
theorem vG.mk'{es:List (Str × Tok × Value)}{kvs:List (Key × V)}(l:K.lookup a=some ⟨.type "dict", none,.dict (entriesOf w es).toArray n,#[]⟩)(hd:(a == sysModules)=false)(nd:(es.map (·.1)).Nodup)
  (hv:KV kvs (es.map λ e=>((Sum.inr e.1:Key),e.2.2))):vG w K a kvs:=by
 refine ⟨hd,λ P h Qq=>⟨_,hv,_,_,_,Qq a _ l,⟨rfl,rfl,rfl⟩,rfl,?_,?_,?_⟩⟩
 ·intro e he
  exact (jl es).1 e (by simpa using he)
 ·simpa using (jl (P:=P) (w:=w) es).2
 ·have q:((es.map λ e=>((Sum.inr e.1:Key),e.2.2)).map (·.1))=(es.map (·.1)).map (λ x=>(Sum.inr x:Key)):=by simp [fY,Function.comp_def]
  rw [q]
  exact gJ.mpr (List.Pairwise.imp (λ h e=>h (Sum.inr.inj e)) nd)
section
variable {X:Cx}{o i e f:Expr}{pos apos cpos:Pos}{td ty tx:TE}{a:Addr}{kvs:List (Key × V)}
def E5(a:Addr)(kvs:List (Key × V))(td ty:TE):TE:=λ σ H Q=>td σ H λ x H1=>ty σ H1 λ y H2=>∃ k v,x=.ref a /\ y=kV k /\ iT kvs k=some v /\ Q v H2
theorem E6(C:vG X.w X.K a kvs)(ho:PE X o td)(hi:PE X i ty)(hs:IL i):PE X (.Subscript o i pos) (E5 a kvs td ty):=by
 intro pins s σ H Q I h
 refine Ax PySem.F.slot_dict_getitem.lookup hs (cL (ho pins s σ H _ I h) λ u s1 ⟨x,H1,I1,rx,q1⟩=>cL (hi pins s1 σ H1 _ I1 q1) λ iv s2 ⟨y,H2,I2,ry,k,v,ex,ey,l,q2⟩=>?_)
 subst ex ey
 obtain rfl:u=Value.ref a:=rx
 obtain ⟨vs,rel,dd⟩:=C.2 X.prog s2.heap I2.tS
 obtain ⟨w',hw,rw'⟩:=kM.some_of (v:=v) (o:=valueAt vs k) (by rw [<- l]; exact rel.val k)
 exact ⟨dd.typeIs,wpAny_getItem_of (vn ry) dd.mapOf hw ⟨v,H2,I2.tok _,rw',q2⟩⟩
end
section
variable {nx bk ct:St->Hp->Prop}{rt:VK}{σ:St}{H:Hp}{Q:VK}{td ty tx:TE}{a:Addr}{kvs:List (Key × V)}
def rDK(a:Addr)(kvs:List (Key × V)):R2:=λ x y H Q=>∃ k v,x=.ref a /\ y=kV k /\ iT kvs k=some v /\ Q v H
theorem Jj(h:td σ H λ x H1=>ty σ H1 λ y H2=>rDK a kvs x y H2 Q):E5 a kvs td ty σ H Q:=h
theorem SA{x:Str}{v:V}(hv:iT kvs (.inr x)=some v)(h:Q v H):rDK a kvs (.ref a) (.str x) H Q:=⟨.inr x,v,rfl,rfl,hv,h⟩
end
def gj(K:aA)(a:Addr)(xs:List V):Prop:=∀ H:Hp,gm K H a xs
theorem gj.sq{H:Hp}(c:gj K a xs):gm K H a xs:=c H
theorem gj.mk'{od:Option Addr}{its:Array Value}{sl:Array (Option Value)}(l:K.lookup a=some ⟨.type "tuple", od,.seq its n,sl⟩)(r:Vals xs its.toList)(hz:its.size <= 1000):gj K a xs :=
 λ _=>.inr ⟨_,its,n,l,rfl,rfl,bE hz (by decide),r⟩
section
variable {X:Cx}{K:aA}
theorem iU(e:X.K=K):HY X (M8 K):=e ▸ cK
theorem uo(e:X.K=K):HY X (M9 K):=e ▸ br
theorem qg(e:X.K=K):cO X (.builtin "len") (Nx K):=e ▸ dG
theorem Ob(e:X.K=K):cO X (.builtin "isinstance") (Nz K):=e ▸ gC
theorem Jk(e:X.K=K)(hu:X.A.units + 64 < cLine):ju X (compareOp .Eq) (E3 K):=e ▸ nD hu
theorem AK{t:B5}(e:X.K=K)(hc:X.calm=true)(h:Qs X es t)
  (hn:(assignEach es X.env).length=n:=by rfl)(hst:(assignEach es X.env).findIdx? (·.1)=none:=by rfl):PG X (.Tuple es k pos) (MO K n t):=e ▸ nu hc h hn hst
end
theorem E7{α:Type}(x:α)(xs:List α):rN (x :: xs) 0=some x:=cJ (j:=0) rfl
theorem Oc{ta:TE}{σ:St}{H:Hp}{Q:VK}(h:ta σ H (nY λ b H1=>Q (.bl (!b)) H1)):Lb ta σ H Q:=h
end L2
theorem BT.SD:PySem.bootBuiltins "min" = some (.builtin "min"):=by decide +kernel
theorem BT.E8:PySem.bootBuiltins "max" = some (.builtin "max"):=by decide +kernel
namespace L2
open PySem PySem.Spec PyProof.Rows
variable {i:Int}
section
variable {X:Cx}{K:aA}{nx bk ct:St->Hp->Prop}{rt:VK}{σ:St}{H:Hp}{Q:VK}{P:Bool->Hp->Prop}{ta tb tc te td ty tx tv:TE}{t u:TS}{a:Addr}{kvs:List (Key × V)}
def SE:R2:=λ y x H Q=>∃ a o,x=.ref a /\ yV H a y o /\ Q (.bl (!o.isSome)) H
theorem Od(h:ty σ H λ y H1=>td σ H1 λ x H2=>SE y x H2 Q):Ay ty td σ H Q:=h
def Xl(v x y:V)(H3:Hp)(R:Hp->Prop):Prop:=∃ a H4,x=.ref a /\ vo H3 a y v H4 /\ R H4
theorem Oe(h:tv σ H λ v H1=>td σ H1 λ x H2=>ty σ H2 λ y H3=>Xl v x y H3 λ H4=>nx σ H4):Lx td ty tv ⟨nx,rt,bk,ct⟩ σ H:=h
theorem SH{v:V}{R:Hp->Prop}(hd:H a=some (.dK kvs))(hz:kvs.length < 1000000)(h:∀ H',kh H a (.dK (putK kvs (.inl i) v)) H'->R H'):Xl v (.ref a) (.int i) H R:=⟨a,_,rfl,.inl ⟨kvs,.inl i,hd,rfl,cg hz (by decide),rfl⟩,h _ rfl⟩
theorem Of(h:∀ p H',eE H p (.dK []) H'->Q (.ref p) H'):Ey σ H Q:=λ p hp=>h p _ ⟨hp,rfl⟩
theorem Jl{l:Addr}{xs:List V}(hl:H l=some (.lst xs))(h:∀ H',kh H l (.lst []) H'->Q .c6 H'):Es (.ref l) [] H Q:=⟨l,xs,rfl,rfl,hl,h _ rfl⟩
def LL:List V->Hp->VK->Prop:=λ xs H Q=>∃ i j,xs=[.int i,.int j] /\ Q (.int (if j < i then j else i)) H
theorem zg(hc:X.calm=true):cO X (.builtin "min") LL:=B9 hc
theorem Og{j:Int}(h:Q (.int (if j < i then j else i)) H):LL [.int i,.int j] H Q:=⟨i,j,rfl,h⟩
theorem E9{i:Nat}{y:Str}{py spos:Pos}{elt iter tg:Expr}{xs:List Str}{g:TG}{ifs:List Expr}{scope:Scope}{cl:List (Str × Addr)}{pos:Pos}{fr:List Str}{ix:List Nat}{wi:TI}{tt:TT}{te:TE}(hN:X.N.Nodup)(WR:X.N[i]? = some y)(hy:Loc X.env.scope y)
  (O:jk X scope cl xs fr ix)(hi:PI X tg iter wi)(hg:∀ C fp s H,PG (kr X (xs++fr) scope cl C fp s H) tg g)
  (ht:∀ C fp s H,PF (kr X (xs++fr) scope cl C fp s H) ifs tt)(he:∀ C fp s H,PE (kr X (xs++fr) scope cl C fp s H) elt te)
  (hsw:swapsWith (.ListComp elt [⟨tg,iter,ifs,0⟩] scope pos) (some (.Name y py)) spos.line X.env=pure true:=by rfl)
  (hs:∀ v,foldedSetIterable iter X.env v=pure v:=by intro _; rfl)(hf:X.fn y=true \/ X.env.scope.names.lookup y=some .local:=by first | exact .inl rfl | exact .inr rfl | assumption):
  PS X (.Assign [.Name y py] (.ListComp elt [⟨tg,iter,ifs,0⟩] scope pos) spos) (EI (ze wi g tt te ix xs.length) i):=by
 intro pins s σ H D I h
 rw [exec_Assign_Name_used _ _ _ _ hsw]
 refine ao (wpAny_standAt (ao ?_))
 show wpAny _ X.A (do let _ <- comprehension (.ListComp elt [⟨tg,iter,ifs,0⟩] scope pos) scope X.env _ (newList []) false (eval iter X.env) (some (assign (.Name y py) X.env))) _ _ s
 refine ao (wpAny_mono (wpAny_comprehension_free (use:=some (assign (.Name y py) X.env)) (Q:=λ _ s'=>SP X pins D .next s') rfl hs O.clos O.kind O.names
  (cL (hi pins s σ H _ I h) λ v s1 h1=>cL h1 λ itv s2 h2=>?_)) (λ _ s' hq=>aH (aH hq)) λ _ _ e=>e)
 obtain ⟨it,fp,tn,J,H2,e,I2,T,st2,f2,W,⟨m0,w0⟩,turn⟩:=h2
 subst e
 refine nZ O hg ht he I2 T st2 f2 (λ ys H=>∀ p,H p=none->D.nx (σ.set i (some (.ref p))) (upd H p (.lst ys))) W m0 w0 turn λ L C s' ys H' I' hm fC hD z=>?_
 obtain ⟨m,hm⟩:=hm
 show wpAny _ X.A (assign (.Name y py) X.env (.ref L)) _ _ _
 refine wpAny_assign_Name (nh I' hN WR hy (v:=.ref L) rfl (λ s'' WS IS=>?_) hf)
 obtain ⟨a,IS,ha⟩:=IS
 have WT:C ≠ a:=by
  rcases ha with z | z
  ·rw [z]; exact fC.2.1
  ·exact bF (fC.2.2.2.2.1 _ _ z)
 refine ⟨m,hm.sameBut IS WT,λ h' hs'=>?_⟩
 exact ⟨_,_,WS.turned (t':=s''.toks) (it:=C) (λ b o hb e=>hs'.extBut b o hb e) fC.1 fC.2.1 fC.2.2.2.1 fC.2.2.2.2.1 fC.2.2.2.2.2,z L hD⟩
end
section
variable {K:aA}{H:Hp}{Q:VK}{te:TE}
end
structure SJ (K:aA) (x qual:Str) (st:Stmt) (f:Addr) (fd:FuncData) (dV:Value):Prop where
 ex:∃ (oc:Value) (od:Option Addr) (kV doc pm:Value) (an:Option Addr) (cdv ct:Value) (osl:Array (Option Value)),
  fd=PySem.W.fnOf x qual (iw st) (fJ st) (aB st) dV kV doc pm an cdv ct /\ K.lookup f=some ⟨oc,od,.func fd,osl⟩ /\ PySem.W.codeIn K cdv qual=true
 kp:PySem.W.keepIn K (.ref f)=true
section
variable {P:Program}{w:World}{K:aA}{mg:Str->Option Value}{base:Heap}
theorem SJ.ok{x qual:Str}{st:Stmt}{f:Addr}{fd:FuncData}{dV:Value}{N ps:List Str}{k:Nat}{sp:Sp}(F:SJ K x qual st f fd dV)(S:aP N ps (aB st))(len:∀ vs H Q E,sp vs H Q E->vs.length=ps.length)
  (hbody:∀ (cdv:Value) (A:Around) (outer:List Env) (s:Shared) (H:Hp) (vs:List V) (Q:VK) (E:XK),f6 k (A.deeper (envOfC qual (aB st) s.heap.objs.size f cdv))->sp vs H Q E ->
   ∃ t,rM (tW gr P w K mg base N qual (aB st) f cdv A outer s H E).B4 (fJ st) t /\ t { nx:=λ _ H'=>Q .c6 H',rt:=Q } (start N vs) H):bY P w K mg base gr (k + 1) f fd ps sp:=by
 obtain ⟨oc,od,kV,doc,pm,an,cdv,ct,osl,rfl,lk,hcd⟩:=F.ex
 refine Ej lk hcd S len λ A outer s H vs Q E hr u5=>?_
 obtain ⟨t,h,q⟩:=hbody cdv A outer s H vs Q E hr u5
 exact ⟨t,h.B4,q⟩
end
section
variable {X:Cx}{K:aA}{nx bk ct:St->Hp->Prop}{rt:VK}{σ:St}{H:Hp}{Q:VK}{P:Bool->Hp->Prop}{ta tb tc te td ty tx tv:TE}{t u:TS}{a:Addr}
def LM(R:It->Hp->Prop):List V->Hp->Prop:=λ vs H1=>∃ i j:Int,vs=[.int i,.int j] /\ (-(2 ^ 62) <= i /\ i < 2 ^ 62 /\ -(2 ^ 62) <= j /\ j < 2 ^ 62) /\ R (kq i (j - i).toNat) H1
theorem Fb{tl:TA}{R:It->Hp->Prop}(h:tl σ H (LM R)):Li tl σ H R:=h
theorem Oh{j:Int}{R:It->Hp->Prop}(h1:-(2 ^ 62) <= i /\ i < 2 ^ 62 /\ -(2 ^ 62) <= j /\ j < 2 ^ 62)(h:R (kq i (j - i).toNat) H):LM R [.int i,.int j] H:=⟨i,j,rfl,h1,h⟩
end
end L2
namespace ZP
open PySem PySem.Spec PyProof.Rows
section
variable {prog:Program}{w:World}{A:Around}{E:Value->Shared->Prop}{s:Shared}
end
end ZP
theorem F.eL:PySem.entryFor PySem.table "dict.update.loop" = some PySem.Builtin.«dict.update.loop»:=PySem.entryFor_of_tree (by kernel_rfl)
theorem F.b7:PySem.plainId "dict.update.loop" = true:=by decide +kernel
namespace L2
open PySem PySem.Spec PyProof.Rows
def kQ(ks:Nat->Key)(vs:Nat->V):Nat->List (Key × V)
 | 0=>[]
 | i + 1=>putK (kQ ks vs i) (ks i) (vs i)
theorem qh(ks:Nat->Key)(vs:Nat->V):∀ i,(kQ ks vs i).length <= i
 | 0=>az _
 | i + 1=>by
  have h1:=jL (kQ ks vs i) (ks i) (vs i)
  have h2:=qh ks vs i
  show (putK (kQ ks vs i) (ks i) (vs i)).length <= i + 1
  omega
structure AL (prog:Program) (w:World) (z d:Addr) (tn:String) (fp:List Addr) (n:Nat) (ks:Nat->Key) (vs:Nat->V) (St:Nat->Heap->Prop):Prop where
 ty:∀ i (s:Shared),St i s.heap->s.TypeIs (.ref z) tn
 nd:(Value.type tn != Value.type "dict")=true
 self:∀ (A:Around) (s:Shared) (Q:Value->Shared->Prop) (E:Value->Shared->Prop),St 0 s.heap->Q (.ref z) s->wpAny (model prog w) A (pyIter (.ref z)) Q E s
 nk:∀ (A:Around) i (s:Shared) (Q:Option Value->Shared->Prop) (E:Value->Shared->Prop),A.handled=none->St i s.heap->(∀ h' tk,(∀ b o,s.heap.get? b=some o->h'.get? b=some o)->Q none { s with heap:=h',toks:=tk })->wpAny (model prog w) A (getAttr? (.ref z) "keys") Q E s
 frame:∀ i h h',St i h->(∀ b o,b ≠ d->h.get? b=some o->h'.get? b=some o)->St i h'
 item:∀ (A:Around) i (s:Shared) (Q:Option Value->Shared->Prop) (E:Value->Shared->Prop),A.handled=none->i < n->St i s.heap ->
  (∀ h' tk u v,RelV (kV (ks i)) u->RelV (vs i) v->(s.heap.objs.size ≠ d->St (i + 1) h')->h'.get? s.heap.objs.size=some { cls:=.type "tuple", data:=.seq #[u,v] } -> (∀ b o,b ∉ fp->s.heap.get? b=some o->h'.get? b=some o) ->
   Q (some (.ref s.heap.objs.size)) { s with heap:=h',toks:=tk })->wpAny (model prog w) A (pyNext (.ref z)) Q E s
 done:∀ (A:Around) (s:Shared) (Q:Option Value->Shared->Prop) (E:Value->Shared->Prop),A.handled=none->St n s.heap->(∀ h',(∀ b o,b ∉ fp->s.heap.get? b=some o->h'.get? b=some o)->Q none { s with heap:=h' })->wpAny (model prog w) A (pyNext (.ref z)) Q E s
section
variable {prog:Program}{w:World}{A:Around}{z d:Addr}{tn:String}{fp:List Addr}{n:Nat}{ks:Nat->Key}{vs:Nat->V}{St:Nat->Heap->Prop}
theorem AL.loop{R:Result->Shared->Prop}{s0:Shared}(O:AL prog w z d tn fp n ks vs St)(hd:d ∉ fp)(hh:A.in1.handled=none)(hn:n <= sizeLine)
  (hR:∀ h' tk rs,(∀ b o,b ∉ fp->b ≠ d->s0.heap.get? b=some o->h'.get? b=some o)->h'.DictOf (bW prog w) d rs->KV (kQ ks vs n) rs->R (.ok (.ret .none)) { s0 with heap:=h',toks:=tk }):
  ∀ (k i:Nat) (h:Heap) (t:Nat) (rs:List (Key × Value)) (c:Tok),n - i=k->i <= n->(∀ b o,b ∉ fp->b ≠ d->s0.heap.get? b=some o->h.get? b=some o)->St i h->h.DictOf (bW prog w) d rs->KV (kQ ks vs i) rs ->
   codeAny (model prog w) A (.builtin "dict.update.loop" ⟨[.ref d,.ref z,.int i c,.none],[]⟩) R { s0 with heap:=h,toks:=t }:=by
 intro k
 induction k with
 | zero =>
  intro i h t rs c hk hi kp st dd rel
  have e:i=n:=by omega
  subst e
  refine codeAny_builtin F.eL ?_
  rw [fz F.b7 _]
  show wpAny _ A.in1 (pyNext (.ref z) >>= _) _ _ _
  refine ao (O.done _ { s0 with heap:=h,toks:=t } _ _ hh st λ h' k'=>?_)
  show wpAny _ A.in1 (Builtin.Dict.addKeywords d [] >>= _) _ _ _
  refine ao (aH (aH ?_))
  exact hR h' t rs (λ b o b1 b2 q=>k' b o b1 (kp b o b1 b2 q)) (let ⟨o,es,ep,q,r⟩:=dd; ⟨o,es,ep,k' d o hd q,r⟩) rel
 | succ k ih =>
  intro i h t rs c hk hi kp st dd rel
  have hlt:i < n:=by omega
  refine codeAny_builtin F.eL ?_
  rw [fz F.b7 _]
  show wpAny _ A.in1 (pyNext (.ref z) >>= _) _ _ _
  refine ao (O.item _ i { s0 with heap:=h,toks:=t } _ _ hh hlt st λ h1 t1 u v ru rv st1 ht k1=>?_)
  have hT:d ≠ h.objs.size:=by
   obtain ⟨o,_,_,q,_⟩:=dd
   exact aT (aF q)
  have d1:h1.DictOf (bW prog w) d rs:=let ⟨o,es,ep,q,r⟩:=dd; ⟨o,es,ep,k1 d o hd q,r⟩
  have Xm:({ s0 with heap:=h1,toks:=t1 }:Shared).TypeIs (.ref h.objs.size) "tuple" := ⟨_,ht,rfl⟩
  show wpAny _ A.in1 (holding [Value.ref h.objs.size] _ >>= _) _ _ _
  refine ao (wpAny_holding ?_)
  refine ao (wpAny_tryCatch ?_)
  unfold Builtin.Dict.pairItems
  refine ao (wpAny_typeOf Xm ?_)
  show wpAny _ _ (seqItems? (.ref h.objs.size) >>= _) _ _ _
  refine ao (wpAny_seqItems ht rfl (aH ?_))
  show wpAny _ _ (holding [u,v] (dictSet d u v)) _ _ _
  refine wpAny_holding (wpAny_dictSet_pairs (hsz:=?_) (vn ru) d1 λ h2 d2 sb=>?_)
  ·refine aH ⟨plainId_quiet F.b7 _,?_⟩
   refine ih (i + 1) h2 _ (stored rs (ks i) v) 0 (by omega) hlt (λ b o b1 b2 q=>?_) (O.frame _ _ _ (st1 (bF hT)) λ b o b1 q=>sb.extBut b o b1 q) d2 (rel.put (ks i) rv)
   exact sb.extBut b o b2 (k1 b o b1 (kp b o b1 b2 q))
  ·rw [<- rel.length]
   exact bE (qh ks vs i) (bE (gK hlt) hn)
end
section
variable {prog:Program}{w:World}{A:Around}{E:Value->Shared->Prop}{s:Shared}{z:Addr}{tn:String}{fp:List Addr}{n:Nat}{ks:Nat->Key}{vs:Nat->V}{St:Nat->Heap->Prop}
theorem AL.call{Q:Value->Shared->Prop}(O:AL prog w z s.heap.objs.size tn fp n ks vs St)(hfp:∀ b∈fp,b < s.heap.objs.size)(hh:A.in1.in1.handled=none)(hn:n <= sizeLine)(st:St 0 s.heap)
  (q:∀ h' tk rs,(∀ b o,b ∉ fp->s.heap.get? b=some o->h'.get? b=some o)->h'.DictOf (bW prog w) s.heap.objs.size rs->KV (kQ ks vs n) rs->Q (.ref s.heap.objs.size) { s with heap:=h',toks:=tk }):
  wpAny (model prog w) A (call (.type "dict") [.ref z]) Q E s:=by
 refine callType_codes (Q₁:=λ x s1=>x=.ref s.heap.objs.size /\ s1={ s with heap:=s.heap.push { cls:=.type "dict", data:=.dict #[] } }) F.kt_called_dict (F.kt_typeCall_dict_1 _) F.entry_dict_init (kt_code_dict_new _ ⟨rfl,rfl⟩) ?_
 rintro _ _ ⟨rfl,rfl⟩
 have dd:(s.heap.push { cls:=.type "dict", data:=.dict #[] }).DictOf (bW prog w) s.heap.objs.size []:=Heap.DictOf.new s.heap
 have hd:s.heap.objs.size ∉ fp:=λ h=>dH _ (hfp _ h)
 have st1:St 0 (s.heap.push { cls:=.type "dict", data:=.dict #[] }):=O.frame _ _ _ st λ b o _ e=>cB _ e
 refine ⟨dd.typeIs,F.args_dict_init_2 _ _,?_⟩
 unfold Builtin.«dict.__init__»
 refine ao ?_
 unfold Builtin.Dict.selfAndRest
 refine ao (wpAny_notOrdered_dict dd.typeIs ?_)
 refine aH (a:=(s.heap.objs.size,[Value.ref z])) ?_
 show wpAny _ _ (Builtin.Dict.updateFrom "dict.__init__" s.heap.objs.size (.ref z) [] .none) _ _ _
 unfold Builtin.Dict.updateFrom
 refine ao (wpAny_typeOf (O.ty 0 _ st1) ?_)
 rw [if_pos O.nd]
 refine ao (O.nk _ 0 _ _ _ hh st1 λ h1 t1 k1=>?_)
 show wpAny _ _ (rule _ >>= _) _ _ _
 refine ao (wpAny_rule ?_)
 have st2:St 0 h1:=O.frame _ _ _ st1 λ b o _ e=>k1 b o e
 refine ao (O.self _ _ _ _ st2 ?_)
 refine aH ⟨plainId_quiet F.b7 _,?_⟩
 have hsz:∀ b o,s.heap.get? b=some o->b ≠ s.heap.objs.size:=λ b o e=>aT (aF e)
 refine O.loop (s0:={ s with heap:=h1,toks:=t1 }) hd hh hn (λ h' tk rs k' d' rel=>?_) _ 0 h1 t1 [] 0 rfl (aQ _) (λ b o _ _ e=>e) st2 (let ⟨o,es,ep,x,r⟩:=dd; ⟨o,es,ep,k1 _ _ x,r⟩) .nil
 exact ⟨rfl,q h' tk rs (λ b o b1 e=>k' b o b1 (hsz b o e) (k1 b o (cB _ e))) d' rel⟩
end
end L2
namespace ZP
open PySem PySem.Spec PyProof.Rows
end ZP
namespace L2
open PySem PySem.Spec PyProof.Rows
section
variable {X:Cx}
variable {K:aA}{σ:St}{H:Hp}{Q:VK}{a b:Addr}
end
section
variable {X:Cx}{K:aA}{nx bk ct:St->Hp->Prop}{rt:VK}{σ:St}{H:Hp}{Q:VK}{P:Bool->Hp->Prop}{ta tb tc te td ty tx tv:TE}{t u:TS}{a:Addr}
end
section
variable {K:aA}{nx bk ct:St->Hp->Prop}{rt:VK}{σ:St}{H:Hp}{Q:VK}{ta:TA}
end
end L2
namespace HT
open PySem PySem.Spec PyProof.Rows
section
variable {prog:Program}{w:World}{A:Around}{E:Value->Shared->Prop}{s:Shared}
end
end HT
namespace L2
open PySem PySem.Spec PyProof.Rows
section
variable {X:Cx}{K:aA}{nx bk ct:St->Hp->Prop}{rt:VK}{σ:St}{H:Hp}{Q:VK}{a:Addr}
end
section
variable {X:Cx}{K:aA}{nx bk ct:St->Hp->Prop}{rt:VK}{σ:St}{H:Hp}{Q:VK}{ta tv:TE}{t:TA}{a C dx:Addr}{fs fs':List (Str × V)}{f m:Str}{v y z:V}{sp:Sp}{E:XK}
theorem Oi{i j:Int}(h:Q (.int (i - j)) H):Q9 (.int i) (.int j) H Q:=⟨i,j,rfl,rfl,h⟩
end
section
variable {co si pl mk wd se an st x:V}
end
section
variable {X:Cx}{K:aA}{σ:St}{H:Hp}{Q:VK}{t:TA}
end
end L2
namespace ZP
open PySem PySem.Spec PyProof.Rows
theorem rP:entryFor table "list.__getattribute__" = some Builtin.«object.__getattribute__»:=entryFor_alias (id' := "object.__getattribute__") (by kernel_rfl) (by decide +kernel) (by decide +kernel) (by kernel_rfl)
theorem uq:typeLookup (.type "list") "__getattr__" = pure none:=by
 rw [typeLookup_type,builtinLookup_eq_fast]; kernel_rfl
theorem ur:typeLookup (.type "list") "keys" = pure none:=by
 rw [typeLookup_type,builtinLookup_eq_fast]; kernel_rfl
theorem rQ(x:Addr)(its:Array Value)(n:Nat)(sl:Array (Option Value))(u:Tok):
  Meets (Builtin.«object.__getattribute__» ⟨[.ref x,.str "keys" u],[]⟩) (λ A R s=>s.heap.get? x=some { cls:=.type "list", dict:=none,data:=.seq its n,slots:=sl } /\ raisesAttr (.ref x) "keys" A R s):=by
 refine Meets.of_wp λ prog w A R s q=>?_
 obtain ⟨h0,g0,d0,t0,o0⟩:=s
 obtain ⟨hx,q⟩:=q
 have hT:(⟨h0,g0,d0,t0,o0⟩:Shared).TypeIs (.ref x) "list" := ⟨_,hx,rfl⟩
 have hmiss:=ur
 unfold Builtin.«object.__getattribute__»
 repeat (any_goals (first | assumption | wp_step))
 exact wpAny_raiseAttrError q.1 q.2 (attrMsg_fits (by decide +kernel) (by size_fits))
theorem Jm{prog:Program}{w:World}{A:Around}{E:Value->Shared->Prop}{s:Shared}{x:Addr}{its:Array Value}{n:Nat}{sl:Array (Option Value)}{Q:Option Value->Shared->Prop}(hx:s.heap.get? x=some { cls:=.type "list", dict:=none,data:=.seq its n,slots:=sl })(hA:A.handled=none)
  (q:∀ h' tk,(∀ b o,s.heap.get? b=some o->h'.get? b=some o)->Q none { s with heap:=h',toks:=tk }):wpAny (model prog w) A (getAttr? (.ref x) "keys") Q E s:=by
 obtain ⟨h0,g0,d0,t0,o0⟩:=s
 have hT:∀ tk',(⟨h0,g0,d0,tk',o0⟩:Shared).TypeIs (.ref x) "list" := λ _=>⟨_,hx,rfl⟩
 have e1:=sub_AttributeError
 have e2:=F.slot_list_getattribute.lookup
 have e3:=F.slot_list_getattribute.bind (.ref x)
 have e4:=uq
 unfold getAttr? getAttrBy? getAttrBy
 repeat (any_goals (first | assumption | exact hT _ | ((with_reducible show wpAny _ _ (call (Value.builtin "list.__getattribute__") _ _) _ _ _); refine call_meets F.slot_list_getattribute (hT _) rP (F.args_list_getattribute_2 _ _) (rQ x its n sl _) ⟨hx,hA,λ h' tk' e he=>?_⟩) | wp_step))
 obtain ⟨t',u',LN⟩:=he.there
 show wpAny _ _ (getattributeRaised _ _ _ _ _ _ _) _ _ _
 unfold getattributeRaised
 repeat (any_goals (first | assumption | wp_step))
 exact q _ _ he.keeps
end ZP
namespace L2
open PySem PySem.Spec PyProof.Rows
section
variable {prog:Program}{w:World}{A:Around}
end
section
variable {prog:Program}{w:World}{A:Around}{E:Value->Shared->Prop}{s:Shared}
end
section
variable {X:Cx}{K:aA}{H:Hp}{Q:VK}{a:Addr}
end
section
variable {H:Hp}{Q:VK}{a:Addr}{kvs:List (Key × V)}
end
theorem jM(f:Nat->Int):∀ n,argBest (λ i j=>decide (f i > f j)) n <= n /\ ∀ i,i <= n->f i <= f (argBest (λ i j=>decide (f i > f j)) n)
 | 0=>⟨az _,λ i h=>by rw [Nat.le_zero.mp h]; exact Int.le_refl _⟩
 | n + 1=>by
  obtain ⟨h1,h2⟩:=jM f n
  by_cases h:f (n + 1) > f (argBest (λ i j=>decide (f i > f j)) n)
  ·have e:argBest (λ i j=>decide (f i > f j)) (n + 1)=n + 1:=by simp only [argBest]; rw [if_pos (decide_eq_true h)]
   rw [e]
   refine ⟨az _,λ i hi=>?_⟩
   rcases cH i (n + 1) with hl | hl
   ·have:=h2 i (by omega)
    omega
   ·rw [show i=n + 1 by omega]
    exact Int.le_refl _
  ·have e:argBest (λ i j=>decide (f i > f j)) (n + 1)=argBest (λ i j=>decide (f i > f j)) n:=by simp only [argBest]; rw [if_neg (by simpa using h)]
   rw [e]
   refine ⟨by omega,λ i hi=>?_⟩
   rcases cH i (n + 1) with hl | hl
   ·exact h2 i (by omega)
   ·rw [show i=n + 1 by omega]
    omega
theorem sD:∀ {xs:List Int} {its:List Value},Vals (xs.map V.int) its->∃ ps:List (Int × Tok),its=ps.map (λ p=>.int p.1 p.2) /\ ps.map (·.1)=xs
 | [],_,.nil=>⟨[],rfl,rfl⟩
 | x :: xs,_,.cons r t=>by
  obtain ⟨u,rfl⟩:=r
  obtain ⟨ps,rfl,e⟩:=sD t
  exact ⟨(x,u) :: ps,rfl,by simp [e]⟩
section
variable {X:Cx}{K:aA}{H:Hp}{Q:VK}{a:Addr}
end
section
variable {K:aA}{σ:St}{H:Hp}{Q:VK}{te:TE}
theorem Oj{x y:V}(d e:PyData)(k:Nat)(hk:k <= 64)(hx:RD K H x d)(hy:RD K H y e)(hs:Sh k d)(hs':Sh k e)(h:Q (.bl (PyData.eqv d e)) H):E3 K x y H Q:=⟨d,e,hx,hy,hs.shaped hk,hs'.shaped hk,h⟩
end
section
variable {σ:St}{H:Hp}{Q:VK}
end
section
variable {X:Cx}{K:aA}{H:Hp}{Q:VK}{a:Addr}
end
section
variable {X:Cx}{K:aA}{H:Hp}{Q:VK}{σ:St}{a:Addr}
end
section
variable {X:Cx}{tg:Expr}
end
section
variable {K:aA}{nx bk ct:St->Hp->Prop}{rt:VK}{σ:St}{H:Hp}{Q:VK}{te:TE}
end
section
variable {K:aA}{nx:St->Hp->Prop}{rt:VK}{σ:St}{H:Hp}{g:TG}{tb:TS}{a:Addr}{xs:List V}
end
section
variable {K:aA}{H:Hp}{Q:VK}{te:TE}{tt:TT}{τ:St}{a:Addr}{xs:List V}
end
section
variable {nx bk ct:St->Hp->Prop}{rt:VK}{σ:St}{H:Hp}{t u:TS}
def AM(t u:TS):TS:=MN t u
theorem Ol{D:Ends}(h:AM t u D σ H):MN t u D σ H:=h
theorem Om(h:∀ nx':St->Hp->Prop,(∀ σ H,u ⟨nx,rt,λ _ _=>False,λ _ _=>False⟩ σ H->nx' σ H)->t ⟨nx',rt,λ _ _=>False,λ _ _=>False⟩ σ H):AM t u ⟨nx,rt,λ _ _=>False,λ _ _=>False⟩ σ H:=h _ λ _ _ x=>x
theorem zh(h:∀ nx':St->Hp->Prop,(∀ σ H,u ⟨nx,rt,bk,ct⟩ σ H->nx' σ H)->t ⟨nx',rt,bk,ct⟩ σ H):AM t u ⟨nx,rt,bk,ct⟩ σ H:=h _ λ _ _ x=>x
theorem Oo(h:∀ no Xn Xo:St->Hp->Prop,(∀ σ H,nx σ H->no σ H)->(∀ σ H,bk σ H->Xn σ H)->(∀ σ H,ct σ H->Xo σ H)->∀ nx':St->Hp->Prop,(∀ σ H,u ⟨no,rt,Xn,Xo⟩ σ H->nx' σ H)->t ⟨nx',rt,Xn,Xo⟩ σ H):AM t u ⟨nx,rt,bk,ct⟩ σ H:=h _ _ _ (λ _ _ x=>x) (λ _ _ x=>x) (λ _ _ x=>x) _ λ _ _ x=>x
theorem LO{c:TT}(h:∀ kt kf:Hp->Prop,(∀ H,t ⟨nx,rt,bk,ct⟩ σ H->kt H)->(∀ H,u ⟨nx,rt,bk,ct⟩ σ H->kf H)->c σ H λ b H1=>if b=true then kt H1 else kf H1):QW c t u ⟨nx,rt,bk,ct⟩ σ H:=h _ _ (λ _ x=>x) λ _ x=>x
end
end L2
namespace SN
open PySem
variable {xs:Array Nat}
theorem Fc{j:Nat}(hs:xs.toList.Pairwise (· < ·)):∀ (fuel lo hi:Nat),hi - lo <= fuel->lo <= hi->hi <= xs.size->(∀ i v,i < lo->xs[i]? = some v->v < j)->(∀ i v,hi <= i->xs[i]? = some v->j <= v) ->
  ∀ p,SetTable.below.go xs j fuel lo hi=p->p <= xs.size /\ (∀ i v,i < p->xs[i]? = some v->v < j) /\ ∀ i v,p <= i->xs[i]? = some v->j <= v:=by
 have mono:∀ {i k:Nat} {v u:Nat},i < k->xs[i]? = some v->xs[k]? = some u->v < u:=λ {i k v u} hik hi hk=>by
  rw [<- d8] at hi hk
  obtain ⟨h1,e1⟩:=fu hi
  obtain ⟨h2,e2⟩:=fu hk
  rw [<- e1,<- e2]
  exact jd.mp hs i k h1 h2 hik
 intro fuel
 induction fuel with
 | zero =>
  intro lo hi hf hlh hsz h1 h2 p e
  unfold SetTable.below.go at e
  subst e
  have:lo=hi:=by omega
  exact ⟨by omega,h1,λ i v hi'=>h2 i v (by omega)⟩
 | succ fuel ih =>
  intro lo hi hf hlh hsz h1 h2 p e
  unfold SetTable.below.go at e
  by_cases hlt:lo < hi
  ·rw [if_pos hlt] at e
   dsimp only at e
   have hm:(lo + hi) / 2 < xs.size:=by omega
   have hg:xs[(lo + hi) / 2]? = some xs[(lo + hi) / 2]:=d7 hm
   have hgd:xs.getD ((lo + hi) / 2) j=xs[(lo + hi) / 2]:=by simp [Array.getD,hm]
   rw [hgd] at e
   by_cases hc:xs[(lo + hi) / 2] < j
   ·rw [if_pos hc] at e
    refine ih ((lo + hi) / 2 + 1) hi (by omega) (by omega) hsz (λ i v hi' hv=>?_) h2 p e
    rcases cH i ((lo + hi) / 2) with hl | hg'
    ·have:=mono hl hv hg
     omega
    ·have:i=(lo + hi) / 2:=by omega
     subst this
     rw [hg] at hv
     cases hv
     exact hc
   ·rw [if_neg hc] at e
    refine ih lo ((lo + hi) / 2) (by omega) (by omega) (by omega) h1 (λ i v hi' hv=>?_) p e
    rcases cH ((lo + hi) / 2) i with hl | hg'
    ·have:=mono hl hg hv
     omega
    ·have:i=(lo + hi) / 2:=by omega
     subst this
     rw [hg] at hv
     cases hv
     omega
  ·rw [if_neg hlt] at e
   subst e
   exact ⟨by omega,h1,λ i v hi'=>h2 i v (by omega)⟩
theorem jm(hs:xs.toList.Pairwise (· < ·))(j:Nat):SetTable.below xs j <= xs.size /\ (∀ i v,i < SetTable.below xs j->xs[i]? = some v->v < j) /\ ∀ i v,SetTable.below xs j <= i->xs[i]? = some v->j <= v :=
 Fc hs xs.size 0 xs.size (by omega) (by omega) (az _) (λ i v h=>absurd h (Nat.not_lt_zero _)) (λ i v h hv=>by
  have:=(jB.mp hv).1
  omega) _ rfl
theorem zj(hs:xs.toList.Pairwise (· < ·)):SetTable.below xs 0=0:=by
 obtain ⟨h1,h2,_⟩:=jm hs 0
 rcases Nat.eq_zero_or_pos (SetTable.below xs 0) with e | hp
 ·exact e
 ·have:=h2 0 xs[0] hp (d7 (by omega))
  omega
theorem zk(hs:xs.toList.Pairwise (· < ·)){i v:Nat}(hv:xs[i]? = some v):SetTable.below xs (v + 1)=i + 1:=by
 obtain ⟨h1,h2,h3⟩:=jm hs (v + 1)
 have hi:=(jB.mp hv).1
 have mono:∀ {i k:Nat} {v u:Nat},i < k->xs[i]? = some v->xs[k]? = some u->v < u:=λ {i k v u} hik hi hk=>by
  rw [<- d8] at hi hk
  obtain ⟨h1,e1⟩:=fu hi
  obtain ⟨h2,e2⟩:=fu hk
  rw [<- e1,<- e2]
  exact jd.mp hs i k h1 h2 hik
 rcases Nat.lt_trichotomy (SetTable.below xs (v + 1)) (i + 1) with hl | he | hg
 ·have:=h3 i v (by omega) hv
  omega
 ·exact he
 ·have hk:i + 1 < xs.size:=by omega
  have hu:=d7 hk
  have h4:=h2 (i + 1) _ hg hu
  have h5:=mono (kK i) hv hu
  omega
theorem ku(hs:xs.toList.Pairwise (· < ·)){j:Nat}(hj:∀ (i:Nat) (v:Nat),xs[i]? = some v->v ≠ j):(SetTable.insertAt xs (SetTable.below xs j) j).toList.Pairwise (· < ·):=by
 obtain ⟨h1,h2,h3⟩:=jm hs j
 rw [SetTable.toList_insertAt]
 have hmt:∀ v∈xs.toList.take (SetTable.below xs j),v < j:=λ v hv=>by
  obtain ⟨i,hi⟩:=eU.mp hv
  have hlt:i < SetTable.below xs j:=by
   have:=(fu hi).1
   rw [cu] at this
   omega
  rw [pO hlt,d8] at hi
  exact h2 i v hlt hi
 have hmd:∀ v∈xs.toList.drop (SetTable.below xs j),j < v:=λ v hv=>by
  obtain ⟨i,hi⟩:=eU.mp hv
  rw [List.getElem?_drop,d8] at hi
  have h4:=h3 _ v (kI _ _) hi
  have h5:=hj _ v hi
  omega
 rw [List.pairwise_append]
 refine ⟨hs.sublist (List.take_sublist ..),?_,λ a ha b hb=>?_⟩
 ·rw [mY]
  exact ⟨hmd,hs.sublist (List.drop_sublist ..)⟩
 ·have:=hmt a ha
  rcases aJ.mp hb with e | hb
  ·omega
  ·have:=hmd b hb
   omega
end SN
namespace SG
open PySem
variable {led:Bool}{es:Array (Int × Value)}{t:SetTable}{j ep i:Nat}{a it tp:Addr}{o:Obj}{Q:Value->Shared->Prop}{ys:List Nat}{ns:List Int}
structure Tab (led:Bool) (es:Array (Int × Value)) (t:SetTable):Prop where
 led:t.led=led
 Cr:t.dummies=#[]
 up:t.place.toList.Pairwise (· < ·)
 fits:t.fits es.size=true
theorem Tab.sz(T:Tab led es t):t.place.size=es.size:=by
 have:=T.fits
 unfold SetTable.fits at this
 simp only [nU,beq_iff_eq] at this
 exact this.1
theorem lH(h:t.dummies=#[])(j:Nat):SetTable.has t.dummies j=false:=by unfold SetTable.has; rw [h]; simp
theorem kR(hs:t.place.toList.Pairwise (· < ·))(h:t.slot j=.empty):∀ (i:Nat) (v:Nat),t.place[i]? = some v->v ≠ j:=by
 intro i v hv e
 subst e
 obtain ⟨h1,h2,h3⟩:=SN.jm hs v
 have hi:SetTable.below t.place v <= i:=by
  rcases cH i (SetTable.below t.place v) with hl | hg
  ·exact absurd (h2 i v hl hv) (dH _)
  ·exact hg
 have hlt:=(jB.mp hv).1
 have hb:SetTable.below t.place v < t.place.size:=Nat.lt_of_le_of_lt hi hlt
 have hg:=d7 hb
 have h4:=h3 _ _ (az _) hg
 have hi2:SetTable.below t.place v=i:=by
  rcases cH (SetTable.below t.place v) i with hl | hge
  ·rw [<- d8] at hv hg
   obtain ⟨a1,e1⟩:=fu hg
   obtain ⟨a2,e2⟩:=fu hv
   have:=jd.mp hs _ _ a1 a2 hl
   rw [e1,e2] at this
   omega
  ·omega
 unfold SetTable.slot at h
 dsimp only at h
 rw [hi2,hv] at h
 simp at h
theorem vH(hd:t.dummies=#[])(f:Nat->Int)(x:Int):∀ (fuel:Nat) (p:SetTable.Probe) (j:Nat) (dm:Option Nat),p.dummy=none->SetTable.probe.go t f x fuel p=some (.empty j dm)->dm=none /\ t.slot j=.empty:=by
 intro fuel
 induction fuel with
 | zero=>intro p j dm _ h; cases h
 | succ fuel ih =>
  intro p j dm hp h
  have adv:(t.advance p).dummy=none:=by unfold SetTable.advance; split <;> exact hp
  unfold SetTable.probe.go at h
  cases hs:t.slot p.j with
  | empty =>
   rw [hs] at h
   cases h
   exact ⟨hp,hs⟩
  | dummy =>
   exfalso
   unfold SetTable.slot at hs
   dsimp only at hs
   rw [lH hd] at hs
   split at hs <;> cases hs
  | live i =>
   rw [hs] at h
   dsimp only at h
   split at h
   ·cases h
   ·exact ih _ j dm adv h
theorem Cs(hd:t.dummies=#[]){x:Int}{b:Bool}(h:t.freeSlot x=some (j,b)):b=false /\ t.slot j=.empty:=by
 unfold SetTable.freeSlot at h
 cases e:t.probe (λ _=>x + 1) x (t.probeStart x) with
 | none=>rw [e] at h; cases h
 | some m =>
  cases m with
  | candidate _ _ _=>rw [e] at h; cases h
  | empty k dm =>
   rw [e] at h
   obtain ⟨rfl,h2⟩:=vH hd _ _ _ _ k dm rfl e
   cases h
   exact ⟨rfl,h2⟩
theorem lJ(n:Nat):(Array.range n).toList.Pairwise (· < ·):=by
 rw [Array.toList_range]
 exact List.pairwise_lt_range
theorem Tab.lay(T:Tab led es t)(h:Int)(x:Value):
  ∃ es1 t1 gv,layNew t es h x=(es1,t1,false,gv) /\ Tab led es1 t1 /\ es1.toList.Perm (es.toList++[(h,x)]):=by
 have hp:=layNew_perm t es h x
 have hf:=layNew_fits t es h x
 rw [Array.toList_push] at hp
 cases e:t.freeSlot h with
 | none =>
  have el:layNew t es h x=(es.push (h,x),t.standIn (es.size + 1),false,true):=by unfold layNew; rw [e]
  rw [el] at hp hf
  exact ⟨_,_,_,el,⟨T.led,rfl,lJ _,hf⟩,hp⟩
 | some q =>
  obtain ⟨j,b⟩:=q
  obtain ⟨rfl,hs⟩:=Cs T.Cr e
  have Oq:t.put j=({ t with place:=SetTable.insertAt t.place (SetTable.below t.place j) j },SetTable.below t.place j):=by
   unfold SetTable.put
   rw [lH T.Cr]
   rfl
  have el:layNew t es h x=(SetTable.insertAt es (SetTable.below t.place j) (h,x),({ t with place:=SetTable.insertAt t.place (SetTable.below t.place j) j }:SetTable).orStandIn (SetTable.insertAt es (SetTable.below t.place j) (h,x)).size,false,!({ t with place:=SetTable.insertAt t.place (SetTable.below t.place j) j }:SetTable).fits (SetTable.insertAt es (SetTable.below t.place j) (h,x)).size):=by
   unfold layNew
   rw [e]
   dsimp only
   rw [Oq]
  rw [el] at hp hf
  dsimp only at hp hf
  refine ⟨_,_,_,el,⟨?_,?_,?_,hf⟩,hp⟩
  ·unfold SetTable.orStandIn
   split <;> exact T.led
  ·unfold SetTable.orStandIn
   split
   ·exact T.Cr
   ·rfl
  ·unfold SetTable.orStandIn
   split
   ·exact SN.ku T.up (kR T.up hs)
   ·exact lJ _
theorem Tab.SK(T:Tab led es t)(n:Nat):
    ∃ es1 t1 gv,relayAll t es n=(es1,t1,gv) /\ Tab led es1 t1 /\ es1.toList.Perm es.toList:=by
  have hp:=relayAll_perm t es n
  have hf:=relayAll_fits t es n
  generalize hR:relayAll t es n=R at hp hf
  obtain ⟨es1,t1,gv⟩:=R
  dsimp only at hp hf
  refine ⟨es1,t1,gv,rfl,⟨?_,?_,?_,hf⟩,hp⟩ <;> clear hp hf <;> unfold relayAll at hR <;> cases e:t.relaid (es.map (·.1)) n with
  | none =>
    rw [e] at hR
    cases hR
    first | exact T.led | rfl | exact lJ _
  | some q =>
    obtain ⟨t',od⟩:=q
    rw [e] at hR
    dsimp only at hR
    split at hR
    · obtain ⟨rfl,rfl,_⟩:_ /\ _ /\ _:=by simpa only [Prod.mk.injEq] using hR
      unfold SetTable.relaid SetTable.laid at e
      cases e2:SetTable.layClean (SetTable.sizeAbove n - 1) (es.map (·.1)) with
      | none=>rw [e2] at e; cases e
      | some ow =>
        rw [e2] at e
        cases e
        first
          | exact T.led
          | rfl
          | (rw [List.toList_toArray,gJ]
             refine List.Pairwise.filterMap _ (λ a b hab x hx y hy=>?_) (List.pairwise_lt_range (n:=SetTable.sizeAbove n - 1 + 1))
             obtain ⟨_,_,rfl⟩:=dg.mp hx
             obtain ⟨_,_,rfl⟩:=dg.mp hy
             exact hab)
    · cases hR
      first | exact T.led | rfl | exact lJ _
open PySem.Spec PyProof.Rows
def bU(w:World):Bool:=w.params.followText "set-order"
theorem Jo:entryFor table "set.__iter__" = some Builtin.«frozenset.__iter__»:=entryFor_alias (id' := "frozenset.__iter__") (by kernel_rfl) rfl (by decide +kernel) (by kernel_rfl)
theorem eN:Slot "set_iterator" "__next__" "set_iterator.__next__" := .of (owner := "set_iterator") (n := "__next__") (by rw [typeLookup_type,builtinLookup_eq_fast]; kernel_rfl) (by decide +kernel) (by decide +kernel) (by decide +kernel) (by first | exact .inl (by decide +kernel) | exact .inr (by decide +kernel)) (by rw [isSubtype_type]; kernel_rfl)
theorem oV:entryFor table "set_iterator.__next__" = some Builtin.«set_iterator.__next__»:=entryFor_of_tree (by kernel_rfl)
theorem oW(a:Value):argsOk "set_iterator.__next__" ⟨[a],[]⟩:=by unfold argsOk; kernel_rfl
theorem oX:Slot "set_iterator" "__iter__" "set_iterator.__iter__" := .of (owner := "set_iterator") (n := "__iter__") (by rw [typeLookup_type,builtinLookup_eq_fast]; kernel_rfl) (by decide +kernel) (by decide +kernel) (by decide +kernel) (by first | exact .inl (by decide +kernel) | exact .inr (by decide +kernel)) (by rw [isSubtype_type]; kernel_rfl)
theorem AN:entryFor table "set_iterator.__iter__" = some Builtin.«dict_keyiterator.__iter__»:=entryFor_alias (id' := "dict_keyiterator.__iter__") (by kernel_rfl) rfl (by decide +kernel) (by kernel_rfl)
theorem AO(a:Value):argsOk "set_iterator.__iter__" ⟨[a],[]⟩:=by unfold argsOk; kernel_rfl
def ord(w:World)(a:Addr)(es:Array (Int × Value))(ep:Nat):Array (Int × Value):=if bU w=true then pickOrder (w.params.setOrder a ep) es else es
theorem kT{α:Type}:∀ (l:List α) (i:Nat) (h:i < l.length),(l[i] :: l.eraseIdx i).Perm l
 | x :: l,0,_=>kF _
 | x :: l,i + 1,h=>by
  have hi:i < l.length:=by simpa using h
  simp only [List.getElem_cons_succ,List.eraseIdx_cons_succ]
  exact (List.Perm.swap x l[i] _).trans ((kT l i hi).cons x)
theorem sE{α:Type}(nx:Nat->Nat):∀ (fuel k:Nat) (left:List α) (out:Array α),left.length <= fuel->(pickOrder.go nx fuel k left out).toList.Perm (out.toList++left)
 | 0,k,left,out,h=>by
  unfold pickOrder.go
  rw [List.eq_nil_of_length_eq_zero (Nat.le_zero.mp h),dQ]
 | fuel + 1,k,left,out,h=>by
  unfold pickOrder.go
  cases e:left[nx k % left.length]? with
  | none =>
   dsimp only
   have:left=[]:=by
    cases left with
    | nil=>rfl
    | cons x l =>
     have hlt:nx k % (x :: l).length < (x :: l).length:=Nat.mod_lt _ (Nat.zero_lt_succ _)
     rw [dJ hlt] at e
     cases e
   rw [this,dQ]
  | some x =>
   dsimp only
   obtain ⟨hlt,ex⟩:=fu e
   have hl:(left.eraseIdx (nx k % left.length)).length <= fuel:=by rw [List.length_eraseIdx_of_lt hlt]; omega
   refine (sE nx fuel (k + 1) _ (out.push x) hl).trans ?_
   rw [Array.toList_push,mT]
   refine List.Perm.append_left _ ?_
   have:=kT left _ hlt
   rw [ex] at this
   exact this
theorem Fd(w:World)(a:Addr)(es:Array (Int × Value))(ep:Nat):(ord w a es ep).toList.Perm es.toList:=by
 unfold ord
 split
 ·unfold pickOrder
  have:=sE (w.params.setOrder a ep) es.size 0 es.toList #[] (by simp)
  simpa using this
 ·exact kF _
theorem rR{M:Model}{A:Around}{E:Value->Shared->Prop}{s:Shared}{src:Source}{n:Nat}{Q:Nat->Shared->Prop}(hn:n ≠ 0)(h:∀ i,i < n->Q i { s with drawn:=s.drawn.bump src }):wpAny M A (choose src n) Q E s :=
 λ _ _ _=>⟨hn,h _ (Nat.mod_lt _ (Nat.pos_of_ne_zero hn))⟩
theorem qi{M:Model}{A:Around}{E:Value->Shared->Prop}{α:Type}:∀ (n:Nat) (xs:List α) (s:Shared) (Q:List α->Shared->Prop),xs.length <= n->(∀ ys d',ys.Perm xs->Q ys { s with drawn:=d' })->wpAny M A (drawOrder n xs) Q E s
 | 0,xs,s,Q,hn,h=>by
  have:xs=[]:=List.eq_nil_of_length_eq_zero (Nat.le_zero.mp hn)
  subst this
  exact aH (h [] s.drawn (kF _))
 | n + 1,[],s,Q,hn,h=>aH (h [] s.drawn (kF _))
 | n + 1,x :: xs,s,Q,hn,h=>by
  unfold drawOrder
  refine ao (rR (by simp) λ i hi=>?_)
  have e:(x :: xs)[i]? = some (x :: xs)[i]:=dJ hi
  rw [e]
  dsimp only
  have hl:((x :: xs).eraseIdx i).length <= n:=by rw [List.length_eraseIdx_of_lt hi]; simp only [dR] at hn ⊢; omega
  refine ao (qi n _ _ _ hl λ ys d' hp=>aH ?_)
  exact h _ d' ((hp.cons _).trans (kT _ i hi))
section
variable {prog:Program}{w:World}{A:Around}{E:Value->Shared->Prop}{s:Shared}
def Still(w:World)(es:Array (Int × Value))(t:SetTable):Prop:=bU w=true \/ t.plain=true \/ es.size <= 1
def Ct(w:World)(a:Addr)(o:Obj)(es:Array (Int × Value))(ep:Nat)(t:SetTable)(it:Addr)(i:Nat)(h:Heap):Prop :=
 h.get? a=some o /\ ∃ oi sl,h.get? it=some oi /\ oi.cls=.type "set_iterator" /\ oi.data=.fields #[.int ((sl:Nat):Int) 0,.int ((i:Nat):Int) 0,.ref a,.int ((es.size:Nat):Int) 0,.int ((ep:Nat):Int) 0] /\ (bU w=false->SetTable.below t.place sl=i)
theorem Ct.ty(h:Ct w a o es ep t it i s.heap):s.TypeIs (.ref it) "set_iterator" := by
 obtain ⟨_,oi,sl,h1,h2,_⟩:=h
 exact ⟨oi,h1,h2⟩
theorem AQ{o:Obj}{sl:Nat}{Q:Option (Value × Nat)->Shared->Prop}(ho:s.heap.get? a=some o)(hd:o.data=.set es ep t)(T:Tab (!bU w) es t)(hst:Still w es t)(hb:bU w=false->SetTable.below t.place sl=i)
  (h:∀ DT,(∀ e,(ord w a es ep)[i]? = some e->bU w=false->SetTable.below t.place DT=i + 1)->Q ((ord w a es ep)[i]?.map λ e=>(e.2,DT)) s):wpAny (model prog w) A (setNext a sl i ep) Q E s:=by
 unfold setNext
 refine ao (wpAny_setState_of ho hd T.fits ?_)
 dsimp only
 unfold setsByText
 refine ao (ao (wpAny_askSetting (aH ?_)))
 show wpAny _ _ (if bU w=true then _ else _) _ _ _
 cases hx:bU w with
 | true =>
  rw [if_pos rfl]
  simp only [bne_self_eq_false,bG,if_false]
  refine ao ?_
  unfold setWalk
  refine ao (wpAny_setState_of ho hd T.fits ?_)
  dsimp only
  unfold setsByText
  refine ao (ao (wpAny_askSetting (aH ?_)))
  show wpAny _ _ (if bU w=true then _ else _) _ _ _
  rw [if_pos hx]
  refine ao (wpAny_askSetting (aH (aH ?_)))
  have:=h sl (λ e _ z=>by rw [hx] at z; cases z)
  unfold ord at this
  rw [if_pos hx] at this
  exact this
 | false =>
  rw [if_neg (by decide)]
  have SM:t.led=true:=by rw [T.led,hx]; rfl
  have hz:=T.sz
  have hup:=T.up
  have hb':=hb hx
  have ho':ord w a es ep=es:=by unfold ord; rw [hx]; rfl
  rw [ho'] at h
  have hdr:(!t.plain && decide (es.size > 1))=false:=by
   rcases hst with e | e | e
   ·rw [hx] at e; cases e
   ·rw [e]; rfl
   ·have:decide (es.size > 1)=false:=decide_eq_false (by omega)
    rw [this,Bool.and_false]
  clear T hb ho hd hst
  obtain ⟨mask,place,dummies,finger,led,moves,plain⟩:=t
  dsimp only at SM hz hup hb' h hdr
  subst SM
  show wpAny _ _ (if (!plain && decide (es.size > 1))=true then _ else _) _ _ _
  rw [if_neg (by rw [hdr]; decide)]
  refine ao (wpAny_of_eq (a:=()) rfl ?_)
  dsimp only
  rw [hb']
  rcases cH i es.size with hlt | hge
  ·have e1:es[i]? = some es[i]:=d7 hlt
   have e2:place[i]? = some place[i]:=d7 (by omega)
   rw [e1,e2]
   refine aH ?_
   have:=h (place[i] + 1) (λ _ _ _=>SN.zk hup e2)
   rw [e1] at this
   exact this
  ·have e1:es[i]? = none:=pJ hge
   rw [e1]
   refine aH ?_
   have:=h 0 (λ e z=>by rw [e1] at z; cases z)
   rw [e1] at this
   exact this
theorem Jp{e:Int × Value}{Q:Option Value->Shared->Prop}(hne:a ≠ it)(hd:o.data=.set es ep t)(T:Tab (!bU w) es t)(hst:Still w es t)
  (I:Ct w a o es ep t it i s.heap)(hi:(ord w a es ep)[i]? = some e)(hQ:∀ h',Ct w a o es ep t it (i + 1) h'->(∀ b x,b ≠ it->s.heap.get? b=some x->h'.get? b=some x)->Q (some e.2) { s with heap:=h' }):wpAny (model prog w) A (pyNext (.ref it)) Q E s:=by
 have ty:=I.ty
 obtain ⟨ho,oi,sl,yz,hc,hf,hb⟩:=I
 unfold pyNext
 refine ao (wpAny_attempt (wpAny_callSpecial?_slot (name:=Str.ofString "__next__") ty eN (wpAny_call_entry eN ty oV ?_ (oW _))))
 unfold Builtin.«set_iterator.__next__»
 refine ao (wpAny_of_eq (a:=(Value.ref it,[])) rfl ?_)
 refine ao (wpAny_fieldsOf yz hf ?_)
 dsimp only
 refine ao (wpAny_setEntries_of ho hd T.fits ?_)
 rw [if_neg (by simp)]
 rw [show ((sl:Nat):Int).toNat=sl from rfl,show ((i:Nat):Int).toNat=i from rfl,show ((ep:Nat):Int).toNat=ep from rfl]
 refine ao (AQ ho hd T hst hb λ DT hb'=>?_)
 rw [hi]
 show wpAny _ _ (do setField (.ref it) 0 (rawInt DT); setField (.ref it) 1 (rawInt ((i:Int) + 1)); ret e.2) _ _ s
 have g1:=dO (Obj.mapFields (·.setIfInBounds 0 (rawInt DT))) yz (jf (dI hf _))
 have d1:=dI hf (·.setIfInBounds 0 (rawInt DT))
 refine ao (wpAny_setField yz hf (by simp) (ao (wpAny_setField g1 d1 (by simp) (aH ⟨_,rfl,aH (hQ _ ?_ λ b x hb e=>?_)⟩))))
 ·have hk:∀ (f g:Obj->Obj) (b:Addr) (x:Obj),b ≠ it->s.heap.get? b=some x->((s.heap.update it f).update it g).get? b=some x:=λ f g b x hb e=>by rw [dN _ _ _ _ hb,dN _ _ _ _ hb]; exact e
  refine ⟨hk _ _ _ _ hne ho,_,DT,dO _ g1 (jf (dI d1 _)),(kL ..).trans ((kL ..).trans hc),?_,λ hx=>hb' e hi hx⟩
  rw [dI d1]
  simp [rawInt]
 ·rw [dN _ _ _ _ hb,dN _ _ _ _ hb]; exact e
theorem Ot{Q:Option Value->Shared->Prop}(hh:A.handled=none)(hne:a ≠ it)(hd:o.data=.set es ep t)(T:Tab (!bU w) es t)(hst:Still w es t)
  (I:Ct w a o es ep t it i s.heap)(hi:(ord w a es ep)[i]? = none)(hQ:∀ h',(∀ b x,b ≠ it->s.heap.get? b=some x->h'.get? b=some x)->Q none { s with heap:=h' }):wpAny (model prog w) A (pyNext (.ref it)) Q E s:=by
 have ty:=I.ty
 obtain ⟨ho,oi,sl,yz,hc,hf,hb⟩:=I
 unfold pyNext
 refine ao (wpAny_attempt (wpAny_callSpecial?_slot (name:=Str.ofString "__next__") ty eN (wpAny_call_entry eN ty oV ?_ (oW _))))
 unfold Builtin.«set_iterator.__next__»
 refine ao (wpAny_of_eq (a:=(Value.ref it,[])) rfl ?_)
 refine ao (wpAny_fieldsOf yz hf ?_)
 dsimp only
 refine ao (wpAny_setEntries_of ho hd T.fits ?_)
 rw [if_neg (by simp)]
 rw [show ((sl:Nat):Int).toNat=sl from rfl,show ((i:Nat):Int).toNat=i from rfl,show ((ep:Nat):Int).toNat=ep from rfl]
 refine ao (AQ ho hd T hst hb λ DT hb'=>?_)
 rw [hi]
 show wpAny _ _ (do setField (.ref it) 2 .none; raiseNew (<- newExc (.type "StopIteration") [])) _ _ s
 refine ao (wpAny_setField yz hf (by simp) (ao ?_))
 simp only [newExc,newTuple]
 refine ao (wpAny_newObj_type (ao (m:=firstArgMember _ _) (wpAny_of_eq (a:=Value.none) (by first | rfl | (simp only [firstArgMember]; rfl)) (wpAny_newObj_type ?_ (by size_fits)))) (by size_fits))
 simp only [raiseNew]
 refine ao (wpAny_handled ?_)
 rw [show A.in1.handled=none from hh]
 refine ao (aH (wpAny_throw ?go))
 refine ao (wpAny_isInstance (T := "StopIteration") (b:=true) (⟨_,fR _ rfl,rfl⟩) isSubtype_stop ?_)
 refine aH (hQ _ λ b x hb e=>?_)
 exact cB _ (cB _ (by rw [dN _ _ _ _ hb]; exact e))
theorem Cu(hh:A.handled=none)(hne:a ≠ it)(hd:o.data=.set es ep t)(T:Tab (!bU w) es t)(hst:Still w es t):
  Walks prog w A it [it,a] [it] (ord w a es ep).size (λ i v=>∃ e,(ord w a es ep)[i]? = some e /\ v=e.2) (λ i h=>Ct w a o es ep t it i h) where
 sub:=λ b hb=>by simp at hb; simp [hb]
 frame:=λ i h h' st hk=>by
  obtain ⟨h1,oi,sl,h2,r⟩:=st
  exact ⟨hk a (by simp) o h1,oi,sl,hk it (by simp) oi h2,r⟩
 item:=λ i s Q E hi st hQ=>Jp hne hd T hst st (d7 hi) λ h' st' hk=>hQ _ h' s.toks ⟨_,d7 hi,rfl⟩ st' λ b x hb e=>hk b x (λ z=>hb (by simp [z])) e
 done:=λ s Q E st hQ=>Ot hh hne hd T hst st (pJ (az _)) λ h' hk=>hQ h' s.toks λ b x hb e=>hk b x (λ z=>hb (by simp [z])) e
 self:=λ i s Q E st hQ=>by
  have ty:=st.ty
  refine wpAny_pyIter_slot ty oX (wpAny_call_entry oX ty AN ?_ (AO _))
  show wpAny _ _ (ret (.ref it)) _ _ s
  exact aH ⟨_,rfl, "set_iterator", _,ty,eN.lookup,hQ⟩
def Cv(a:Addr)(o:Obj)(es:Array (Int × Value))(ep:Nat)(tp:Addr)(ys:List Nat)(it:Addr)(i:Nat)(h:Heap):Prop :=
 h.get? a=some o /\ (∃ ot n,h.get? tp=some ot /\ ot.data=.seq (ys.map λ (j:Nat)=>rawInt j).toArray n) /\ ∃ oi,h.get? it=some oi /\ oi.cls=.type "set_iterator" /\ oi.data=.fields #[.ref tp,.int ((i:Nat):Int) 0,.ref a,.int ((es.size:Nat):Int) 0,.int ((ep:Nat):Int) 0]
theorem Cv.ty(h:Cv a o es ep tp ys it i s.heap):s.TypeIs (.ref it) "set_iterator" := by
 obtain ⟨_,_,oi,h1,h2,_⟩:=h
 exact ⟨oi,h1,h2⟩
theorem Jq{t:SetTable}{e:Int × Value}{Q:Option Value->Shared->Prop}(hne:a ≠ it)(hnt:tp ≠ it)(hd:o.data=.set es ep t)(hfit:t.fits es.size=true)
  (I:Cv a o es ep tp ys it i s.heap)(hi:ys[i]? = some j)(he:es[j]? = some e)(hQ:∀ h',Cv a o es ep tp ys it (i + 1) h'->(∀ b x,b ≠ it->s.heap.get? b=some x->h'.get? b=some x)->Q (some e.2) { s with heap:=h' }):wpAny (model prog w) A (pyNext (.ref it)) Q E s:=by
 have ty:=I.ty
 obtain ⟨ho,⟨ot,nt,sF,hdt⟩,oi,yz,hc,hf⟩:=I
 unfold pyNext
 refine ao (wpAny_attempt (wpAny_callSpecial?_slot (name:=Str.ofString "__next__") ty eN (wpAny_call_entry eN ty oV ?_ (oW _))))
 unfold Builtin.«set_iterator.__next__»
 refine ao (wpAny_of_eq (a:=(Value.ref it,[])) rfl ?_)
 refine ao (wpAny_fieldsOf yz hf ?_)
 dsimp only
 refine ao (wpAny_setEntries_of ho hd hfit ?_)
 rw [if_neg (by simp)]
 refine ao (wpAny_seqItems sF hdt ?_)
 dsimp only
 rw [show ((i:Nat):Int).toNat=i from rfl]
 have e1:((ys.map λ (j:Nat)=>rawInt j).toArray)[i]? = some (rawInt j):=by rw [jb,aY,hi]; rfl
 rw [e1]
 show wpAny _ _ (do let x <- setNextDrawn a ((j:Nat):Int).toNat ((ep:Nat):Int).toNat; setField (.ref it) 1 (rawInt ((i:Int) + 1)); ret x) _ _ s
 rw [show ((j:Nat):Int).toNat=j from rfl,show ((ep:Nat):Int).toNat=ep from rfl]
 refine ao ?_
 unfold setNextDrawn
 refine ao (wpAny_setState_of ho hd hfit ?_)
 dsimp only
 rw [if_neg (by simp),he]
 refine aH ?_
 refine ao (wpAny_setField yz hf (by simp) (aH ⟨_,rfl,aH (hQ _ ?_ λ b x hb e=>?_)⟩))
 ·refine ⟨by rw [dN _ _ _ _ hne]; exact ho,⟨ot,nt,by rw [dN _ _ _ _ hnt]; exact sF,hdt⟩,_,dO _ yz (jf (dI hf _)),(kL ..).trans hc,?_⟩
  rw [dI hf]
  simp [rawInt]
 ·rw [dN _ _ _ _ hb]; exact e
theorem Ou{t:SetTable}{Q:Option Value->Shared->Prop}(hh:A.handled=none)(hne:a ≠ it)(hd:o.data=.set es ep t)(hfit:t.fits es.size=true)
  (I:Cv a o es ep tp ys it i s.heap)(hi:ys[i]? = none)(hQ:∀ h',(∀ b x,b ≠ it->s.heap.get? b=some x->h'.get? b=some x)->Q none { s with heap:=h' }):wpAny (model prog w) A (pyNext (.ref it)) Q E s:=by
 have ty:=I.ty
 obtain ⟨ho,⟨ot,nt,sF,hdt⟩,oi,yz,hc,hf⟩:=I
 unfold pyNext
 refine ao (wpAny_attempt (wpAny_callSpecial?_slot (name:=Str.ofString "__next__") ty eN (wpAny_call_entry eN ty oV ?_ (oW _))))
 unfold Builtin.«set_iterator.__next__»
 refine ao (wpAny_of_eq (a:=(Value.ref it,[])) rfl ?_)
 refine ao (wpAny_fieldsOf yz hf ?_)
 dsimp only
 refine ao (wpAny_setEntries_of ho hd hfit ?_)
 rw [if_neg (by simp)]
 refine ao (wpAny_seqItems sF hdt ?_)
 dsimp only
 rw [show ((i:Nat):Int).toNat=i from rfl]
 have e1:((ys.map λ (j:Nat)=>rawInt j).toArray)[i]? = none:=by rw [jb,aY,hi]; rfl
 rw [e1]
 show wpAny _ _ (do setField (.ref it) 0 (rawInt 0); setField (.ref it) 2 .none; raiseNew (<- newExc (.type "StopIteration") [])) _ _ s
 have g1:=dO (Obj.mapFields (·.setIfInBounds 0 (rawInt 0))) yz (jf (dI hf _))
 have d1:=dI hf (·.setIfInBounds 0 (rawInt 0))
 refine ao (wpAny_setField yz hf (by simp) (ao (wpAny_setField g1 d1 (by simp) (ao ?_))))
 simp only [newExc,newTuple]
 refine ao (wpAny_newObj_type (ao (m:=firstArgMember _ _) (wpAny_of_eq (a:=Value.none) (by first | rfl | (simp only [firstArgMember]; rfl)) (wpAny_newObj_type ?_ (by size_fits)))) (by size_fits))
 simp only [raiseNew]
 refine ao (wpAny_handled ?_)
 rw [show A.in1.handled=none from hh]
 refine ao (aH (wpAny_throw ?go))
 refine ao (wpAny_isInstance (T := "StopIteration") (b:=true) (⟨_,fR _ rfl,rfl⟩) isSubtype_stop ?_)
 refine aH (hQ _ λ b x hb e=>?_)
 exact cB _ (cB _ (by rw [dN _ _ _ _ hb,dN _ _ _ _ hb]; exact e))
def oh(es:Array (Int × Value))(ys:List Nat):Array (Int × Value):=(ys.map λ j=>es.toList.getD j (0,.none)).toArray
theorem zl(h:ys.Perm (List.range es.size)):(oh es ys).toList.Perm es.toList:=by
 unfold oh
 rw [List.toList_toArray]
 refine (h.map _).trans ?_
 have:(List.range es.size).map (λ j=>es.toList.getD j (0,.none))=es.toList:=by
  refine List.ext_getElem (by simp) λ i h1 h2=>?_
  simp only [pQ,List.getElem_range]
  rw [ki,dJ h2]
  rfl
 rw [this]
theorem vI(hh:A.handled=none){t:SetTable}(hne:a ≠ it)(hnt:tp ≠ it)(hd:o.data=.set es ep t)(hfit:t.fits es.size=true)(hp:ys.Perm (List.range es.size)):
  Walks prog w A it [it,a,tp] [it] (oh es ys).size (λ i v=>∃ e,(oh es ys)[i]? = some e /\ v=e.2) (λ i h=>Cv a o es ep tp ys it i h) where
 sub:=λ b hb=>by simp at hb; simp [hb]
 frame:=λ i h h' st hk=>by
  obtain ⟨h1,⟨ot,nt,h2,h3⟩,oi,h4,r⟩:=st
  exact ⟨hk a (by simp) o h1,⟨ot,nt,hk tp (by simp) _ h2,h3⟩,oi,hk it (by simp) oi h4,r⟩
 item:=λ i s Q E hi st hQ=>by
  have hi':i < ys.length:=by simpa [oh] using hi
  have e1:ys[i]? = some ys[i]:=dJ hi'
  have hj:ys[i] < es.size:=fE.mp (hp.mem_iff.mp (gn hi'))
  have e2:es[ys[i]]? = some es[ys[i]]:=d7 hj
  refine Jq hne hnt hd hfit st e1 e2 λ h' st' hk=>hQ _ h' s.toks ⟨es[ys[i]],?_,rfl⟩ st' λ b x hb e=>hk b x (λ z=>hb (by simp [z])) e
  unfold oh
  rw [jb,aY,e1]
  show some (es.toList.getD ys[i] (0,.none))=_
  rw [ki,d8,e2]
  rfl
 done:=λ s Q E st hQ=>Ou hh hne hd hfit st (by simp [oh]) λ h' hk=>hQ h' s.toks λ b x hb e=>hk b x (λ z=>hb (by simp [z])) e
 self:=λ i s Q E st hQ=>by
  have ty:=st.ty
  refine wpAny_pyIter_slot ty oX (wpAny_call_entry oX ty AN ?_ (AO _))
  show wpAny _ _ (ret (.ref it)) _ _ s
  exact aH ⟨_,rfl, "set_iterator", _,ty,eN.lookup,hQ⟩
theorem Fe{o:Obj}{t:SetTable}(ho:s.heap.get? a=some o)(hx:o.ExactSet)(hd:o.data=.set es ep t)(T:Tab (!bU w) es t)(hsz:es.size <= 100000)
  (h:∀ (it:Addr) (h':Heap) (d':Drawn) (fp:List Addr) (od:Array (Int × Value)) (St:Nat->Heap->Prop),(∀ b x,s.heap.get? b=some x->h'.get? b=some x)->s.heap.objs.size <= it->(∀ b∈fp,b=a \/ s.heap.objs.size <= b)->od.toList.Perm es.toList ->
   (∀ A':Around,A'.handled=none->Walks prog w A' it fp [it] od.size (λ i v=>∃ e,od[i]? = some e /\ v=e.2) St)->St 0 h'->Q (.ref it) { s with heap:=h',drawn:=d' }):wpAny (model prog w) A (pyIter (.ref a)) Q E s:=by
 have ty:s.TypeIs (.ref a) "set" := ⟨o,ho,hx.1⟩
 have hlt:=aF ho
 refine wpAny_pyIter_slot ty F.slot_set_iter (wpAny_call_entry F.slot_set_iter ty Jo ?_ (F.args_set_iter_1 _))
 unfold Builtin.«frozenset.__iter__»
 refine ao (wpAny_of_eq (a:=a) rfl ?_)
 refine ao (m:=Builtin.Frozenset.sizeOf a) (ao (wpAny_setEntries_of ho hd T.fits (aH ?_)))
 unfold setDrawn
 refine ao (ao (wpAny_setState_of ho hd T.fits ?_))
 dsimp only
 unfold setsByText
 refine ao (ao (wpAny_askSetting (aH (aH ?_))))
 show wpAny _ _ (if (!bU w && (!t.plain && decide (es.size > 1)))=true then _ else _) _ _ _
 by_cases hdr:(!bU w && (!t.plain && decide (es.size > 1)))=true
 ·rw [if_pos hdr]
  refine ao (qi es.size (List.range es.size) s _ (by simp) λ ys d' hp=>?_)
  have hyl:ys.length=es.size:=by rw [hp.length_eq,List.length_range]
  refine ao (wpAny_newTuple ?_ (by rw [au,hyl,sizeLine_eq]; omega))
  refine ao (wpAny_setEpoch_of (cB _ ho) hd T.fits (ao (wpAny_newObj_type (aH ⟨_,rfl, "set_iterator", _,⟨_,fR _ rfl,rfl⟩,eN.lookup,?_⟩))))
  dsimp only
  have hz:(s.heap.push { cls:=.type "tuple", data:=.seq (ys.map λ (i:Nat)=>rawInt i).toArray }).objs.size=s.heap.objs.size + 1:=by rw [dP]
  refine h _ _ d' [_,a,s.heap.objs.size] (oh es ys) _ (λ b x e=>cB _ (cB _ e)) (by rw [hz]; exact kJ _) (λ b hb=>?_) (zl hp) (λ A' hA=>vI hA (tp:=s.heap.objs.size) (by rw [hz]; exact aT (je hlt)) (by rw [hz]; exact aT (kK _)) hd T.fits hp) ?_
  ·simp only [aJ,fF,or_false] at hb
   rcases hb with e | e | e
   ·rw [e,hz]; exact .inr (kJ _)
   ·exact .inl e
   ·rw [e]; exact .inr (az _)
  ·exact ⟨cB _ (cB _ ho),⟨_,_,cB _ (fR _ rfl),rfl⟩,_,fR _ rfl,rfl,rfl⟩
 ·rw [if_neg hdr]
  have hst:Still w es t:=by
   unfold Still
   cases hb:bU w
   ·cases hpl:t.plain
    ·rw [hb,hpl] at hdr
     simp at hdr
     exact .inr (.inr hdr)
    ·exact .inr (.inl rfl)
   ·exact .inl rfl
  refine ao (aH (ao (wpAny_setEpoch_of ho hd T.fits (ao (wpAny_newObj_type (aH ⟨_,rfl, "set_iterator", _,⟨_,fR _ rfl,rfl⟩,eN.lookup,?_⟩))))))
  refine h s.heap.objs.size _ s.drawn [s.heap.objs.size,a] (ord w a es ep) _ (λ b x e=>cB _ e) (az _) (λ b hb=>?_) (Fd w a es ep) (λ A' hA=>Cu hA (aT hlt) hd T hst) ?_
  ·simp only [aJ,fF,or_false] at hb
   rcases hb with e | e
   ·rw [e]; exact .inr (az _)
   ·exact .inl e
  ·exact ⟨cB _ ho,_,0,fR _ rfl,rfl,rfl,λ _=>SN.zj T.up⟩
def Ov(es:List (Int × Value)):Prop:=∀ e∈es,∃ n k,e=(hashInt n,Value.int n k)
def Small(led:Bool)(h:Heap)(a:Addr)(ns:List Int):Prop :=
 ∃ o es ep t,h.get? a=some o /\ o.ExactSet /\ o.data=.set es ep t /\ Tab led es t /\ Ov es.toList /\ es.size=ns.length /\ ns.Nodup /\ ∀ n,n∈ns ↔ ∃ k,((hashInt n,Value.int n k):Int × Value)∈es.toList
theorem Small.at'{h h':Heap}(S:Small led h a ns)(e:∀ o,h.get? a=some o->h'.get? a=some o):Small led h' a ns:=by
 obtain ⟨o,es,ep,t,ho,r⟩:=S
 exact ⟨o,es,ep,t,e o ho,r⟩
theorem Ov.elems{es:List (Int × Value)}(h:Ov es):ElemsOf (intKind prog w) es:=λ e he=>by
 obtain ⟨n,k,rfl⟩:=h e he
 exact ⟨⟨n,intKind_is _ _ _ _,rfl⟩,rfl⟩
theorem vJ(b:Bool){s1:Shared}{R:Unit->Shared->Prop}(h:R () s1):wpAny (model prog w) A (match b with | true=>rule "set.scan.the-table-gave-way" | false=>pure ()) R E s1:=by
 cases b
 ·exact aH h
 ·exact wpAny_rule h
theorem vK{o:Obj}{t:SetTable}(ho:s.heap.get? a=some o)(hx:o.ExactSet)(hd:o.data=.set es ep t){es1:Array (Int × Value)}{t1:SetTable}(T1:Tab led es1 t1)(hz:es1.size <= 100000)
  {g:Bool->Sem Unit}(hg:∀ (b:Bool) (s₁:Shared) (Q':Unit->Shared->Prop),Q' () s₁->wpAny (model prog w) A (g b) Q' E s₁){R:Option Bool->Shared->Prop}
  (h:∀ h' o2 lK Cw t2,Heap.SameBut a s.heap h'->h'.get? a=some o2->o2.ExactSet->o2.data=.set lK Cw t2->Tab led lK t2->lK.toList.Perm es1.toList->R (some true) { s with heap:=h' }):
  wpAny (model prog w) A (do
    storeSet a es1 t1
    if (!false && t1.tooFull)=true then do
      g (relayAll t1 es1 (SetTable.grown es1.size)).2.2
      storeSet a (relayAll t1 es1 (SetTable.grown es1.size)).1 (relayAll t1 es1 (SetTable.grown es1.size)).2.1
      pure (some true)
     else pure (some true)) R E s:=by
 refine ao (wpAny_storeSet_of ho hd ?_ (by rw [sizeLine_eq]; omega))
 have Ow:=dO (Obj.putSet es1 t1) ho (by rw [putSet_of es1 t1 hd]; rfl)
 rw [putSet_of es1 t1 hd] at Ow
 have Qx:=iI s.heap a (Obj.putSet es1 t1)
 split
 ·obtain ⟨lK,t2,gv,er,T2,perm⟩:=T1.SK (SetTable.grown es1.size)
  rw [er]
  dsimp only
  have hz2:lK.size=es1.size:=by rw [<- cC,perm.length_eq,cC]
  refine ao (hg _ _ _ ?_)
  refine ao (wpAny_storeSet_of Ow rfl ?_ (by rw [sizeLine_eq]; omega))
  have Vq:=dO (Obj.putSet lK t2) Ow (by rw [putSet_of lK t2 rfl]; rfl)
  rw [putSet_of lK t2 rfl] at Vq
  exact aH (h _ _ lK _ t2 (Qx.trans (iI _ a _)) Vq hx rfl T2 perm)
 ·exact aH (h _ _ es1 _ t1 Qx Ow hx rfl T1 (kF _))
theorem add_int{k:Int}{q:Tok}{Q:Bool->Shared->Prop}(hS:Small led s.heap a ns)(hl:ns.length <= 4000)
  (h:∀ b h',Heap.SameBut a s.heap h'->Small led h' a (if k∈ns then ns else ns++[k])->Q b { s with heap:=h' }):wpAny (model prog w) A (setAddHashed a (.int k q) (hashInt k)) Q E s:=by
 obtain ⟨o,es,ep,t,ho,hx,hd,T,hI,hz,nd,mem⟩:=hS
 have hel:=hI.elems (prog:=prog) (w:=w)
 have hb:es.size < scanBound:=by unfold scanBound; omega
 have isk:(intKind prog w).is k (.int k q)=true:=intKind_is _ _ _ _
 unfold setAddHashed setAddHashedIn
 refine wpAny_holding (ao (wpAny_setState_of ho hd T.fits ?_))
 dsimp only
 rw [byScan_of (knd:=intKind prog w) rfl hb hel,if_pos rfl]
 unfold setAddByScan
 refine ao (ao (wpAny_rule (ao (wpAny_setScan_of (knd:=intKind prog w) isk ho hd T.fits hel ?_))))
 cases hr:es.toList.findIdx? (λ e=>(intKind prog w).is k e.2) with
 | some j =>
  dsimp only
  obtain ⟨hj,hpj,_⟩:=List.findIdx?_eq_some_iff_getElem.mp hr
  have hin:k∈ns:=by
   rw [mem]
   have hm:=gn hj
   obtain ⟨n,c,e3⟩:=hI _ hm
   rw [e3] at hpj hm
   have:k=n:=(intKind prog w).inj _ _ _ hpj (intKind_is _ _ _ _)
   rw [this]
   exact ⟨c,hm⟩
  refine aH (aH ?_)
  exact h false s.heap (pN a s.heap) (by rw [if_pos hin]; exact ⟨o,es,ep,t,ho,hx,hd,T,hI,hz,nd,mem⟩)
 | none =>
  dsimp only
  have hno:=List.findIdx?_eq_none_iff.mp hr
  have Ff:k ∉ ns:=λ hin=>by
   obtain ⟨c,hc⟩:=(mem _).mp hin
   have:=hno _ hc
   rw [intKind_is] at this
   cases this
  obtain ⟨es1,t1,gv,hlay,T1,perm⟩:=T.lay (hashInt k) (.int k q)
  have hz1:es1.size=es.size + 1:=by rw [<- cC,perm.length_eq,bh,cC]; rfl
  rw [hlay]
  dsimp only
  refine ao (vJ gv ?_)
  have fin:∀ h' o2 lK Cw t2,Heap.SameBut a s.heap h'->h'.get? a=some o2->o2.ExactSet->o2.data=.set lK Cw t2->Tab led lK t2->lK.toList.Perm es1.toList->Q true { s with heap:=h' }:=λ h' o2 lK Cw t2 sb g2 x2 d2 T2 p2=>by
   have p3:=p2.trans perm
   refine h true h' sb ?_
   rw [if_neg Ff]
   refine ⟨o2,lK,Cw,t2,g2,x2,d2,T2,λ e he=>?_,by rw [bh,<- cC,p3.length_eq,bh,cC,hz]; rfl,?_,λ n=>?_⟩
   ·rcases aO.mp (p3.mem_iff.mp he) with he | he
    ·exact hI e he
    ·exact ⟨k,q,aC.mp he⟩
   ·rw [eV]
    exact ⟨nd,by simp,λ x hx' y hy e=>Ff (by rw [<- aC.mp hy,<- e]; exact hx')⟩
   ·rw [aO,aC,mem n]
    constructor
    ·rintro (⟨c,hc⟩ | e)
     ·exact ⟨c,p3.mem_iff.mpr (iK _ hc)⟩
     ·rw [e]; exact ⟨q,p3.mem_iff.mpr (by simp)⟩
    ·rintro ⟨c,hc⟩
     rcases aO.mp (p3.mem_iff.mp hc) with hc | hc
     ·exact .inl ⟨c,hc⟩
     ·rw [aC] at hc
      have:=congrArg Prod.snd hc
      injection this with e1 e2
      exact .inr e1
  split
  ·refine ao ?_
   rw [hashByValue_scannable 8 (x:=.int k q) rfl]
   refine aH ?_
   simp only [plainKind,if_true]
   refine vK ho hx hd T1 (by omega) (λ b s₁ Q' hq=>?_) λ h' o2 lK Cw t2 sb g2 x2 d2 T2 p2=>?_
   ·cases b <;> first | exact aH hq | exact wpAny_rule hq
   ·exact aH (fin h' o2 lK Cw t2 sb g2 x2 d2 T2 p2)
  ·refine ao (aH ?_)
   simp only [if_true]
   refine vK ho hx hd T1 (by omega) (λ b s₁ Q' hq=>?_) λ h' o2 lK Cw t2 sb g2 x2 d2 T2 p2=>?_
   ·cases b <;> first | exact aH hq | exact wpAny_rule hq
   ·exact aH (fin h' o2 lK Cw t2 sb g2 x2 d2 T2 p2)
def rS(val:Nat->Int):Nat->List Int
 | 0=>[]
 | i + 1=>if val i∈rS val i then rS val i else rS val i++[val i]
theorem vL(val:Nat->Int):∀ i,(rS val i).length <= i
 | 0=>az _
 | i + 1=>by
  have:=vL val i
  unfold rS
  split
  ·omega
  ·rw [bh,fX]; omega
theorem vM(val:Nat->Int):∀ (i:Nat) (n:Int),n∈rS val i ↔ ∃ j,j < i /\ n=val j
 | 0,n=>by simp [rS]
 | i + 1,n=>by
  have ih:=vM val i
  unfold rS
  split
  ·rename_i hin
   rw [ih n]
   constructor
   ·rintro ⟨j,hj,e⟩; exact ⟨j,by omega,e⟩
   ·rintro ⟨j,hj,e⟩
    rcases cH j i with hlt | hge
    ·exact ⟨j,hlt,e⟩
    ·have:j=i:=by omega
     subst this
     rw [e]
     exact (ih _).mp hin
  ·rw [aO,aC,ih n]
   constructor
   ·rintro (⟨j,hj,e⟩ | e)
    ·exact ⟨j,by omega,e⟩
    ·exact ⟨i,by omega,e⟩
   ·rintro ⟨j,hj,e⟩
    rcases cH j i with hlt | hge
    ·exact .inl ⟨j,hlt,e⟩
    ·have:j=i:=by omega
     subst this
     exact .inr e
theorem Fg{R:Result->Shared->Prop}{I:Addr}{fp wr:List Addr}{G:Array GenState->Array GenState->Prop}{n:Nat}{P:Nat->Value->Prop}{St:Nat->Shared->Prop}(W:WalksS prog w A.in1 I fp wr G n P St)(d:Addr)(hd:d ∉ fp)(Sp:Nat->Heap->Prop)
  (at':∀ i h h',Sp i h->(∀ b o,b ∉ wr->h.get? b=some o->h'.get? b=some o)->Sp i h')
  (add:∀ (E':Value->Shared->Prop) i v (s':Shared) (Q:Bool->Shared->Prop),i < n->P i v->Sp i s'.heap->(∀ b h' tk,s'.toks <= tk->Heap.SameBut d s'.heap h'->Sp (i + 1) h'->Q b { s' with heap:=h',toks:=tk })->wpAny (model prog w) A.in1 (setAdd d v) Q E' s'):
  ∀ (m i:Nat) (s:Shared),n - i=m->i <= n->St i s->Sp i s.heap->(∀ s',Moved (d :: wr) G s s'->Sp n s'.heap->R (.ok (.ret .none)) s') ->
   codeAny (model prog w) A (.builtin "set.update.loop" ⟨[.ref d,.ref I],[]⟩) R s:=by
 have hdw:d ∉ wr:=λ h=>hd (W.sub _ h)
 have up:∀ b∈wr,b∈d :: wr:=λ b hb=>cV _ hb
 intro m
 induction m with
 | zero =>
  intro i s em hi st hS hR
  obtain rfl:i=n:=by omega
  refine codeAny_builtin PyProof.Rows.F.entry_set_update_loop ?_
  rw [fz PyProof.Rows.F.plain_set_update_loop]
  refine ao (m:=pyNext (.ref I)) (W.done s _ _ st λ s' hm=>?_)
  exact aH (hR s' (hm.mono up) (at' _ _ _ hS λ b o hb e=>hm.heap b o hb e))
 | succ m ih =>
  intro i s em hi st hS hR
  have hlt:i < n:=by omega
  refine codeAny_builtin PyProof.Rows.F.entry_set_update_loop ?_
  rw [fz PyProof.Rows.F.plain_set_update_loop]
  refine ao (m:=pyNext (.ref I)) (W.item i s _ _ hlt st λ v s' hP st' hm=>?_)
  have hS':=at' _ _ _ hS λ b o hb e=>hm.heap b o hb e
  refine ao (m:=holding [v] (setAdd d v)) (wpAny_holding ?_)
  refine add _ i v s' _ hlt hP hS' λ b h' tk htk sb hSi=>?_
  refine aH ⟨plainId_quiet PyProof.Rows.F.plain_set_update_loop _,ih (i + 1) _ (by omega) hlt (W.frame _ s' _ _ st' htk λ b hb o e=>?_) hSi λ s2 hm2 SO=>?_⟩
  ·rw [sb.2 b (λ z:b=d=>hd (by rw [<- z]; exact hb))]; exact e
  ·refine hR s2 (Moved.trans W.gtrans ((hm.mono up).then_heap htk λ b o hb e=>?_) hm2) SO
   rw [sb.2 b (λ z:b=d=>hb (by rw [z]; exact gI))]; exact e
theorem Jr(a:Value)
  (h:Q (.ref s.heap.objs.size) { s with heap:=s.heap.push { cls:=.type "set", dict:=none,data:=.set #[] 0 (.fresh 0 0 (!bU w)) } }):
  codeAny (model prog w) A (.call (.builtin "set.__new__") ⟨[.type "set", a],[]⟩) (wants Q E) s:=by
 refine codeAny_of_tree ?_
 refine ao (m:=checkBuiltinCall "set.__new__" ⟨[.type "set", a],[]⟩) (wpAny_of_eq (PySem.F.newCall_set_1 a) (aH ⟨plainId_quiet F.plain_set_new _,codeAny_builtin F.entry_set_new ?_⟩))
 rw [fz F.plain_set_new]
 unfold Builtin.«set.__new__» Builtin.Frozenset.newClass
 have hsub:=sub_set_self
 obtain ⟨hp,g,d,tk,os⟩:=s
 dsimp only
 wp_walk
 refine wpAny_askSetting (aH ?_)
 dsimp only
 simp only [newObj]
 refine ao (wpAny_alloc (aH (aH ?_)))
 exact h
theorem sG:Tab led #[] (.fresh 0 0 led):=⟨rfl,rfl,by show List.Pairwise _ []; exact List.Pairwise.nil,rfl⟩
theorem vN{h:Heap}(e:h.get? a=some { cls:=.type "set", dict:=none,data:=.set #[] 0 (.fresh 0 0 led) }):Small led h a [] :=
 ⟨_,#[],0,_,e,⟨rfl,rfl,rfl⟩,rfl,sG,(λ e he=>by simp at he),rfl,jc,λ n=>by simp⟩
set_option maxHeartbeats 3200000 in
theorem set_list{l:Addr}{items:Array Value}(hh:A.handled=none)(hl:s.heap.IsList l items)(Sp:Nat->Heap->Prop)
  (sp0:∀ h',(∀ b o,s.heap.get? b=some o->h'.get? b=some o)->h'.get? s.heap.objs.size=some { cls:=.type "set", dict:=none,data:=.set #[] 0 (.fresh 0 0 (!bU w)) } -> Sp 0 h')
  (at':∀ i h h',Sp i h->(∀ b o,b <= s.heap.objs.size->h.get? b=some o->h'.get? b=some o)->Sp i h')
  (add:∀ (A':Around) (E':Value->Shared->Prop) i v (s':Shared) (Q:Bool->Shared->Prop),A'.handled=none->A'.units <= A.units + 8->items[i]? = some v->Sp i s'.heap->(∀ b h' tk,s'.toks <= tk->Heap.SameBut s.heap.objs.size s'.heap h'->Sp (i + 1) h'->Q b { s' with heap:=h',toks:=tk })->wpAny (model prog w) A' (setAdd s.heap.objs.size v) Q E' s')
  (h:∀ (h':Heap) (tk:Nat),Sp items.size h'->(∀ b o,b < s.heap.objs.size->s.heap.get? b=some o->h'.get? b=some o)->Q (.ref s.heap.objs.size) { s with heap:=h',toks:=tk }):
  wpAny (model prog w) A (call (.type "set") [.ref l]) Q E s:=by
 obtain ⟨c0,t0,m0⟩:=F.called_set.mro
 have m1:=F.called_set.made
 have m2:=F.called_set.sub
 refine wpAny_call (codeAny_of_tree ?_)
 show wpAny _ _ (callAny (.type "set") ⟨[.ref l],[]⟩) _ _ _
 refine aH ⟨Code.quiet_builtin _ (by decide +kernel),(codeAny_builtin F.entry_type_call ?_)⟩
 rw [Around.under_plain (weight_type_call_type "set" [.ref l] []) rfl]
 have m3:=F.called_set.notType
 have m4:=F.called_set.canCreate
 have m5:=PySem.F.typeCall_set_1 (.ref l)
 repeat (any_goals (first | assumption | wp_step))
 refine codeAny_mono (Jr (.ref l) (E:=E) (Q:=λ obj z=>obj=.ref s.heap.objs.size /\ z={ s with heap:=s.heap.push { cls:=.type "set", dict:=none,data:=.set #[] 0 (.fresh 0 0 (!bU w)) } }) ⟨rfl,rfl⟩) λ r z hr=>?_
 cases r with
 | error e=>exact hr
 | ok fl =>
  cases fl with
  | ret obj =>
   obtain ⟨rfl,rfl⟩:=hr
   generalize hH:s.heap.push { cls:=.type "set", dict:=none,data:=.set #[] 0 (.fresh 0 0 (!bU w)) }=H1
   have g1:H1.get? s.heap.objs.size=some { cls:=.type "set", dict:=none,data:=.set #[] 0 (.fresh 0 0 (!bU w)) }:=by rw [<- hH]; exact fR _ rfl
   have k1:∀ b o,s.heap.get? b=some o->H1.get? b=some o:=λ b o e=>by rw [<- hH]; exact cB _ e
   have z1:H1.objs.size=s.heap.objs.size + 1:=by rw [<- hH,dP]
   have ty:Shared.TypeIs { s with heap:=H1 } (.ref s.heap.objs.size) "set" := ⟨_,g1,rfl⟩
   have m6:=F.called_set.init.lookup
   have m7:=F.called_set.init.bind (.ref s.heap.objs.size)
   repeat (any_goals (first | assumption | wp_step))
   refine codeAny_mono (codeAny_call_builtin (R:=wants (λ r z=>r=.none /\ ∃ h' tk,z={ s with heap:=h',toks:=tk } /\ Sp items.size h' /\ ∀ b o,b < s.heap.objs.size->s.heap.get? b=some o->h'.get? b=some o) E)
    F.called_set.init.plain F.entry_set_init (check_set_init_1 ty ?_)) λ r2 s2 hr2=>?_
   ·have hl1:H1.IsList l items:=by
     obtain ⟨ol,e1,e2,n1,e3⟩:=hl
     exact ⟨ol,k1 _ _ e1,e2,n1,e3⟩
    obtain ⟨ol,e1,e2,n1,e3⟩:=hl
    obtain ⟨cc,dd,xx,ss⟩:=ol
    simp only at e2 e3
    subst e2 e3
    have e4:=k1 _ _ e1
    have f1:=PySem.F.sub_list_set
    have f2:=PySem.F.sub_list_frozenset
    have f3:(Value.type "list" == Value.type "dict")=false:=by decide
    unfold Builtin.«set.__init__» noKeywords Builtin.Frozenset.updateFrom
    generalize hp:pyIter=PI
    wp_walk
    subst hp
    refine wpAny_pyIter_list hl1 (ao (wpAny_runValue ?_))
    have hlS:l < s.heap.objs.size:=aF e1
    have n2:l ≠ H1.objs.size:=by rw [z1]; exact aT (je hlS)
    have n3:s.heap.objs.size ∉ [H1.objs.size,l]:=by
     rw [z1]
     intro z
     rcases aJ.mp z with z | z
     ·omega
     ·exact absurd (aC.mp z) (jE hlS)
    refine Fg ((Walks.list (by simp [hh]) _ l n2 items).toS) s.heap.objs.size n3 Sp (λ i h h' q hk=>at' i h h' q λ b o hb e=>hk b o (λ z=>?_) e) (λ E' i v s' Q hi hP hSp hQ=>add _ E' i v s' Q (by simp [hh]) (by simp only [Around.in1]; omega) hP hSp hQ) (items.size - 0) 0 _ (by omega) (aQ _) ⟨⟨_,fR _ rfl,rfl,rfl⟩,(hl1.push _)⟩ (sp0 _ (λ b o e=>cB _ (k1 _ _ e)) (cB _ g1)) ?_
    ·rw [aC.mp z,z1] at hb
     omega
    intro s3 hm SO
    obtain ⟨h3,g3,d3,t3,o3⟩:=s3
    obtain rfl:g3=s.gens:=hm.gens
    obtain rfl:d3=s.drawn:=hm.drawn
    obtain rfl:o3=s.os:=hm.os
    refine aH (aH ⟨rfl,h3,t3,rfl,SO,λ b o hb e=>?_⟩)
    refine hm.heap b o (λ z=>?_) (cB _ (k1 _ _ e))
    rcases aJ.mp z with z | z
    ·exact absurd z (aT hb)
    ·rw [aC.mp z,z1] at hb
     omega
   ·cases r2 with
    | error e=>exact hr2
    | ok f2 =>
     cases f2 with
     | ret r =>
      obtain ⟨rfl,h3,t3,rfl,SO,Qy⟩:=hr2
      repeat (any_goals (first | assumption | wp_step))
      exact h _ _ SO Qy
     | _=>exact hr2.elim
  | _=>exact hr.elim
end
theorem ints_of{l:List Value}(h:∀ v∈l,∃ n k,v=Value.int n k):∃ ns:List Int,IntsAre l ns:=by
 induction l with
 | nil=>exact ⟨[],.nil⟩
 | cons v l ih =>
  obtain ⟨n,k,rfl⟩:=h v (by simp)
  obtain ⟨ns,r⟩:=ih λ u hu=>h u (by simp [hu])
  exact ⟨n :: ns,.cons n k r⟩
theorem Js{l:List Value}(r:IntsAre l ns):∀ n,n∈ns ↔ ∃ k,Value.int n k∈l:=by
 induction r with
 | nil=>intro n; simp
 | @cons m k l ns _ ih =>
  intro n
  rw [aJ,ih n]
  constructor
  ·rintro (e | ⟨c,hc⟩)
   ·rw [e]; exact ⟨k,by simp⟩
   ·exact ⟨c,by simp [hc]⟩
  ·rintro ⟨c,hc⟩
   rcases aJ.mp hc with e | hc
   ·cases e; exact .inl rfl
   ·exact .inr ⟨c,hc⟩
theorem Jt:typeLookup (.type "set") "__len__" = pure (some (.builtin "set.__len__")):=by rw [typeLookup_type,builtinLookup_eq_fast]; kernel_rfl
section
variable {prog:Program}{w:World}{A:Around}{E:Value->Shared->Prop}{s:Shared}
theorem Fi{l:Addr}{items:Array Value}{val:Nat->Int}(hh:A.handled=none)(hl:s.heap.IsList l items)(hv:∀ (i:Nat) (v:Value),items[i]? = some v->∃ t,v=Value.int (val i) t)(hn:items.size <= 4000)
  (h:∀ (h':Heap) (tk:Nat),Small (!bU w) h' s.heap.objs.size (rS val items.size)->(∀ b o,b < s.heap.objs.size->s.heap.get? b=some o->h'.get? b=some o)->Q (.ref s.heap.objs.size) { s with heap:=h',toks:=tk }):
  wpAny (model prog w) A (call (.type "set") [.ref l]) Q E s:=by
 refine set_list hh hl (λ i h=>Small (!bU w) h s.heap.objs.size (rS val i)) (λ h' _ e=>vN e) (λ i h h' q hk=>q.at' λ o e=>hk _ o (az _) e) (λ A' E' i v s' Q hh' _ hi hS hQ=>?_) h
 obtain ⟨t,rfl⟩:=hv i v hi
 unfold setAdd
 refine wpAny_holding (ao ((intKind prog w).pyHash (k:=val i) (intKind_is _ _ _ _) ?_))
 have hl:=vL val i
 have hlt:=(jB.mp hi).1
 refine add_int (s:={ s' with toks:=s'.toks + 1 }) hS (by omega) λ b h' sb HZ=>?_
 exact hQ b h' _ (kJ _) sb HZ
set_option maxHeartbeats 2000000 in
theorem oj{o:Obj}{t:SetTable}{Q:List Value->Shared->Prop}(hh:A.handled=none)(ho:s.heap.get? a=some o)(hx:o.ExactSet)(hd:o.data=.set es ep t)(T:Tab (!bU w) es t)(hsz:es.size <= 100000)
  (hQ:∀ (s':Shared) (vs:List Value),(∀ b x,s.heap.get? b=some x->s'.heap.get? b=some x)->s'.gens=s.gens->s'.os=s.os->s.heap.objs.size < s'.heap.objs.size->vs.Perm (es.toList.map (·.2))->Q vs s'):
  wpAny (model prog w) A (collect (.ref a)) Q E s:=by
 unfold collect
 refine ao (wpAny_runValue (codeAny_builtin F.entry_proto_collect ?_))
 rw [fz F.plain_proto_collect]
 refine ao (m:=newList []) (wpAny_newObj_type (aH ⟨plainId_quiet F.plain_list_iadd _,codeAny_builtin F.entry_list_iadd ?_⟩))
 rw [fz F.plain_list_iadd]
 show wpAny _ A.in1 (Builtin.List.listExtendWith (.ref s.heap.objs.size) (.ref a) (.ref s.heap.objs.size)) _ _ _
 generalize hH:s.heap.push { cls:=.type "list", data:=.seq ([]:List Value).toArray }=H
 have hz:H.objs.size=s.heap.objs.size + 1:=by rw [<- hH,dP]
 have hk:∀ b x,s.heap.get? b=some x->H.get? b=some x:=λ b x e=>by rw [<- hH]; exact cB _ e
 have hN:H.get? s.heap.objs.size=some { cls:=.type "list", data:=.seq ([]:List Value).toArray }:=by rw [<- hH]; exact fR _ rfl
 have hlt:=aF ho
 unfold Builtin.List.listExtendWith
 refine ao (wpAny_typeOf (T := "set") ⟨o,hk _ _ ho,hx.1⟩ ?_)
 have h1:Builtin.List.listSameRef (.ref s.heap.objs.size) (.ref a)=false:=by
  show ((s.heap.objs.size == a):Bool)=false
  exact beq_eq_false_iff_ne.mpr (jE hlt)
 have h2:(Value.type "set" == Value.type "list")=false:=by decide
 have h3:(Value.type "set" == Value.type "tuple")=false:=by decide
 simp only [h1,h2,h3,Bool.or_false,bG,if_false]
 refine ao (Fe (s:={ s with heap:=H }) (hk _ _ ho) hx hd T hsz λ it H2 d2 fp od St hk2 hit hfp AR W0 st=>ao (wpAny_holding ?_))
 have hao:H2.get? a=some o:=hk2 _ _ (hk _ _ ho)
 dsimp only at hk2 hit hfp
 unfold Builtin.List.listLengthHint
 refine ao (wpAny_specialOf (T := "set") (v:=.ref a) ⟨o,hao,hx.1⟩ Jt ?_)
 wp_delta
 refine ao (wpAny_isInstance (T := "set") (v:=.ref a) (b:=true) ⟨o,hao,hx.1⟩ (by rw [isSubtype_type]; kernel_rfl) ?_)
 refine ao (m:=typeOf (.ref a)) (wpAny_typeOf (T := "set") ⟨o,hao,hx.1⟩ (aH ?_))
 rw [if_pos (by decide)]
 have hnf:s.heap.objs.size ∉ fp:=λ hm=>by
  rcases hfp _ hm with e | e
  ·exact absurd e (jE hlt)
  ·rw [hz] at e; exact absurd e (Nat.not_le.mpr (kK _))
 have hn4:od.size <= sizeLine:=by
  have:=AR.length_eq
  rw [cC,cC] at this
  rw [this,sizeLine_eq]
  omega
 have g1:H2.get? s.heap.objs.size=some { cls:=.type "list", data:=.seq ([]:List Value).toArray }:=hk2 _ _ hN
 have g2:=dO (Obj.mapSeq (·.push Value.none)) g1 rfl
 have g3:=dO (Obj.mapSeq (·.pop)) g2 rfl
 have W:=(W0 A.in1 (by simp [hh])).toS
 have st':St 0 ((H2.update s.heap.objs.size (Obj.mapSeq (·.push Value.none))).update s.heap.objs.size (Obj.mapSeq (·.pop))) :=
  (W0 A.in1 (by simp [hh])).frame 0 _ _ st λ b hb o e=>by
   have hne:b ≠ s.heap.objs.size:=λ z=>hnf (by rw [<- z]; exact hb)
   rw [dN _ _ _ _ hne,dN _ _ _ _ hne]
   exact e
 refine ao (m:=rule "list.extend.makes-room") (wpAny_rule (ao (m:=Builtin.List.listTouch (.ref s.heap.objs.size)) ?_))
 refine ao (m:=updateSeq s.heap.objs.size (·.push .none)) (wpAny_updateSeq g1 rfl (wpAny_updateSeq g2 rfl ?_))
 refine aH ⟨plainId_quiet F.plain_extend_loop _,codeAny_extend_loopS W hn4 _ hnf _ _ 0 _ _ _ rfl (aQ _) st' g3 (ItemsOf.nil _) λ s' acc' c' hm hS' hacc=>?_⟩
 refine ao (m:=load s.heap.objs.size) (wpAny_load hS' (aH (hQ s' acc'.toList (λ b x e=>hm.heap b x (λ hb=>?_) ?_) hm.gens hm.os (aF hS') ?_)))
 ·have hl:=aF e
  rcases aJ.mp hb with z | z
  ·rw [z] at hl; exact absurd hl (dH _)
  ·rw [aC.mp z] at hl
   rw [hz] at hit
   exact absurd (cg hl (Nat.le_of_succ_le hit)) (dH _)
 ·have hb:=aT (aF e)
  show ((H2.update s.heap.objs.size _).update s.heap.objs.size _).get? b=some x
  rw [dN _ _ _ _ hb,dN _ _ _ _ hb]
  exact hk2 _ _ (hk _ _ e)
 ·have e:acc'.toList=od.toList.map (·.2):=by
   refine List.ext_getElem? λ i=>?_
   rw [aY]
   simp only [d8]
   rcases cH i acc'.size with hi | hi
   ·obtain ⟨e,he,hv⟩:=hacc.2 i acc'[i] (d7 hi)
    rw [d7 hi,he,hv]
    rfl
   ·rw [pJ hi,pJ (by rw [<- hacc.1]; exact hi)]
    rfl
  rw [e]
  exact AR.map _
theorem sorted_ints(hh:A.handled=none)(S:Small (!bU w) s.heap a ns)(hns:ns.length < 64)
  (h:∀ (p:Addr) (h':Heap) (d':Drawn) (tk:Nat) (out:Array Value) (c:Nat) (ns':List Int),s.heap.objs.size <= p->(∀ b x,s.heap.get? b=some x->h'.get? b=some x)->h'.get? p=some { cls:=.type "list", data:=.seq out c } -> IntsAre out.toList ns'->(∀ n,n∈ns' ↔ n∈ns)->ns'.Pairwise (· <= ·)->ns'.length=ns.length->Q (.ref p) { s with heap:=h',drawn:=d',toks:=tk }):
  wpAny (model prog w) A (call (.builtin "sorted") [.ref a]) Q E s:=by
 obtain ⟨o,es,ep,t,ho,hx,hd,T,hI0,hz,nd,mem⟩:=S
 refine pL kind_sorted plain_sorted entry_sorted (args_sorted1 _) ?_
 unfold Builtin.«sorted»
 refine ao (m:=checkCount "sorted" 1 1 _) (aH (ao (oj (by simp [hh]) ho hx hd T (by omega) ?_)))
 intro s1 acc k1 g1 o1 uu hp
 obtain ⟨h1,gg,dd,SQ,oo⟩:=s1
 dsimp only at k1 g1 o1 uu
 subst g1 o1
 have hal:acc.length=ns.length:=by rw [hp.length_eq,au,cC,hz]
 have shape:∀ v∈acc,∃ n k,v=Value.int n k:=λ v hv=>by
  obtain ⟨e,he,rfl⟩:=aG.mp (hp.mem_iff.mp hv)
  obtain ⟨n,k,rfl⟩:=hI0 e he
  exact ⟨n,k,rfl⟩
 obtain ⟨ms,hI⟩:=ints_of shape
 have Xp:∀ n,n∈ms ↔ n∈ns:=λ n=>by
  rw [Js hI n,mem n]
  constructor
  ·rintro ⟨k,hk⟩
   obtain ⟨e,he,ee⟩:=aG.mp (hp.mem_iff.mp hk)
   obtain ⟨n',k',rfl⟩:=hI0 e he
   cases ee
   exact ⟨_,he⟩
  ·rintro ⟨k,hk⟩
   exact ⟨k,hp.mem_iff.mpr (aG.mpr ⟨_,hk,rfl⟩)⟩
 refine ao (wpAny_newList ?_ (by rw [hal,sizeLine_eq]; omega))
 have h64:acc.length < 64:=by omega
 have gN:(h1.push (seqObj "list" acc.toArray 0)).get? h1.objs.size=some (seqObj "list" acc.toArray 0):=fR _ rfl
 refine ao (wpAny_holding (wpAny_call_entry slot_list_sort ⟨_,gN,rfl⟩ entry_list_sort (list_sort_tree gN hI h64 λ out ns' a1 a2 a3=>⟨_,rfl,?_⟩) (args_list_sort _)))
 obtain ⟨c,hc⟩:=sortedHeap_at (h:=h1.push (seqObj "list" acc.toArray 0)) (a:=h1.objs.size) (vs:=acc) (n:=0) (out:=out) gN
 have hle:s.heap.objs.size <= h1.objs.size:=gK uu
 refine aH ⟨_,rfl,h h1.objs.size _ dd SQ out c ns' hle (λ b x e=>?_) hc a1 (λ n=>(a2.mem_iff).trans (Xp n)) a3 ?_⟩
 ·have hb:=aF (k1 b x e)
  rw [sortedHeap_old (aT hb) (by rw [size_push']; exact je hb)]
  exact cB _ (k1 b x e)
 ·rw [a2.length_eq,<- hal]
  exact (IntsAre.length hI).symm
end
end SG
namespace SN
open PySem
theorem nE:∀ {xs ys:List Int},xs.Nodup->(∀ x∈xs,x∈ys)->xs.length <= ys.length
 | [],_,_,_=>aQ _
 | x :: xs,ys,h,q=>by
  rw [fZ] at h
  have hx:=q x (by simp)
  have:=nE (ys:=ys.erase x) h.2 λ y hy=>(List.mem_erase_of_ne (λ (e:y=x)=>h.1 (by rw [<- e]; exact hy))).mpr (q y (by simp [hy]))
  rw [List.length_erase_of_mem hx] at this
  have hp:=List.length_pos_of_mem hx
  rw [dR]
  omega
theorem LP:∀ {ms ns:List Int},ns.Nodup->(∀ n∈ns,n∈ms)->ms.length <= ns.length->ms.Nodup
 | [],_,_,_,_=>jc
 | x :: ms,ns,nd,sub,hl=>by
  rw [dR] at hl
  by_cases hx:x∈ns
  ·have ih:=LP (ms:=ms) (ns:=ns.erase x) (nd.erase x) (λ n hn=>by
    obtain ⟨h1,h2⟩:=(List.Nodup.mem_erase_iff nd).mp hn
    rcases aJ.mp (sub n h2) with e | h
    ·exact absurd e h1
    ·exact h) (by rw [List.length_erase_of_mem hx]; omega)
   refine fZ.mpr ⟨λ hm=>?_,ih⟩
   have:=nE nd (ys:=ms) λ n hn=>by
    rcases aJ.mp (sub n hn) with e | h
    ·rw [e]; exact hm
    ·exact h
   omega
  ·have:=nE nd (ys:=ms) λ n hn=>by
    rcases aJ.mp (sub n hn) with e | h
    ·rw [e] at hn; exact absurd hn hx
    ·exact h
   omega
theorem lt_eq:∀ {xs ys:List Int},xs.Pairwise (· < ·)->ys.Pairwise (· < ·)->(∀ n,n∈xs ↔ n∈ys)->xs=ys
 | [],[],_,_,_=>rfl
 | [],y :: ys,_,_,h=>absurd ((h y).mpr (by simp)) (by simp)
 | x :: xs,[],_,_,h=>absurd ((h x).mp (by simp)) (by simp)
 | x :: xs,y :: ys,hx,hy,h=>by
  rw [mY] at hx hy
  have e:x=y:=by
   rcases aJ.mp ((h x).mp (by simp)) with e | h1
   ·exact e
   rcases aJ.mp ((h y).mpr (by simp)) with e | h2
   ·exact e.symm
   have a1:=hy.1 x h1
   have a2:=hx.1 y h2
   omega
  subst e
  congr 1
  refine lt_eq hx.2 hy.2 λ n=>⟨λ hn=>?_,λ hn=>?_⟩
  ·rcases aJ.mp ((h n).mp (by simp [hn])) with e | h1
   ·have:=hx.1 n hn
    omega
   ·exact h1
  ·rcases aJ.mp ((h n).mpr (by simp [hn])) with e | h1
   ·have:=hy.1 n hn
    omega
   ·exact h1
def d9(ns:List Int):List Int:=((List.range 8).filter λ k:Nat=>decide ((k:Int)∈ns)).map λ k:Nat=>(k:Int)
theorem vO(ns:List Int):(d9 ns).Pairwise (· < ·):=by
 unfold d9
 rw [gJ]
 refine List.Pairwise.imp (λ h=>Int.ofNat_lt.mpr h) (List.Pairwise.sublist (List.filter_sublist) (List.pairwise_lt_range))
theorem j0{ns:List Int}(h:∀ n∈ns,0 <= n /\ n < 8)(n:Int):n∈d9 ns ↔ n∈ns:=by
 unfold d9
 simp only [aG,dS,fE,decide_eq_true_eq]
 constructor
 ·rintro ⟨k,⟨_,h2⟩,rfl⟩
  exact h2
 ·intro hn
  obtain ⟨h0,h8⟩:=h n hn
  refine ⟨n.toNat,⟨by omega,?_⟩,by omega⟩
  rw [Int.toNat_of_nonneg h0]
  exact hn
end SN
namespace L2
open PySem PySem.Spec PyProof.Rows
variable {w:World}{ns:List Int}
def qj(w:World)(p:Addr)(ns:List Int):Heap->Prop:=λ h=>∃ ms:List Int,SG.Small (!SG.bU w) h p ms /\ ∀ n,n∈ms ↔ n∈ns
theorem qk:∀ {l:List Value} {ns:List Int},IntsAre l ns->Vals (ns.map V.int) l
 | _,_,.nil=>.nil
 | _,_,.cons n t r=>.cons ⟨t,rfl⟩ (qk r)
theorem BT.AE:PySem.bootBuiltins "set" = some (.type "set"):=by decide +kernel
theorem BT.jN:PySem.bootBuiltins "sorted" = some (.builtin "sorted"):=by decide +kernel
section
variable {X:Cx}{σ:St}{H:Hp}{Q:VK}
theorem Inv.drw{pins:List (Addr × Obj)}{s:Shared}(I:Inv X pins σ H s)(d':Drawn):Inv X pins σ H { s with drawn:=d' } :=
 ⟨I.ok,I.os,I.bare,I.base,I.loc,I.cell,I.free,I.gM,I.pin,I.hok,I.len⟩
def Fj(K:aA)(w:World):List V->Hp->VK->Prop:=λ xs H Q=>∃ (l:Addr) (ns:List Int),xs=[.ref l] /\ bD K H l (ns.map V.int) /\ ns.length <= 4000 /\ ∀ p H',eE H p (.ext (qj w p ns)) H'->Q (.ref p) H'
theorem sH(hc:X.calm=true):cO X (.type "set") (Fj X.K X.w):=by
 intro pins s σ H xs us Q I r h
 obtain ⟨l,ns,rfl,hl,h4,q⟩:=h
 obtain ⟨u,rfl,ru⟩:=vals1 r
 cases ru
 obtain ⟨vs,rv,⟨ol,n0,e1,e2,e3,e4⟩,_⟩:=I.list hl
 have SR:s.heap.IsList l vs.toArray:=⟨ol,e1,e2,n0,e4⟩
 have hsz:vs.toArray.size=ns.length:=by have:=rv.length; rw [au] at this; rw [aV]; exact this.symm
 have hat:∀ (i:Nat) (n:Int),ns[i]? = some n->ns.getD i 0=n:=λ i n e=>by rw [ki,e]; rfl
 refine SG.Fi (val:=λ i=>ns.getD i 0) (I.ok.hd hc) SR (λ i v hv=>?_) (by omega) λ h' tk hS hk=>?_
 ·have hi:i < ns.length:=by have:=(jB.mp hv).1; omega
  have e5:ns[i]? = some ns[i]:=dJ hi
  obtain ⟨u,hu,t,rfl⟩:=rv.get (i:=i) (x:=.int ns[i]) (by rw [aY,e5]; rfl)
  rw [jb,hu] at hv
  cases hv
  rw [hat i _ e5]
  exact ⟨t,rfl⟩
 ·refine ⟨.ref s.heap.objs.size,_,I.laid (t':=tk) (λ b o e=>hk b o (aF e) e) (az _) (o:=.ext (qj X.w s.heap.objs.size ns)) ⟨⟨_,hS,λ n=>?_⟩,?_,λ h1 h2 hp he=>?_⟩,rfl,q _ _ ⟨I.hok.fresh (az _),rfl⟩⟩
  ·rw [SG.vM,hsz]
   constructor
   ·rintro ⟨j,hj,rfl⟩
    have e5:ns[j]? = some ns[j]:=dJ hj
    rw [hat j _ e5]
    exact gn hj
   ·intro hn
    obtain ⟨j,hj,e5⟩:=kH.mp hn
    refine ⟨j,hj,?_⟩
    rw [hat j n (by rw [dJ hj,e5])]
  ·obtain ⟨o,_,_,_,ho,_⟩:=hS
   exact ⟨o,ho⟩
  ·obtain ⟨ms,hS',hm⟩:=hp
   exact ⟨ms,hS'.at' he,hm⟩
def zm(w:World):List V->Hp->VK->Prop:=λ xs H Q=>∃ (p:Addr) (ns:List Int),xs=[.ref p] /\ H p=some (.ext (qj w p ns)) /\ (∀ ms:List Int,ms.Nodup->(∀ n,n∈ms ↔ n∈ns)->ms.length < 64) /\ ∀ (l:List Int) (q:Addr) (H':Hp),l.Pairwise (· < ·)->(∀ n:Int,n∈l ↔ n∈ns)->eE H q (.lst (l.map V.int)) H'->Q (.ref q) H'
theorem ql(hc:X.calm=true):cO X (.builtin "sorted") (zm X.w):=by
 intro pins s σ H xs us Q I r h
 obtain ⟨p,ns,rfl,hp,hb,q⟩:=h
 obtain ⟨u,rfl,ru⟩:=vals1 r
 cases ru
 obtain ⟨⟨ms,hS,hm⟩,_,_⟩:=I.hok p _ hp
 have nd:ms.Nodup:=by obtain ⟨_,_,_,_,_,_,_,_,_,_,nd,_⟩:=hS; exact nd
 have hml:=hb ms nd hm
 refine SG.sorted_ints (I.ok.hd hc) hS hml λ a h' d' tk out c ns' hle hk ho hI hmem Fl hlen=>?_
 have nd':ns'.Nodup:=SN.LP nd (λ n hn=>(hmem n).mpr hn) (by omega)
 have hlt:ns'.Pairwise (· < ·):=(Fl.and nd').imp λ ⟨h1,h2⟩=>by omega
 refine ⟨.ref a,_,(I.drw d').laid (t':=tk) hk hle (o:=.lst (ns'.map V.int)) ⟨?_,out.toList,c,qk hI,?_⟩,rfl,q ns' _ _ hlt (λ n=>(hmem n).trans (hm n)) ⟨I.hok.fresh hle,rfl⟩⟩
 ·rw [au,sizeLine_eq]; omega
 ·rw [ho,Array.toArray_toList]
theorem Ox{K:aA}{l:Addr}(hl:bD K H l (ns.map V.int))(h4:ns.length <= 4000)(h:∀ p H',eE H p (.ext (qj w p ns)) H'->Q (.ref p) H'):Fj K w [.ref l] H Q:=⟨l,ns,rfl,hl,h4,h⟩
theorem Oz{K:aA}{l:Addr}(hl:bD K H l (ns.map V.int))(hb:∀ n∈ns,0 <= n /\ n < 8)(h4:ns.length <= 4)(h:∀ p H',eE H p (.ext (qj w p ns)) H'->Q (.ref p) H'):Fj K w [.ref l] H Q:=⟨l,ns,rfl,hl,by omega,h⟩
theorem Ju{p:Addr}(hp:H p=some (.ext (qj w p ns)))(hb:∀ ms:List Int,ms.Nodup->(∀ n,n∈ms ↔ n∈ns)->ms.length < 64)(h:∀ (l:List Int) (q:Addr) (H':Hp),l.Pairwise (· < ·)->(∀ n:Int,n∈l ↔ n∈ns)->eE H q (.lst (l.map V.int)) H'->Q (.ref q) H'):zm w [.ref p] H Q:=⟨p,ns,rfl,hp,hb,h⟩
theorem Jv{p:Addr}(hp:H p=some (.ext (qj w p ns)))(hb:∀ n∈ns,0 <= n /\ n < 8)(h:∀ q H',eE H q (.lst ((SN.d9 ns).map V.int)) H'->Q (.ref q) H'):zm w [.ref p] H Q:=by
 refine ⟨p,ns,rfl,hp,λ ms nd hm=>?_,λ l q H' hlt hmem n=>?_⟩
 ·have:=SN.nE nd (ys:=[0,1,2,3,4,5,6,7]) λ x hx=>by
   obtain ⟨h0,h8⟩:=hb x ((hm x).mp hx)
   have:x=0 \/ x=1 \/ x=2 \/ x=3 \/ x=4 \/ x=5 \/ x=6 \/ x=7:=by omega
   simpa using this
  simp at this
  omega
 ·have e:l=SN.d9 ns:=SN.lt_eq hlt (SN.vO ns) λ n=>(hmem n).trans (SN.j0 hb n).symm
  rw [e] at n
  exact h q H' n
end
end L2
namespace SN
open PySem PySem.W PyProof.Rows
variable {n i j ep:Nat}{p:Array Nat}{d:Addr}{es:Array DictEntry}{ps:List (Int × Int)}
structure Pl (n:Nat) (p:Array Nat):Prop where
 sz:p.size=n
 pm:p.toList.Perm (List.range n)
theorem Pl.get(P:Pl n p)(hi:i < n):p.toList[i]? = some (p.getD i 0):=by
 have h:i < p.size:=by rw [P.sz]; exact hi
 rw [d8,d7 h]
 simp [Array.getD,h]
theorem Pl.lt{n:Nat}{p:Array Nat}(P:Pl n p){i:Nat}(hi:i < n):p.getD i 0 < n:=fE.mp (P.pm.mem_iff.mp (fS (P.get hi)))
theorem Pl.inj(P:Pl n p)(hi:i < n)(hj:j < n)(e:p.getD i 0=p.getD j 0):i=j:=by
 have nd:p.toList.Nodup:=P.pm.nodup_iff.mpr List.nodup_range
 have h1:=P.get hi
 have h2:=P.get hj
 rw [<- e] at h2
 exact (List.getElem?_inj (fu h1).1 nd).mp (h1.trans h2.symm)
theorem Pl.of{q:Array Nat}(P:Pl n p)(h:q.Perm p):Pl n q:=⟨by rw [h.size_eq]; exact P.sz,(Array.perm_iff_toList_perm.mp h).trans P.pm⟩
theorem Pl.start(n:Nat):Pl n (List.toArray (List.range n)):=⟨by simp,kF _⟩
def kv(r:Nat->Int)(p:Array Nat)(i:Nat):Int:=r (p.getD i 0)
def Up(r:Nat->Int)(p:Array Nat)(k:Nat):Prop:=∀ i j,i < j->j < k->kv r p i < kv r p j
def Dn(r:Nat->Int)(p:Array Nat)(k:Nat):Prop:=∀ i j,i < j->j < k->kv r p j < kv r p i
theorem AS{r:Nat->Int}{q:Array Nat}(h:p[i]? = q[j]?):kv r p i=kv r q j:=by
 unfold kv
 rw [Array.getD_eq_getD_getElem?,Array.getD_eq_getD_getElem?,h]
section
variable {cmp:Nat->Nat->(Bool->Shared->Prop)->Shared->Prop}{n:Nat}{r:Nat->Int}{s:Shared}{p:Array Nat}
theorem Pl.ne(P:Pl n p)(inj:∀ i j,i < n->j < n->r i=r j->i=j)(hi:i < n)(hj:j < n)(h:i ≠ j):kv r p i ≠ kv r p j:=λ e=>h (P.inj hi hj (inj _ _ (P.lt hi) (P.lt hj) e))
theorem zo(hc:∀ i j,i < n->j < n->∀ C,C (decide (r i < r j)) s->cmp i j C s)(inj:∀ i j,i < n->j < n->r i=r j->i=j)(P:Pl n p){Q:Nat->Shared->Prop}:∀ f k,1 <= k->k + f <= n->Up r p k ->
  (∀ m,k <= m->m <= k + f->Up r p m->(m < k + f->kv r p m < kv r p (m - 1))->Q m s)->(kas_asc p f k).kasWp cmp Q s
 | 0,k,_,_,u,h=>h k (az _) (az _) u λ z=>absurd z (dH _)
 | f + 1,k,h1,hn,u,h=>by
  show cmp (p.getD k 0) (p.getD (k - 1) 0) _ s
  refine hc _ _ (P.lt (by omega)) (P.lt (by omega)) _ ?_
  by_cases hl:r (p.getD k 0) < r (p.getD (k - 1) 0)
  ·rw [decide_eq_true hl]
   exact h k (az _) (by omega) u λ _=>hl
  ·rw [decide_eq_false hl]
   refine zo hc inj P f (k + 1) (by omega) (by omega) (λ i j hij hj=>?_) λ m a b c d=>h m (by omega) (by omega) c λ z=>d (by omega)
   by_cases hk:j < k
   ·exact u i j hij hk
   ·have e:j=k:=by omega
    subst e
    have ne:=P.ne inj (i:=j) (j:=j - 1) (by omega) (by omega) (by omega)
    have lt:kv r p (j - 1) < kv r p j:=by have:¬ kv r p j < kv r p (j - 1):=hl; omega
    by_cases hi:i=j - 1
    ·rw [hi]; exact lt
    ·exact Int.lt_trans (u i (j - 1) (by omega) (by omega)) lt
theorem AU(hc:∀ i j,i < n->j < n->∀ C,C (decide (r i < r j)) s->cmp i j C s)(inj:∀ i j,i < n->j < n->r i=r j->i=j)(P:Pl n p){Q:Array Nat × Nat × Nat->Shared->Prop}:∀ f k,2 <= k->k + f <= n->Dn r p k ->
  (∀ m,k <= m->m <= k + f->Dn r p m->Q (p,m,0) s)->(kas_desc f p k 0).kasWp cmp Q s
 | 0,k,_,_,u,h=>h k (az _) (az _) u
 | f + 1,k,h1,hn,u,h=>by
  show cmp (p.getD k 0) (p.getD (k - 1) 0) _ s
  refine hc _ _ (P.lt (by omega)) (P.lt (by omega)) _ ?_
  by_cases hl:r (p.getD k 0) < r (p.getD (k - 1) 0)
  ·rw [decide_eq_true hl]
   refine AU hc inj P f (k + 1) (by omega) (by omega) (λ i j hij hj=>?_) λ m a b c=>h m (by omega) (by omega) c
   by_cases hk:j < k
   ·exact u i j hij hk
   ·have e:j=k:=by omega
    subst e
    have lt:kv r p j < kv r p (j - 1):=hl
    by_cases hi:i=j - 1
    ·rw [hi]; exact lt
    ·exact Int.lt_trans lt (u i (j - 1) (by omega) (by omega))
  ·rw [decide_eq_false hl]
   show cmp (p.getD (k - 1) 0) (p.getD k 0) _ s
   refine hc _ _ (P.lt (by omega)) (P.lt (by omega)) _ ?_
   have ne:=P.ne inj (i:=k) (j:=k - 1) (by omega) (by omega) (by omega)
   have lt:r (p.getD (k - 1) 0) < r (p.getD k 0):=by have:¬ kv r p k < kv r p (k - 1):=hl; unfold kv at ne this; omega
   rw [decide_eq_true lt]
   exact h k (az _) (by omega) u
theorem OA{m:Nat}(P:Pl n p)(hm:m <= n)(d:Dn r p m):Pl n (kas_rev p 0 m) /\ Up r (kas_rev p 0 m) m:=by
 refine ⟨P.of (mirror_perm _ _ _ _),λ i j hij hj=>?_⟩
 have at_:∀ i,i < m->kv r (kas_rev p 0 m) i=kv r p (m - 1 - i):=λ i hi=>AS (by
  unfold kas_rev
  rw [getElem?_mirror_all (by rw [P.sz]; exact hm),if_pos ⟨aQ _,hi⟩]
  congr 1
  omega)
 rw [at_ i (by omega),at_ j hj]
 exact d _ _ (by omega) (by omega)
theorem Fo(hc:∀ i j,i < n->j < n->∀ C,C (decide (r i < r j)) s->cmp i j C s)(inj:∀ i j,i < n->j < n->r i=r j->i=j)(P:Pl n p){m:Nat}(h1:1 <= m)(hm:m <= n)(d:Dn r p m){Q:Nat × Array Nat->Shared->Prop}
  (h:∀ k q,Pl n q->1 <= k->k <= n->Up r q k->Q (k,q) s):(kas_tail3 m n p).kasWp cmp Q s:=by
 obtain ⟨P',u⟩:=OA P hm d
 unfold kas_tail3
 rw [KasT.kasWp_bind]
 exact zo hc inj P' _ _ h1 (by omega) u λ k a b c _=>h k _ P' (by omega) (by omega) c
theorem Fp(hc:∀ i j,i < n->j < n->∀ C,C (decide (r i < r j)) s->cmp i j C s)(inj:∀ i j,i < n->j < n->r i=r j->i=j)(P:Pl n p)(h2:2 <= n){Q:Nat × Array Nat->Shared->Prop}
  (h:∀ k q,Pl n q->1 <= k->k <= n->Up r q k->Q (k,q) s):(kas_count n p).kasWp cmp Q s:=by
 unfold kas_count
 rw [KasT.kasWp_bind]
 refine zo hc inj P _ _ (az _) (by omega) (λ i j _ _=>by omega) λ m a b c d=>?_
 by_cases e:m=n
 ·rw [if_pos (by simp [e])]
  exact h m p P a (by omega) c
 rw [if_neg (by simp [e])]
 by_cases g:m > 1
 ·rw [if_pos g]
  show cmp (p.getD 0 0) (p.getD (m - 1) 0) _ s
  refine hc _ _ (P.lt (by omega)) (P.lt (by omega)) _ ?_
  rw [decide_eq_true (show r (p.getD 0 0) < r (p.getD (m - 1) 0) from c 0 (m - 1) (by omega) (by omega))]
  exact h m p P a (by omega) c
 ·rw [if_neg g]
  have e1:m=1:=by omega
  subst e1
  unfold kas_descPart
  rw [KasT.kasWp_bind]
  refine AU hc inj P _ _ (az _) (by omega) (λ i j hij hj=>?_) λ k a' b' d'=>?_
  ·have e0:i=0:=by omega
   have e1:j=1:=by omega
   subst e0 e1
   exact d (by omega)
  ·exact Fo hc inj P (by omega) (by omega) d' h
theorem up_place(hc:∀ i j,i < n->j < n->∀ C,C (decide (r i < r j)) s->cmp i j C s)(inj:∀ i j,i < n->j < n->r i=r j->i=j)(P:Pl n p){k:Nat}(hk:k < n)(u:Up r p k){Q:Nat->Shared->Prop}:∀ f a b,b - a <= f->a <= b->b <= k->(∀ i,i < a->kv r p i < kv r p k)->(∀ i,b <= i->i < k->kv r p k < kv r p i) ->
  (∀ l,l <= k->(∀ i,i < l->kv r p i < kv r p k)->(∀ i,l <= i->i < k->kv r p k < kv r p i)->Q l s)->(kas_place p k f a b).kasWp cmp Q s
 | 0,a,b,hf,hab,hb,lo,hi,h=>by
  have e:a=b:=by omega
  subst e
  exact h a hb lo hi
 | f + 1,a,b,hf,hab,hb,lo,hi,h=>by
  unfold kas_place
  by_cases g:a >= b
  ·rw [if_pos g]
   have e:a=b:=by omega
   subst e
   exact h a hb lo hi
  ·rw [if_neg g]
   show cmp (p.getD k 0) (p.getD ((a + b) / 2) 0) _ s
   refine hc _ _ (P.lt hk) (P.lt (by omega)) _ ?_
   have ne:=P.ne inj (i:=k) (j:=(a + b) / 2) hk (by omega) (by omega)
   by_cases hl:r (p.getD k 0) < r (p.getD ((a + b) / 2) 0)
   ·rw [decide_eq_true hl]
    have hl':kv r p k < kv r p ((a + b) / 2):=hl
    refine up_place hc inj P hk u f a ((a + b) / 2) (by omega) (by omega) (by omega) lo (λ i h1 h2=>?_) h
    by_cases e:i=(a + b) / 2
    ·rw [e]; exact hl'
    ·exact Int.lt_trans hl' (u _ i (by omega) h2)
   ·rw [decide_eq_false hl]
    have hl':kv r p ((a + b) / 2) < kv r p k:=by have:¬ kv r p k < kv r p ((a + b) / 2):=hl; omega
    refine up_place hc inj P hk u f ((a + b) / 2 + 1) b (by omega) (by omega) hb (λ i h1=>?_) hi h
    by_cases e:i=(a + b) / 2
    ·rw [e]; exact hl'
    ·exact Int.lt_trans (u i _ (by omega) (by omega)) hl'
theorem Fq(hc:∀ i j,i < n->j < n->∀ C,C (decide (r i < r j)) s->cmp i j C s)(inj:∀ i j,i < n->j < n->r i=r j->i=j){Q:Array Nat->Shared->Prop}(h:∀ q,Pl n q->Up r q n->Q q s):∀ f k (p:Array Nat),Pl n p->k + f=n->Up r p k->(kas_bin f p k).kasWp cmp Q s
 | 0,k,p,P,e,u=>h p P (by rw [<- e]; exact u)
 | f + 1,k,p,P,e,u=>by
  unfold kas_bin
  rw [KasT.kasWp_bind]
  refine up_place hc inj P (k:=k) (by omega) u k 0 k (by omega) (aQ _) (az _) (λ i hi=>absurd hi (Nat.not_lt_zero _)) (λ i h1 h2=>absurd h2 (by omega)) λ l hl lo hi=>?_
  refine Fq hc inj h f (k + 1) _ (P.of (bubble_perm _ _ _)) (by omega) λ i j hij hj=>?_
  have at_:∀ i,kv r (bubble p k (k - l)) i=if i=l then kv r p k else if l < i /\ i <= k then kv r p (i - 1) else kv r p i:=λ i=>by
   have g:=getElem?_bubble (xs:=p) (src:=k) (by rw [P.sz]; omega) (k - l) (by omega) i
   rw [show k - (k - l)=l by omega] at g
   split at g
   ·rw [if_pos (by assumption)]; exact AS g
   ·rw [if_neg (by assumption)]
    split at g
    ·rw [if_pos (by assumption)]; exact AS g
    ·rw [if_neg (by assumption)]; exact AS g
  rw [at_ i,at_ j]
  repeat' split
  all_goals first
   | (exfalso; omega)
   | exact lo _ (by omega)
   | exact hi _ (by omega) (by omega)
   | exact u _ _ (by omega) (by omega)
theorem AV(hc:∀ i j,i < n->j < n->∀ C,C (decide (r i < r j)) s->cmp i j C s)(inj:∀ i j,i < n->j < n->r i=r j->i=j)(h2:2 <= n){Q:Array Nat->Shared->Prop}(h:∀ q,Pl n q->Up r q n->Q q s):(kas_sort n).kasWp cmp Q s:=by
 unfold kas_sort
 rw [KasT.kasWp_bind]
 refine Fp hc inj (Pl.start n) h2 λ k q P h1 hk u=>?_
 by_cases g:k < n
 ·rw [if_pos g]
  exact Fq hc inj h _ _ q P (by omega) (by rw [Nat.max_eq_left h1]; exact u)
 ·rw [if_neg g]
  have e:k=n:=by omega
  exact h q P (by rw [<- e]; exact u)
end
open PySem.Spec
section
variable {prog:Program}{w:World}{A:Around}{E:Value->Shared->Prop}{s:Shared}
def g8(h:Heap)(d:Addr)(es:Array DictEntry)(ep:Nat):Prop:=∃ o,h.get? d=some o /\ o.ExactDict /\ o.data=.dict es ep
theorem g8.at'{h h':Heap}(x:g8 h d es ep)(e:∀ o,h.get? d=some o->h'.get? d=some o):g8 h' d es ep:=let ⟨o,ho,r⟩:=x; ⟨o,e _ ho,r⟩
theorem g8.ty(x:g8 s.heap d es ep):s.TypeIs (.ref d) "dict" := let ⟨o,ho,hx,_⟩:=x; ⟨o,ho,hx.1⟩
theorem vP{Q:Value->Shared->Prop}(hs:(d == sysModules)=false)(x:g8 s.heap d es ep)
  (hQ:Q (.ref s.heap.objs.size) { s with heap:=s.heap.push { cls:=.type "dict_keyiterator", data:=.fields #[.ref d,.int 0 0,.int es.size 0,.int ep 0] } }):wpAny (model prog w) A (pyIter (.ref d)) Q E s:=by
 have ty:=x.ty
 obtain ⟨o,ho,_,hd⟩:=x
 refine wpAny_pyIter_slot ty F.slot_dict_iter (wpAny_call_entry F.slot_dict_iter ty F.entry_dict_iter ?_ (F.args_dict_iter_1 _))
 unfold Builtin.«dict.__iter__» Builtin.Dict.dictSlotNone
 refine ao (ao (wpAny_notOrdered_dict ty (show wpAny _ _ (pure (Value.ref d)) _ _ s from aH ?_)))
 show wpAny _ _ (Builtin.Dict.showsAll d >>= _) _ _ s
 unfold Builtin.Dict.showsAll
 rw [hs,if_neg ic]
 refine ao (aH (ao (wpAny_dictEntries ho hd (ao (wpAny_dictEpoch ho hd (ao (wpAny_newObj_type (aH ⟨_,rfl, "dict_keyiterator", _,⟨_,fR _ rfl,rfl⟩,F.slot_dict_keyiterator_next.lookup,?_⟩))))))))
 simpa [rawInt] using hQ
theorem vQ{it:Addr}{e:DictEntry}{Q:Option Value->Shared->Prop}(hit:s.heap.IsKeyIter it d i es.size ep)(x:g8 s.heap d es ep)(he:es[i]? = some e)
  (hQ:∀ h',h'.IsKeyIter it d (i + 1) es.size ep->Heap.SameBut it s.heap h'->Q (some e.key) { s with heap:=h' }):wpAny (model prog w) A (pyNext (.ref it)) Q E s:=by
 have ty:=hit.typeIs
 obtain ⟨o,ho,hc,hf⟩:=hit
 obtain ⟨od,hod,_,rH⟩:=x
 unfold pyNext
 refine ao (wpAny_attempt (wpAny_callSpecial?_slot (name:=Str.ofString "__next__") ty tO (wpAny_call_entry tO ty F.entry_dict_keyiterator_next ?_ (F.args_dict_keyiterator_next_1 _))))
 refine ao (aH (ao (ao ?_)))
 first | refine ao (wpAny_typeNameOfWhole_keyiter ty (aH (ao (wpAny_fieldsOf ho hf ?_)))) | refine ao (wpAny_typeNameOf_keyiter ty (aH (ao (wpAny_fieldsOf ho hf ?_))))
 rw [show Builtin.Dict_items.ownsTuple "dict_keyiterator" = false by decide]
 simp only [bG,if_false]
 show wpAny _ _ (if (Value.ref d == Value.none)=true then _ else _) _ _ s
 rw [if_neg (show ¬ (Value.ref d == Value.none)=true from ic)]
 refine ao (aH (ao (wpAny_dictEntries hod rH ?_)))
 rw [if_neg (by simp)]
 refine ao (aH (ao (wpAny_dictEpoch hod rH ?_)))
 rw [if_neg (by simp)]
 refine aH ?_
 simp only [show ¬ ((i:Int) < 0) by omega,if_false,gE,he]
 refine ao ?_
 first | refine ao (wpAny_typeNameOfWhole_keyiter ty (aH (ao (wpAny_isOneOf_keyiter ty ?_)))) | refine ao (wpAny_typeNameOf_keyiter ty (aH (ao (wpAny_isOneOf_keyiter ty ?_))))
 show wpAny _ _ (setField (.ref it) 1 (rawInt ((i:Int) + 1)) >>= _) _ _ s
 have vE:(s.heap.update it (Obj.mapFields (·.setIfInBounds 1 (rawInt ((i:Int) + 1))))).IsKeyIter it d (i + 1) es.size ep :=
  ⟨_,dO _ ho (jf (dI hf _)),(kL ..).trans hc,by rw [dI hf]; simp [rawInt]⟩
 refine ao (wpAny_setField ho hf (by simp) (ao (wpAny_holding ?_)))
 refine ao (wpAny_isOneOf_keyiter (s:={ s with heap:=s.heap.update it (Obj.mapFields (·.setIfInBounds 1 (rawInt ((i:Int) + 1)))) }) vE.typeIs (show wpAny _ _ (pure e.key) _ _ _ from ?_))
 exact aH (aH ⟨_,rfl,aH (hQ _ vE (iI ..))⟩)
theorem AW{it:Addr}{Q:Option Value->Shared->Prop}(hh:A.handled=none)(hit:s.heap.IsKeyIter it d es.size es.size ep)(x:g8 s.heap d es ep)
  (hQ:∀ h',Heap.ExtBut it s.heap h'->Q none { s with heap:=h' }):wpAny (model prog w) A (pyNext (.ref it)) Q E s:=by
 have ty:=hit.typeIs
 obtain ⟨o,ho,hc,hf⟩:=hit
 obtain ⟨od,hod,_,rH⟩:=x
 unfold pyNext
 refine ao (wpAny_attempt (wpAny_callSpecial?_slot (name:=Str.ofString "__next__") ty tO (wpAny_call_entry tO ty F.entry_dict_keyiterator_next ?_ (F.args_dict_keyiterator_next_1 _))))
 refine ao (aH (ao (ao ?_)))
 first | refine ao (wpAny_typeNameOfWhole_keyiter ty (aH (ao (wpAny_fieldsOf ho hf ?_)))) | refine ao (wpAny_typeNameOf_keyiter ty (aH (ao (wpAny_fieldsOf ho hf ?_))))
 rw [show Builtin.Dict_items.ownsTuple "dict_keyiterator" = false by decide]
 simp only [bG,if_false]
 show wpAny _ _ (if (Value.ref d == Value.none)=true then _ else _) _ _ s
 rw [if_neg (show ¬ (Value.ref d == Value.none)=true from ic)]
 refine ao (aH (ao (wpAny_dictEntries hod rH ?_)))
 rw [if_neg (by simp)]
 refine ao (aH (ao (wpAny_dictEpoch hod rH ?_)))
 rw [if_neg (by simp)]
 refine aH ?_
 simp only [show ¬ ((es.size:Int) < 0) by omega,if_false,gE,pJ (az es.size)]
 refine ao ?_
 first | refine ao (wpAny_typeNameOfWhole_keyiter ty (aH ?_)) | refine ao (wpAny_typeNameOf_keyiter ty (aH ?_))
 show wpAny _ _ (setField (.ref it) 0 .none >>= _) _ _ s
 refine ao (wpAny_setField ho hf (by simp) (show wpAny _ _ (newExc (.type "StopIteration") [] >>= _) _ _ _ from ao ?_))
 simp only [newExc,newTuple]
 refine ao (wpAny_newObj_type ?_ (by size_fits))
 refine ao (m:=firstArgMember _ _) (wpAny_of_eq (a:=Value.none) (by first | rfl | (simp only [firstArgMember]; rfl)) (wpAny_newObj_type ?_ (by size_fits)))
 simp only [raiseNew]
 refine ao (wpAny_handled ?_)
 rw [show A.in1.handled=none from hh]
 refine ao (aH (wpAny_throw (ao ?_)))
 refine wpAny_isInstance (T := "StopIteration") (b:=true) ⟨_,fR _ rfl,rfl⟩ isSubtype_stop ?_
 exact aH (hQ _ (((iI ..).extBut.push _).push _))
theorem Cy(hh:A.handled=none)(I d:Addr)(hne:d ≠ I)(es:Array DictEntry)(ep:Nat):Walks prog w A I [I,d] [I] es.size (λ i v=>∃ e,es[i]? = some e /\ v=e.key) (λ i h=>h.IsKeyIter I d i es.size ep /\ g8 h d es ep) where
 sub:=λ b hb=>by simp at hb; simp [hb]
 frame:=λ _ _ _ st hk=>⟨st.1.at λ o e=>hk I (by simp) o e,st.2.at' λ o e=>hk d (by simp) o e⟩
 item:=λ i s Q E hi st hQ=>by
  have e1:es[i]? = some es[i]:=d7 hi
  refine vQ st.1 st.2 e1 λ h' h1 h2=>hQ _ h' s.toks ⟨_,e1,rfl⟩ ⟨h1,st.2.at' λ o e=>h2.extBut d o hne e⟩ λ b o hb e=>h2.extBut b o (λ h=>hb (by simp [h])) e
 done:=λ s Q E st hQ=>AW hh st.1 st.2 λ h' h1=>hQ h' s.toks λ b o hb e=>h1 b o (λ h=>hb (by simp [h])) e
 self:=λ _ _ _ _ st hQ=>wpAny_pyIter_keyiter st.1 hQ
theorem AX(lo:(d == sysModules)=false):KdlSrc prog w "dict" d d es.size (λ i v=>∃ e,es[i]? = some e /\ v=e.key) (λ h=>g8 h d es ep) where
 type:=λ _ x=>x.ty
 there:=λ _ x=>⟨let ⟨_,ho,_⟩:=x; aF ho,let ⟨_,ho,_⟩:=x; aF ho⟩
 keep:=λ _ _ x hk=>x.at' λ o e=>hk d (.inl rfl) o e
 notList:=by decide
 notTuple:=by decide
 hint:=λ _ _ _ _ x hq=>kdl_hint_dict x.ty hq
 iter:=λ _ s hh x=>⟨_,_,(λ _ _ hq=>vP lo x hq),Cy hh _ d (let ⟨_,ho,_⟩:=x; aT (aF ho)) es ep,⟨⟨_,fR _ rfl,rfl,rfl⟩,x.at' λ o e=>cB _ e⟩⟩
theorem Ft{ep:Nat}{R:Result->Shared->Prop}(hh:A.handled=none)(lo:(d == sysModules)=false)(x:g8 s.heap d es ep)(hz:es.size <= sizeLine)
  (hR:∀ h' tk acc c,(∀ b o,s.heap.get? b=some o->h'.get? b=some o)->h'.get? s.heap.objs.size=some { cls:=.type "list", dict:=none,data:=.seq acc c,slots:=#[] } -> ItemsOf (λ i v=>∃ e,es[i]? = some e /\ v=e.key) acc es.size->R (.ok (.ret (.ref s.heap.objs.size))) { s with heap:=h',toks:=tk }):
  codeAny (model prog w) A (.builtin "proto.collect" ⟨[.ref d],[]⟩) R s:=by
 refine codeAny_builtin F.entry_proto_collect ?_
 rw [fz F.plain_proto_collect]
 have hlt:d < s.heap.objs.size:=let ⟨_,ho,_⟩:=x; aF ho
 refine ao (m:=newList []) (wpAny_newObj_type (aH ⟨plainId_quiet F.plain_list_iadd _,codeAny_builtin F.entry_list_iadd ?_⟩))
 rw [fz F.plain_list_iadd]
 show wpAny _ A.in1 (Builtin.List.listExtendWith (.ref s.heap.objs.size) (.ref d) (.ref s.heap.objs.size)) _ _ _
 exact kdl_extend (s:={ s with heap:=s.heap.push { cls:=.type "list", data:=.seq ([]:List Value).toArray } }) (R:=R) (AX lo) hh (x.at' λ o e=>cB _ e) s.heap.objs.size (jE hlt) (jE hlt) _ 0 (fR _ rfl) (λ h' tk acc c hk hS hacc=>hR h' tk acc c (λ b o e=>hk b o (aT (aF e)) (cB _ e)) hS hacc) hz
theorem vR{ep:Nat}{Q:List Value->Shared->Prop}(hh:A.handled=none)(lo:(d == sysModules)=false)(x:g8 s.heap d es ep)(hz:es.size <= sizeLine)
  (hQ:∀ h' tk acc,(∀ b o,s.heap.get? b=some o->h'.get? b=some o)->s.heap.objs.size < h'.objs.size->ItemsOf (λ i v=>∃ e,es[i]? = some e /\ v=e.key) acc es.size->Q acc.toList { s with heap:=h',toks:=tk }):wpAny (model prog w) A (collect (.ref d)) Q E s:=by
 unfold collect
 refine ao (wpAny_runValue (Ft hh lo x hz λ h' tk acc c hk hS hacc=>?_))
 refine ao (m:=load s.heap.objs.size) (wpAny_load hS (aH (hQ h' tk acc hk (aF hS) hacc)))
end
abbrev fL(h:Heap):List Value->List (Int × Int)->Prop:=Paired λ v p=>∃ x o n t u,v=.ref x /\ h.get? x=some o /\ o.cls=.type "tuple" /\ o.data=.seq #[.int p.1 t,.int p.2 u] n
def rk(p:Int × Int):Int:=p.1 * 1000 + p.2
theorem SS{a b c d:Int}(h1:0 <= b /\ b < 1000)(h2:0 <= d /\ d < 1000):decide (rk (a,b) < rk (c,d))=if a=c then decide (b < d) else decide (a < c):=by
 unfold rk
 dsimp only
 split
 ·rw [decide_eq_decide]; omega
 ·rw [decide_eq_decide]; omega
theorem Fv{p q:Int × Int}(h1:0 <= p.2 /\ p.2 < 1000)(h2:0 <= q.2 /\ q.2 < 1000)(e:rk p=rk q):p=q:=by
 obtain ⟨a,b⟩:=p
 obtain ⟨c,d⟩:=q
 unfold rk at e
 dsimp only at *
 have e1:a=c:=by omega
 have e2:b=d:=by omega
 rw [e1,e2]
section
variable {prog:Program}{w:World}{A:Around}{E:Value->Shared->Prop}{s:Shared}
theorem Jw{x y:Addr}{ox oy:Obj}{n k:Nat}{a b c d:Int}{t1 t2 t3 t4:Tok}{Q:Bool->Shared->Prop}(hx:s.heap.get? x=some ox)(dx:ox.data=.seq #[.int a t1,.int b t2] n)(hy:s.heap.get? y=some oy)(dy:oy.data=.seq #[.int c t3,.int d t4] k)
  (h:Q (if a=c then decide (b < d) else decide (a < c)) s):wpAny (model prog w) A (keyLt' (tuples' true) (.ref x) (.ref y)) Q E s:=by
 refine kat_lt hx dx hy dy (kat_cons (wpAny_eqBool_int ?_))
 by_cases e:a=c
 ·rw [if_pos e] at h
  rw [show (a == c)=true by simpa using e]
  refine kat_yes (kat_cons (wpAny_eqBool_int ?_))
  by_cases e2:b=d
  ·rw [show (b == d)=true by simpa using e2]
   rw [decide_eq_false (by omega)] at h
   exact kat_yes (kat_nil h)
  ·rw [show (b == d)=false by simpa using e2]
   exact kat_no (kat_one _ _ (PyProof.Rows.lt_int h))
 ·rw [if_neg e] at h
  rw [show (a == c)=false by simpa using e]
  exact kat_no (oneLt_int h)
theorem AY{h:Heap}:∀ {vs:List Value} {ps:List (Int × Int)},fL h vs ps->∃ fs:List Value,KatTups h vs fs /\ fs.length=ps.length /\ ∀ v∈fs,∃ i t,v=Value.int i t
 | _,_,.nil=>⟨[],.nil,rfl,λ v hv=>nomatch hv⟩
 | _,_,.cons ⟨x,o,n,t,u,e,h1,h2,h3⟩ r=>by
  obtain ⟨fs,a1,a2,a3⟩:=AY r
  subst e
  refine ⟨_ :: fs,KatTups.cons h1 h2 h3 rfl a1,by simp [a2],λ v hv=>?_⟩
  rcases aJ.mp hv with e | hv
  ·exact ⟨_,_,e⟩
  ·exact a3 v hv
theorem zp{h:Heap}:∀ {vs:List Value} {ps:List (Int × Int)} (_:fL h vs ps) {i:Nat} (_:i < ps.length),∃ x o n t u,vs.getD i Value.none=.ref x /\ h.get? x=some o /\ o.data=.seq #[.int (ps.getD i (0,0)).1 t,.int (ps.getD i (0,0)).2 u] n
 | _,_,.cons ⟨x,o,n,t,u,e,h1,h2,h3⟩ r,0,_=>⟨x,o,n,t,u,e,h1,h3⟩
 | _,_,.cons _ r,i + 1,hi=>by
  obtain ⟨x,o,n,t,u,h⟩:=zp r (i:=i) (by simpa using hi)
  exact ⟨x,o,n,t,u,by simpa using h⟩
theorem fL.keep{h h':Heap}{vs:List Value}(x:fL h vs ps)(k:∀ b o,o.cls=.type "tuple" -> h.get? b=some o->h'.get? b=some o):fL h' vs ps:=L2.Paired.BY x λ v p ⟨x,o,n,t,u,e,h1,h2,h3⟩=>⟨x,o,n,t,u,e,k _ _ h2 h1,h2,h3⟩
theorem AZ:∀ {vs:List Value},vs.length < 2->(vs.toArray.zip vs.toArray).map (·.2)=List.toArray ((List.toArray (List.range vs.length)).toList.map λ i=>vs.getD i Value.none)
 | [],_=>by simp
 | [v],_=>by simp [List.range_succ]
 | _ :: _ :: _,h=>by simp only [dR] at h; omega
set_option maxHeartbeats 1000000 in
theorem om{a:Addr}{vs:List Value}{P:PySem.Fin->Shared->Prop}(ho:s.heap.get? a=some (seqObj "list" vs.toArray n))(hP:fL s.heap vs ps)(hb:∀ p∈ps,0 <= p.2 /\ p.2 < 1000)(nd:ps.Nodup)(h64:ps.length < 64)
  (h:∀ q:Array Nat,Pl ps.length q->(∀ i j,i < j->j < ps.length->rk (ps.getD (q.getD i 0) (0,0)) < rk (ps.getD (q.getD j 0) (0,0)))->P (.done (.ret .none)) { s with heap:=sortedHeap s.heap a vs (List.toArray (q.toList.map λ i=>vs.getD i Value.none)) }):
  wpAny (model prog w) A (Builtin.«list.sort» ⟨[.ref a],[]⟩) P E s:=by
 have hlen:vs.length=ps.length:=hP.length
 have ha:a < s.heap.objs.size:=aF ho
 obtain ⟨e1,OB⟩:∃ e1,(s.heap.update a (Obj.mapSeq λ _=>#[])).get? a=some (seqObj "list" #[] e1):=⟨_,get?_update_seq ho (λ _=>#[])⟩
 have kp:∀ b o,b ≠ a->s.heap.get? b=some o->(((s.heap.update a (Obj.mapSeq λ _=>#[])).push (seqObj "tuple" vs.toArray 0)).push (seqObj "list" #[] 0)).get? b=some o:=λ b o hba e=>cB _ (cB _ ((dN _ _ _ _ hba).trans e))
 have ho6:(((s.heap.update a (Obj.mapSeq λ _=>#[])).push (seqObj "tuple" vs.toArray 0)).push (seqObj "list" #[] 0)).get? a=some (seqObj "list" #[] e1):=cB _ (cB _ OB)
 rw [list_sort_plain]
 refine ao (listItems_at ho rfl (ao (listUpdate_at ho rfl ?_ (by rw [aV,sizeLine_eq]; omega) (aQ _))))
 refine ao (seqEpoch_at OB rfl (ao (wpAny_newTuple ?_ (by show vs.length <= _; rw [sizeLine_eq]; omega))))
 refine ao (wpAny_newList (wpAny_holding ?_) (aQ _))
 show wpAny (model prog w) A _ P E { s with heap:=((s.heap.update a (Obj.mapSeq λ _=>#[])).push (seqObj "tuple" vs.toArray 0)).push (seqObj "list" #[] 0) }
 have PG:fL (((s.heap.update a (Obj.mapSeq λ _=>#[])).push (seqObj "tuple" vs.toArray 0)).push (seqObj "list" #[] 0)) vs ps:=hP.keep λ b o hc e=>kp b o (λ z=>by subst z; rw [ho] at e; cases e; exact absurd (show Value.type "list" = .type "tuple" from hc) (by decide)) e
 have uh:∀ out,((((s.heap.update a (Obj.mapSeq λ _=>#[])).push (seqObj "tuple" vs.toArray 0)).push (seqObj "list" #[] 0))).update a (Obj.mapSeq λ _=>out)=sortedHeap s.heap a vs out:=λ _=>rfl
 generalize (((s.heap.update a (Obj.mapSeq λ _=>#[])).push (seqObj "tuple" vs.toArray 0)).push (seqObj "list" #[] 0))=G at *
 dsimp only
 have fin:∀ q:Array Nat,Pl ps.length q->Up (λ i=>rk (ps.getD i (0,0))) q ps.length->P (.done (.ret .none)) { s with heap:=G.update a (Obj.mapSeq λ _=>List.toArray (q.toList.map λ i=>vs.getD i Value.none)) }:=λ q hq u=>by
  rw [uh]
  exact h q hq u
 by_cases h2:vs.toArray.size < 2
 ·rw [if_pos h2,if_pos h2]
  refine ao (aH ?_)
  rw [StateT.run_pure]
  refine ao (aH (ao (seqEpoch_at ho6 rfl (ao (listUpdate_at ho6 rfl ?_ (aQ _) ?_)))))
  ·simp only [bne_self_eq_false,bG,if_false]
   have:=fin (List.toArray (List.range ps.length)) (Pl.start _) (λ i j hij hj=>by rw [aV] at h2; omega)
   have e:(arrOf (SortSt.mk' general' (vs.toArray.zip vs.toArray) #[] 7 none)).map (·.2)=List.toArray ((List.toArray (List.range ps.length)).toList.map λ i=>vs.getD i Value.none):=by
    rw [<- hlen]
    exact AZ (by rw [aV] at h2; exact h2)
   rw [e]
   exact aH this
  ·show ((vs.toArray.zip vs.toArray).map _).size <= _
   rw [Array.size_map,Array.size_zip,aV,sizeLine_eq]
   omega
 ·have h2':2 <= vs.length:=by rw [aV] at h2; omega
  rw [if_neg h2,if_neg h2]
  obtain ⟨fs,k1,k2,k3⟩:=AY PG
  refine ao (kat_kind (T:=.type "int") k1 (by omega) (λ v hv=>by obtain ⟨i,t,rfl⟩:=k3 v hv; exact Looks.of_pure rfl) rfl ?_)
  have kd:((Value.type "int") != (Value.type "tuple"))=true:=by decide
  rw [kd]
  refine ao (wpAny_mono (kat_run (prog:=prog) (w:=w) (A:=A) (κ:=tuples' true) (vs:=vs) (ks:=vs) (Q:=λ st' s'=>s'={ s with heap:=G } /\ failedOf st'=none /\ ∃ q,Pl ps.length q /\ Up (λ i=>rk (ps.getD i (0,0))) q ps.length /\ (arrOf st').map (·.2)=List.toArray (q.toList.map λ i=>vs.getD i Value.none))
   (G:=λ q s'=>s'={ s with heap:=G } /\ Pl ps.length q /\ Up (λ i=>rk (ps.getD i (0,0))) q ps.length) rfl h2' (by omega) (λ q st' s' _ har hf hg=>⟨hg.1,hf,q,hg.2.1,hg.2.2,kat_snds rfl har⟩) ?_) ?_ λ _ _ e=>e)
  ·rw [hlen]
   refine AV (r:=λ i=>rk (ps.getD i (0,0))) (λ i j hi hj C hC=>?_) (λ i j hi hj e=>?_) (by omega) λ q hq u=>⟨rfl,hq,u⟩
   ·obtain ⟨x,ox,n1,t1,u1,ex,gx,dx⟩:=zp PG hi
    obtain ⟨y,oy,n2,t2,u2,ey,gy,dy⟩:=zp PG hj
    show wpAny (model prog w) A (keyLt' (tuples' true) (vs.getD i Value.none) (vs.getD j Value.none)) C _ _
    rw [ex,ey]
    refine Jw (s:={ s with heap:=G }) gx dx gy dy ?_
    have mi:ps.getD i (0,0)∈ps:=by rw [ki,dJ hi]; exact gn hi
    have mj:ps.getD j (0,0)∈ps:=by rw [ki,dJ hj]; exact gn hj
    rw [<- SS (hb _ mi) (hb _ mj)]
    exact hC
   ·have mi:ps.getD i (0,0)∈ps:=by rw [ki,dJ hi]; exact gn hi
    have mj:ps.getD j (0,0)∈ps:=by rw [ki,dJ hj]; exact gn hj
    have e2:=Fv (hb _ mi) (hb _ mj) e
    rw [ki,dJ hi,ki,dJ hj] at e2
    exact (pP nd).mp e2
  ·rintro ⟨⟨⟩,st'⟩ s' ⟨rfl,hf,q,hq,u,eo⟩
   dsimp only
   refine ao (seqEpoch_at ho6 rfl (ao (listUpdate_at ho6 rfl ?_ (aQ _) ?_)))
   ·rw [hf]
    simp only [bne_self_eq_false,bG,if_false]
    rw [eo]
    exact aH (fin q hq u)
   ·rw [eo,aV,au,cC,hq.sz,sizeLine_eq]
    omega
theorem zq{ep:Nat}{Q:Value->Shared->Prop}(hh:A.handled=none)(lo:(d == sysModules)=false)(x:g8 s.heap d es ep)(hP:fL s.heap (es.toList.map (·.key)) ps)(hb:∀ p∈ps,0 <= p.2 /\ p.2 < 1000)(nd:ps.Nodup)(h64:ps.length < 64)
  (h:∀ (p:Addr) (h':Heap) (tk c:Nat) (q:Array Nat),s.heap.objs.size <= p->(∀ b x,s.heap.get? b=some x->h'.get? b=some x)->h'.get? p=some { cls:=.type "list", data:=.seq (List.toArray (q.toList.map λ i=>(es.toList.map (·.key)).getD i Value.none)) c } -> Pl ps.length q->(∀ i j,i < j->j < ps.length->rk (ps.getD (q.getD i 0) (0,0)) < rk (ps.getD (q.getD j 0) (0,0)))->Q (.ref p) { s with heap:=h',toks:=tk }):
  wpAny (model prog w) A (call (.builtin "sorted") [.ref d]) Q E s:=by
 have hes:es.size=ps.length:=by have:=hP.length; rw [au,cC] at this; exact this
 refine pL kind_sorted plain_sorted entry_sorted (args_sorted1 _) ?_
 unfold Builtin.«sorted»
 refine ao (m:=checkCount "sorted" 1 1 _) (aH (ao (vR (by simp [hh]) lo x (by rw [hes,sizeLine_eq]; omega) ?_)))
 intro h1 SQ acc k1 uu items
 have OC:acc.toList=es.toList.map (·.key):=by
  apply List.ext_getElem?
  intro i
  rcases cH i es.size with hi | hi
  ·have hi':i < acc.size:=by rw [items.1]; exact hi
   obtain ⟨e,he,ee⟩:=items.2 i acc[i] (d7 hi')
   rw [d8,d7 hi',aY,d8,he,ee]
   rfl
  ·rw [ja (by rw [cC,items.1]; exact hi),ja (by rw [au,cC]; exact hi)]
 rw [OC]
 have hvl:(es.toList.map (·.key)).length=ps.length:=hP.length
 have Xq:fL h1 (es.toList.map (·.key)) ps:=hP.keep λ b o _ e=>k1 b o e
 generalize es.toList.map (·.key)=vs at *
 refine ao (wpAny_newList ?_ (by rw [hvl,sizeLine_eq]; omega))
 have gN:(h1.push (seqObj "list" vs.toArray 0)).get? h1.objs.size=some (seqObj "list" vs.toArray 0):=fR _ rfl
 refine ao (wpAny_holding (wpAny_call_entry slot_list_sort ⟨_,gN,rfl⟩ entry_list_sort (om gN (Xq.keep λ b o _ e=>cB _ e) hb nd h64 λ q hq u=>⟨_,rfl,?_⟩) (args_list_sort _)))
 obtain ⟨c,hc⟩:=sortedHeap_at (h:=h1.push (seqObj "list" vs.toArray 0)) (a:=h1.objs.size) (vs:=vs) (n:=0) (out:=List.toArray (q.toList.map λ i=>vs.getD i Value.none)) gN
 refine aH ⟨_,rfl,h h1.objs.size _ SQ c q (gK uu) (λ b x e=>?_) hc hq u⟩
 have hb:=aF (k1 b x e)
 rw [sortedHeap_old (aT hb) (by rw [size_push']; exact je hb)]
 exact cB _ (k1 b x e)
end
end SN
namespace L2
open PySem PySem.Spec PyProof.Rows
variable {p q:Int × Int}{a b r:Addr}{n:Nat}{t u:Tok}{K:aA}{ps:List (Int × Int)}
abbrev eX(H:Hp):List V->List (Int × Int)->Prop:=Paired λ v p=>∃ a,v=.ref a /\ H a=some (.tup [.int p.1,.int p.2])
theorem iV{α β:Type}{F:α->β->Prop}:∀ {l₁:List α} {l₂:List β},Paired F l₁ l₂->∀ {i:Nat} {x:α},l₁[i]? = some x->∃ y,l₂[i]? = some y /\ F x y
 | _,_,.cons (b:=b) h _,0,x,e=>⟨b,rfl,by simp only [List.getElem?_cons_zero,Option.some.injEq] at e; rw [<- e]; exact h⟩
 | _,_,.cons _ t,i + 1,x,e=>by simpa using iV t (i:=i) (x:=x) (by simpa using e)
def rJ(p:Int × Int):List Key:=[.inl p.1,.inl p.2]
theorem Jx(e:rJ p=rJ q):p=q:=by
 obtain ⟨a,b⟩:=p
 obtain ⟨c,d⟩:=q
 unfold rJ at e
 dsimp only at e
 injection e with e1 e2
 injection e1 with e1
 injection e2 with e2 _
 injection e2 with e2
 rw [e1,e2]
section
variable {X:Cx}{pins:List (Addr × Obj)}{σ:St}{H:Hp}{s:Shared}{Q:VK}
theorem Inv.pair(I:Inv X pins σ H s)(h:H a=some (.tup [.int p.1,.int p.2])):∃ o n t u,s.heap.get? a=some o /\ o.cls=.type "tuple" /\ o.data=.seq #[.int p.1 t,.int p.2 u] n:=by
 obtain ⟨_,its,r,o,h1,h2,n,h3⟩:=(show cG X.prog X.w H s.heap a (.tup [.int p.1,.int p.2]) from I.hok a _ h)
 cases r with
 | cons r1 r =>
  cases r with
  | cons r2 r =>
   cases r
   obtain ⟨t,rfl⟩:=r1
   obtain ⟨u,rfl⟩:=r2
   exact ⟨o,n,t,u,h1,h2,h3⟩
def Ie(h:Heap)(p:Int × Int):Value->Bool
 | .ref a=>match h.get? a with
  | some o=>match o.data with
   | .seq its _=>match its.toList with
    | [.int i _,.int j _]=>decide ((i,j)=p)
    | _=>false
   | _=>false
  | none=>false
 | _=>false
theorem Fw{h:Heap}{o:Obj}(e:h.get? a=some o)(d:o.data=.seq #[.int p.1 t,.int p.2 u] n):Ie h q (.ref a)=decide (p=q):=by
 unfold Ie
 dsimp only
 rw [e]
 dsimp only
 rw [d]
theorem Cz{A:Around}{oa ob:Obj}{n m:Nat}{t1 t2 u1 u2:Tok}(ea:s.heap.get? a=some oa)(ca:oa.cls=.type "tuple")(da:oa.data=.seq #[.int p.1 t1,.int p.2 t2] n)(eb:s.heap.get? b=some ob)(cb:ob.cls=.type "tuple")(db:ob.data=.seq #[.int q.1 u1,.int q.2 u2] m)(hu:A.units + 1 < cLine):
  SeqAt.EqAt A s (.ref a) (.ref b) (decide (p=q)):=by
 have ra:Reads s.heap (.ref a) (.tuple [.int p.1,.int p.2]) _:=.tuple ea ca da (by simpa using ReadsAll.cons (.int p.1 t1) (.cons (.int p.2 t2) .nil))
 have rb:Reads s.heap (.ref b) (.tuple [.int q.1,.int q.2]) _:=.tuple eb cb db (by simpa using ReadsAll.cons (.int q.1 u1) (.cons (.int q.2 u2) .nil))
 have e:PyData.eqv (.tuple [.int p.1,.int p.2]) (.tuple [.int q.1,.int q.2])=decide (p=q):=by
  obtain ⟨a,b⟩:=p
  obtain ⟨c,d⟩:=q
  show ((a == c) && ((b == d) && true))=_
  by_cases h1:a=c
  ·by_cases h2:b=d
   ·subst h1 h2; simp
   ·simp [h2]
  ·simp [h1]
 rw [<- e]
 exact SeqAt.eqAt_reads _ _ A s _ _ _ _ ra rb rfl rfl hu
theorem uv(I:Inv X pins σ H s)(q:Int × Int):∀ {xs:List V} {ps:List (Int × Int)} {us:List Value},eX H xs ps->Vals xs us->us.any (Ie s.heap q)=decide (q∈ps)
 | _,_,_,.nil,.nil=>by simp
 | _,_,_,.cons (b:=p) (l₂:=ps) ⟨a,e,h⟩ r,.cons rv rs=>by
  subst e
  cases rv
  obtain ⟨o,n,t,u,h1,h2,h3⟩:=I.pair h
  rw [gF,Fw h1 h3,uv I q r rs]
  by_cases e:p=q
  ·simp [e]
  ·have e':¬ q=p:=λ z=>e z.symm
   simp [e,e']
theorem zu(I:Inv X pins σ H s){A:Around}(hu:A.units + 1 < cLine){b:Addr}{q:Int × Int}(hb:H b=some (.tup [.int q.1,.int q.2])):∀ {xs:List V} {ps:List (Int × Int)} {us:List Value},eX H xs ps->Vals xs us->∀ u∈us,SeqAt.EqAt A s u (.ref b) (Ie s.heap q u)
 | _,_,_,.nil,.nil=>λ u hu=>nomatch hu
 | _,_,_,.cons ⟨a,e,h⟩ r,.cons rv rs=>λ u hm=>by
  rcases aJ.mp hm with z | z
  ·subst z e
   cases rv
   obtain ⟨o,n,t,u,h1,h2,h3⟩:=I.pair h
   obtain ⟨o',n',t',u',h1',h2',h3'⟩:=I.pair hb
   rw [Fw h1 h3]
   exact Cz h1 h2 h3 h1' h2' h3' hu
  ·exact zu I hu hb r rs u z
def CA(K:aA)(neg:Bool):R2:=λ x y H Q=>∃ (b l:Addr) (q:Int × Int) (xs:List V) (ps:List (Int × Int)),x=.ref b /\ y=.ref l /\ H b=some (.tup [.int q.1,.int q.2]) /\ bD K H l xs /\ eX H xs ps /\ Q (.bl (if neg then !decide (q∈ps) else decide (q∈ps))) H
theorem uw(hu:X.A.units + 64 < cLine):ju X (compareOp .In) (CA X.K false):=by
 intro pins s σ H x y v u Q I rx ry h
 obtain ⟨b,l,q,xs,ps,rfl,rfl,hb,hl,hp,k⟩:=h
 cases rx
 cases ry
 obtain ⟨its,r,pl,hz⟩:=I.list hl
 refine SeqAt.in_listAt (Ie s.heap q) pl.isList (λ w hw=>zu I (by show X.A.units + 1 + 1 < cLine; omega) hb hp r w (by simpa using hw)) ⟨.bl _,H,I,rfl,?_⟩
 rw [show its.toArray.any (Ie s.heap q)=its.any (Ie s.heap q) by simp,uv I q hp r]
 exact k
theorem CB(hu:X.A.units + 64 < cLine):ju X (compareOp .NotIn) (CA X.K true):=by
 intro pins s σ H x y v u Q I rx ry h
 obtain ⟨b,l,q,xs,ps,rfl,rfl,hb,hl,hp,k⟩:=h
 cases rx
 cases ry
 obtain ⟨its,r,pl,hz⟩:=I.list hl
 refine SeqAt.notIn_listAt (Ie s.heap q) pl.isList (λ w hw=>zu I (by show X.A.units + 1 + 1 < cLine; omega) hb hp r w (by simpa using hw)) ⟨.bl _,H,I,rfl,?_⟩
 rw [show its.toArray.any (Ie s.heap q)=its.any (Ie s.heap q) by simp,uv I q hp r]
 exact k
theorem A0(e:X.K=K)(hu:X.A.units + 64 < cLine):ju X (compareOp .In) (CA K false):=e ▸ uw hu
theorem zv(e:X.K=K)(hu:X.A.units + 64 < cLine):ju X (compareOp .NotIn) (CA K true):=e ▸ CB hu
def Fx:List V->Hp->VK->Prop:=λ xs H Q=>∃ (d:Addr) (ps:List (Int × Int)) (f:Int × Int->V),xs=[.ref d] /\ H d=some (.dT (ps.map λ p=>(rJ p,f p))) /\ (∀ p∈ps,0 <= p.2 /\ p.2 < 1000) /\ ps.length < 64 /\
 ∀ l us qs H',eE H l (.lst us) H'->eX H us qs->qs.Perm ps->qs.Pairwise (λ p q=>SN.rk p < SN.rk q)->Q (.ref l) H'
theorem range_getD{α:Type}(d:α):∀ xs:List α,(List.range xs.length).map (λ i=>xs.getD i d)=xs:=λ xs=>by
 apply List.ext_getElem?
 intro i
 rw [aY]
 rcases cH i xs.length with h | h
 ·rw [List.getElem?_range h]; simp [h]
 ·rw [ja (by simpa using h),ja h]; rfl
theorem zw(hc:X.calm=true):cO X (.builtin "sorted") Fx:=by
 intro pins s σ H xs us Q I r h
 obtain ⟨d,ps,f,rfl,hd,hb,h64,k⟩:=h
 obtain ⟨u,rfl,ru⟩:=vals1 r
 cases ru
 obtain ⟨z,lo,ys,rel,o,es,ep,h1,h2,h3,h4,h5⟩:=(show cG X.prog X.w H s.heap d (.dT (ps.map λ p=>(rJ p,f p))) from I.hok d _ hd)
 have hkeys:es.toList.map (·.key)=(ys.map (·.2.1)).map Value.ref:=by
  rw [h4,fY,fY]
  rfl
 have hat:∀ {ps:List (Int × Int)} {ys:List (List Key × Addr × Value)},Paired (λ (p:List Key × V) (q:List Key × Addr × Value)=>p.1=q.1 /\ H q.2.1=some (.tup (p.1.map kV)) /\ RelV p.2 q.2.2) (ps.map λ p=>(rJ p,f p)) ys->Paired (λ (a:Addr) (p:Int × Int)=>H a=some (.tup [.int p.1,.int p.2])) (ys.map (·.2.1)) ps /\ ys.map (·.1)=ps.map rJ:=by
  intro ps
  induction ps with
  | nil=>intro ys r; cases r; exact ⟨.nil,rfl⟩
  | cons p ps ih =>
   intro ys r
   cases r with
   | cons hq t =>
    obtain ⟨a1,a2⟩:=ih t
    exact ⟨.cons hq.2.1 a1,by rw [bO,bO,a2,<- hq.1]⟩
 obtain ⟨OD,Xr⟩:=hat rel
 have nd:ps.Nodup:=by
  rw [Xr] at h5
  exact (gJ.mp h5).imp λ h e=>h (by rw [e])
 have hP:SN.fL s.heap (es.toList.map (·.key)) ps:=by
  rw [hkeys]
  have go:∀ {as:List Addr} {ps:List (Int × Int)},Paired (λ (a:Addr) (p:Int × Int)=>H a=some (.tup [.int p.1,.int p.2])) as ps->SN.fL s.heap (as.map Value.ref) ps:=by
   intro as ps r
   induction r with
   | nil=>exact .nil
   | cons h _ ih =>
    obtain ⟨o,n,t,u,a1,a2,a3⟩:=I.pair h
    exact .cons ⟨_,o,n,t,u,rfl,a1,a2,a3⟩ ih
  exact go OD
 have lM:=OD.length
 refine SN.zq (I.ok.hd hc) lo ⟨o,h1,h2,h3⟩ hP hb nd h64 λ p h' tk c q hle hk ho hq hup=>?_
 rw [hkeys] at ho
 generalize hA:ys.map (·.2.1)=as at *
 have hget:∀ i,i < ps.length->(as.map Value.ref).getD i Value.none=Value.ref (as.getD i 0) /\ H (as.getD i 0)=some (.tup [.int (ps.getD i (0,0)).1,.int (ps.getD i (0,0)).2]):=λ i hi=>by
  have hi':i < as.length:=by omega
  obtain ⟨b,hb1,hb2⟩:=iV OD (i:=i) (x:=as[i]) (dJ hi')
  simp only [ki,aY,dJ hi',hb1,Option.map_some,Option.getD_some]
  exact ⟨trivial,hb2⟩
 have hmem:∀ i∈q.toList,i < ps.length:=λ i hi=>fE.mp (hq.pm.mem_iff.mp hi)
 have Fy:∀ {l:List Nat},(∀ i∈l,i < ps.length)->Vals (l.map λ i=>V.ref (as.getD i 0)) (l.map λ i=>(as.map Value.ref).getD i Value.none) /\ eX H (l.map λ i=>V.ref (as.getD i 0)) (l.map λ i=>ps.getD i (0,0)):=by
  intro l
  induction l with
  | nil=>intro _; exact ⟨.nil,.nil⟩
  | cons i l ih =>
   intro hl
   obtain ⟨a1,a2⟩:=ih λ j hj=>hl j (cV _ hj)
   obtain ⟨b1,b2⟩:=hget i (hl i (by simp))
   rw [bO,bO,bO]
   refine ⟨.cons ?_ a1,.cons ⟨_,rfl,b2⟩ a2⟩
   rw [b1]
   rfl
 obtain ⟨v1,v2⟩:=Fy hmem
 refine ⟨.ref p,_,I.laid (t':=tk) hk hle (o:=.lst (q.toList.map λ i=>V.ref (as.getD i 0))) ⟨?_,_,c,v1,ho⟩,rfl,k p _ (q.toList.map λ i=>ps.getD i (0,0)) _ ⟨I.hok.fresh hle,rfl⟩ v2 ?_ ?_⟩
 ·rw [au,cC,hq.sz,sizeLine_eq]; omega
 ·have:=hq.pm.map λ i=>ps.getD i (0,0)
  rw [range_getD] at this
  exact this
 ·rw [gJ,jd]
  intro i j hi hj hij
  have Xs:q.toList.length=ps.length:=by rw [cC,hq.sz]
  have g1:=hq.get (i:=i) (by omega)
  have g2:=hq.get (i:=j) (by omega)
  rw [dJ hi] at g1
  rw [dJ hj] at g2
  rw [Option.some.inj g1,Option.some.inj g2]
  exact hup i j hij (by omega)
end
section
variable {K:aA}{nx bk ct:St->Hp->Prop}{rt:VK}{σ:St}{H:Hp}{Q:VK}
theorem vS{l:Addr}{xs:List V}(hb:H b=some (.tup [.int q.1,.int q.2]))(hl:bD K H l xs)(hp:eX H xs ps)(h:Q (.bl (decide (q∈ps))) H):CA K false (.ref b) (.ref l) H Q:=⟨b,l,q,xs,ps,rfl,rfl,hb,hl,hp,h⟩
theorem Fz{l:Addr}{xs:List V}(hb:H b=some (.tup [.int q.1,.int q.2]))(hl:bD K H l xs)(hp:eX H xs ps)(h:Q (.bl (!decide (q∈ps))) H):CA K true (.ref b) (.ref l) H Q:=⟨b,l,q,xs,ps,rfl,rfl,hb,hl,hp,h⟩
theorem Jy{d:Addr}{f:Int × Int->V}(hd:H d=some (.dT (ps.map λ p=>(rJ p,f p))))(hb:∀ p∈ps,0 <= p.2 /\ p.2 < 1000)(h64:ps.length < 64)
  (h:∀ l us qs H',eE H l (.lst us) H'->eX H us qs->qs.Perm ps->qs.Pairwise (λ p q=>SN.rk p < SN.rk q)->Q (.ref l) H'):Fx [.ref d] H Q:=⟨d,ps,f,rfl,hd,hb,h64,h⟩
theorem Jz(h:∀ p H',eE H p (.dT []) H'->Q (.ref p) H'):Ez σ H Q:=λ p hp=>h p _ ⟨hp,rfl⟩
theorem SV{kvs:List (List Key × V)}{k:List Key}{v:V}{R:Hp->Prop}(hd:H a=some (.dT kvs))(hb:H b=some (.tup (k.map kV)))(hz:kvs.length <= 1000000)(h:∀ H',kh H a (.dT (putK kvs k v)) H'->R H'):Xl v (.ref a) (.ref b) H R :=
 ⟨a,_,rfl,vo.t hd hb (by rw [sizeLine_eq]; omega),h _ rfl⟩
theorem OE{kvs:List (Key × V)}{i:Int}(hd:H a=some (.dK kvs))(h:Q (.bl (!(iT kvs (.inl i)).isSome)) H):SE (.int i) (.ref a) H Q:=⟨a,_,rfl,.inl ⟨kvs,.inl i,.inl hd,rfl,rfl⟩,h⟩
end
section
variable {X:Cx}{K:aA}{w:World}
end
section
variable {prog:Program}{w:World}{A:Around}{E:Value->Shared->Prop}{s:Shared}
theorem zx:isSubtype (.type "range_iterator") (.type "reversed")=pure false:=by rw [isSubtype_type]; kernel_rfl
theorem qm{b:Int}{v:Tok}{Q:Value->Shared->Prop}(hr:IsRange s.heap r 0 b 1 t u v)(h0:0 <= b)(h1:b < 2 ^ 62)
  (h:Q (.ref s.heap.objs.size) { s with heap:=s.heap.push { cls:=.type "range_iterator", data:=.fields #[rawInt (b - 1),rawInt b,rawInt (-1)] } }):wpAny (model prog w) A (call (.builtin "range.__reversed__") [.ref r]) Q E s:=by
 have ty:s.TypeIs (.ref r) "range" := ⟨_,hr,rfl⟩
 refine wpAny_call_entry PySem.F.slot_range_reversed ty PySem.F.entry_range_reversed ?_ (PySem.F.args_range_reversed_1 _)
 unfold Builtin.«range.__reversed__»
 refine ao (wpAny_of_eq (a:=Value.ref r) rfl ?_)
 unfold Builtin.Range.rangeFields
 refine ao (ao (wpAny_field hr rfl (x:=.int 0 t) rfl ?_))
 refine ao (m:=asInt? (.int 0 t)) (wpAny_of_eq (a:=some 0) rfl ?_)
 refine ao (wpAny_field hr rfl (x:=.int b u) rfl ?_)
 refine ao (m:=asInt? (.int b u)) (wpAny_of_eq (a:=some b) rfl ?_)
 refine ao (wpAny_field hr rfl (x:=.int 1 v) rfl ?_)
 refine ao (m:=asInt? (.int 1 v)) (wpAny_of_eq (a:=some 1) rfl ?_)
 refine aH ?_
 have ez:Builtin.Range.rangeSize 0 b 1=b:=by rw [rangeSize_one]; split <;> omega
 dsimp only
 rw [ez]
 have sm:(Builtin.Range.rangeFitsLong 0 && Builtin.Range.rangeFitsLong b && Builtin.Range.rangeFitsLong 1 && Builtin.Range.rangeFitsLong (-1) && Builtin.Range.rangeFitsLong (0 - 1) && Builtin.Range.rangeFitsLong b)=true:=by
  simp only [Builtin.Range.rangeFitsLong,nU,decide_eq_true_eq]
  omega
 rw [sm]
 have e1:(0:Int) + (b - 1) * 1=b - 1:=by omega
 rw [e1]
 exact ao (wpAny_newObj_type (aH ⟨_,rfl,h⟩))
theorem qo{b:Int}{v:Tok}{Q₁:Value->Shared->Prop}(hr:IsRange s.heap r 0 b 1 t u v)(h0:0 <= b)(h1:b < 2 ^ 62)
  (h:Q₁ (.ref s.heap.objs.size) { s with heap:=s.heap.push { cls:=.type "range_iterator", data:=.fields #[rawInt (b - 1),rawInt b,rawInt (-1)] } }):
  codeAny (model prog w) A (.call (.builtin "reversed.__new__") ⟨[.type "reversed", .ref r],[]⟩) (wants Q₁ E) s:=by
 have ty:s.TypeIs (.ref r) "range" := ⟨_,hr,rfl⟩
 refine codeAny_of_tree ?_
 show wpAny _ A.in1 (do checkBuiltinCall "reversed.__new__" ⟨[.type "reversed", .ref r],[]⟩; again (.builtin "reversed.__new__" ⟨[.type "reversed", .ref r],[]⟩)) _ _ s
 refine ao (wpAny_of_eq (F.newCall_reversed_1 _) (aH ⟨plainId_quiet F.plain_reversed_new _,codeAny_builtin F.entry_reversed_new ?_⟩))
 rw [fz F.plain_reversed_new _]
 unfold Builtin.«reversed.__new__»
 refine ao (wpAny_of_eq (newClass_reversed _) ?_)
 try dsimp only
 refine ao (wpAny_of_eq (a:=()) (by first | rfl | kernel_rfl) ?_)
 refine ao (wpAny_of_eq (a:=()) (by first | rfl | kernel_rfl) ?_)
 try dsimp only
 refine ao (wpAny_specialOf ty PySem.F.slot_range_reversed.lookup ?_)
 try dsimp only
 refine ao (wpAny_of_eq (PySem.F.slot_range_reversed.bind _) ?_)
 try dsimp only
 first
 | rw [if_neg (show ¬ ((Value.builtin "range.__reversed__" == Value.none)=true) from ic)]
 | (show wpAny _ _ (if (Value.builtin "range.__reversed__" == Value.none)=true then _ else _) _ _ _; rw [if_neg (show ¬ ((Value.builtin "range.__reversed__" == Value.none)=true) from ic)])
 refine ao (wpAny_rule ?_)
 refine ao (m:=runValue (.call (.builtin "range.__reversed__") ⟨[.ref r],[]⟩)) (show wpAny _ _ (call (.builtin "range.__reversed__") [.ref r]) _ _ _ from qm hr h0 h1 ?_)
 first
 | exact aH h
 | exact ao (aH (aH h))
theorem qp{b:Int}{v:Tok}{Q:Value->Shared->Prop}(hr:IsRange s.heap r 0 b 1 t u v)(h0:0 <= b)(h1:b < 2 ^ 62)
  (h:Q (.ref s.heap.objs.size) { s with heap:=s.heap.push { cls:=.type "range_iterator", data:=.fields #[rawInt (b - 1),rawInt b,rawInt (-1)] } }):wpAny (model prog w) A (call (.type "reversed") [.ref r]) Q E s:=by
 refine callType_other (U := "range_iterator") (Q₁:=λ obj s₁=>obj=.ref s.heap.objs.size /\ s₁={ s with heap:=s.heap.push { cls:=.type "range_iterator", data:=.fields #[rawInt (b - 1),rawInt b,rawInt (-1)] } }) (by decide +kernel) F.create_reversed ⟨_,_,F.mro_reversed⟩ F.made_reversed zx (F.typeCall_reversed_1 _) (qo hr h0 h1 ⟨rfl,rfl⟩) ?_
 rintro obj s₁ ⟨rfl,rfl⟩
 exact ⟨⟨_,fR _ rfl,rfl⟩,h⟩
end
def JA(n:Nat):It:=⟨λ i _=>i < n,λ i H x H'=>H'=H /\ x=.int ((n:Int) - 1 - i),λ i _=>n <= i⟩
theorem vU{P:Program}{w:World}{tg:Expr}(it:Addr)(n:Nat):Turn P w K tg (JA n) [it] it (λ i h=>IsRangeIter h it ((n:Int) - 1 + (i:Nat) * (-1)) ((n:Int) - (i:Nat)) (-1)) where
 mem:=by simp
 obj:=λ i h st b hb=>by
  have e:b=it:=by simpa using hb
  subst e
  exact ⟨_,st,λ v z=>by
   have z':Data.fields _=Data.cell v:=z
   cases z'⟩
 keep:=λ i h h' st k=>k it (by simp) _ st
 item:=by
  intro X hP hw hK hc i pins s σ H E I hf st hg
  subst hP hw hK
  obtain ⟨f0,f1,f2,f3,f4,f5⟩:=hf it (by simp)
  have W:=Walks.range (prog:=X.prog) (w:=X.w) (I.ok.hd hc) it ((n:Int) - 1) (-1) n
  refine W.item i s _ _ hg st λ v h' tk hv st' kk=>?_
  obtain ⟨t,rfl⟩:=hv
  have I1:Inv X pins σ H { s with heap:=h',toks:=tk }:=I.turned (λ b o hb e=>kk b o (by simpa using hb) e) f0 f1 f3 f4 f5
  refine ⟨_,rfl,vd (s:={ s with heap:=h',toks:=tk }) (n := "range_iterator") st' rfl rfl (by decide) ⟨.int ((n:Int) - 1 - i),H,I1,⟨t,?_⟩,⟨rfl,rfl⟩,st',λ b hb=>(hf b hb).1⟩⟩
  rw [show (n:Int) - 1 + (i:Int) * (-1)=(n:Int) - 1 - i by omega]
 done:=by
  intro X hP hw hK hc i pins s σ H E I hf st hg
  subst hP hw hK
  obtain ⟨f0,f1,f2,f3,f4,f5⟩:=hf it (by simp)
  exact wpAny_pyNext_range_end (I.ok.hd hc) st (by have:n <= i:=hg; omega) λ h' eb=>⟨rfl,I.turned (t':=s.toks) (λ b o hb e=>eb b o hb e) f0 f1 f3 f4 f5⟩
 self:=λ _ _ _ _ _ st h=>wpAny_pyIter_rangeiter st h
section
variable {X:Cx}{tg:Expr}
def FA(R:It->Hp->Prop):List V->Hp->Prop:=λ vs H=>∃ n:Nat,vs=[.int n] /\ n <= 100000 /\ R (JA n) H
def LQ(ta:TA):TI:=λ σ H R=>ta σ H (FA R)
theorem vV{a:Expr}{ta:TA}{p1 p2 p3 p4:Pos}(hg:Gl X "reversed")(hm:X.mg "reversed" = none)(Vq:Gl X "range")(hm2:X.mg "range" = none)(ha:PA X [a] ta)(hs:starEach [a] X.env=[(false,eval a X.env)]:=by rfl)
  (he:starEach [Expr.Call (.Name "range" p1) [a] [] p2] X.env=[(false,eval (Expr.Call (.Name "range" p1) [a] [] p2) X.env)]:=by rfl):
  PI X tg (.Call (.Name "reversed" p3) [.Call (.Name "range" p1) [a] [] p2] [] p4) (LQ ta):=by
 intro pins s σ H R I h
 refine wpAny_Call_Name_kw (gO I hg hm BT.yW ?_)
 refine jg ?_ he rfl
 rw [he]
 refine Calls.spliced_cons ?_
 refine wpAny_Call_Name_kw (gO I Vq hm2 boot_range ?_)
 refine jg (cL (ha p2 pins s σ H _ I h) λ us s1 ⟨vs,H1,I1,r1,q1⟩=>?_) hs rfl
 obtain ⟨n,e,hn,q⟩:=q1
 subst e
 cases r1 with
 | cons r rr =>
  cases rr
  obtain ⟨t,rfl⟩:=r
  refine call_range_1 (Calls.spliced_nil ?_)
  have z:(s1.heap.push { cls:=.type "range", data:=.fields #[.int 0 s1.toks,.int n t,.int 1 (s1.toks + 1)] }).objs.size=s1.heap.objs.size + 1:=by rw [dP]
  refine qp (b:=n) (IsRange.new ..) (by omega) (by omega) ?_
  have I2:Inv X pins σ H1 { s1 with heap:=s1.heap.push { cls:=.type "range", data:=.fields #[.int 0 s1.toks,.int n t,.int 1 (s1.toks + 1)] },toks:=s1.toks + 1 + 1 }:=I1.kept λ b o e=>cB _ e
  have st:IsRangeIter ((s1.heap.push { cls:=.type "range", data:=.fields #[.int 0 s1.toks,.int n t,.int 1 (s1.toks + 1)] }).push { cls:=.type "range_iterator", data:=.fields #[rawInt ((n:Int) - 1),rawInt n,rawInt (-1)] }) (s1.heap.push { cls:=.type "range", data:=.fields #[.int 0 s1.toks,.int n t,.int 1 (s1.toks + 1)] }).objs.size ((n:Int) - 1 + ((0:Nat):Int) * (-1)) ((n:Int) - ((0:Nat):Int)) (-1):=by
   have e1:(n:Int) - 1 + ((0:Nat):Int) * (-1)=(n:Int) - 1:=by omega
   have e2:(n:Int) - ((0:Nat):Int)=n:=by omega
   rw [e1,e2]
   exact fR _ rfl
  refine wpAny_pyIter_rangeiter (s:={ s1 with heap:=_,toks:=s1.toks + 1 + 1 }) st ?_
  refine ⟨_,[_],_,_,H1,rfl,I2.kept (t':=s1.toks + 1 + 1) λ b o e=>cB _ e,vU _ n,st,λ b hb=>?_,q⟩
  have e:b=(s1.heap.push { cls:=.type "range", data:=.fields #[.int 0 s1.toks,.int n t,.int 1 (s1.toks + 1)] }).objs.size:=by simpa using hb
  subst e
  exact I2.kg (az _) (I2.hok.fresh (az _))
end
section
variable {K:aA}{nx bk ct:St->Hp->Prop}{rt:VK}{σ:St}{H:Hp}{Q:VK}{te:TE}
theorem OF{ta:TA}{R:It->Hp->Prop}(h:ta σ H (FA R)):LQ ta σ H R:=h
theorem OG{R:It->Hp->Prop}(hn:n <= 100000)(h:R (JA n) H):FA R [.int n] H:=⟨n,rfl,hn,h⟩
theorem FD{g:TG}{tb:TS}(Pv:Nat->St->Hp->Prop)(h0:Pv 0 σ H)
  (hs:∀ i σ H,i < n->Pv i σ H->g (.int ((n:Int) - 1 - i)) σ H λ σ2 H2=>tb ⟨Pv (i + 1),rt,nx,Pv (i + 1)⟩ σ2 H2)(hd:∀ σ H,Pv n σ H->nx σ H):LC (JA n) g tb nx rt σ H :=
 ⟨λ i m σ H=>m=n - i /\ i <= n /\ Pv i σ H,⟨n,by omega,by omega,h0⟩,λ i m σ' H' ⟨e,hi,p⟩=>by
  rcases cH i n with hlt | hge
  ·refine .inr ⟨hlt,Pv (i + 1),λ σ2 H2 q=>⟨n - (i + 1),by omega,rfl,hlt,q⟩,?_⟩
   rintro x H2 ⟨rfl,rfl⟩
   exact hs i σ' _ hlt p
  ·have:i=n:=by omega
   subst this
   exact .inl ⟨hge,hd _ _ p⟩⟩
end
end L2
namespace HM
open PySem PySem.Spec PyProof.Rows
variable {h h':Heap}{k y:bf}{v:Value}{a x d:Addr}{Q:Bool->Shared->Prop}{n:Nat}{t:SetTable}{led:Bool}
abbrev cX:=Option (Int × Int)
abbrev bf:=Int × Option (Int × Int)
def fj(h:Heap):cX->Value->Prop
 | none,v=>∃ t,v=.str "mark" t
 | some p,v=>∃ a o n t u,v=.ref a /\ h.get? a=some o /\ o.cls=.type "tuple" /\ o.data=.seq #[.int p.1 t,.int p.2 u] n
def bH(h:Heap)(k:bf)(a:Addr):Prop:=∃ o n t v,h.get? a=some o /\ o.cls=.type "tuple" /\ o.data=.seq #[.int k.1 t,v] n /\ fj h k.2 v
def jx:cX->PyData
 | none=>.str "mark"
 | some p=>.tuple [.int p.1,.int p.2]
def kU(k:bf):PyData:=.tuple [.int k.1,jx k.2]
theorem JB:PyData.strOk "mark" = true:=by decide +kernel
theorem oY(k:cX):(jx k).canLay0=true:=by cases k <;> simp [jx,PyData.canLay0,PyData.canLayAll0,JB]
theorem lN(k:bf):(kU k).canLay0=true:=by simp [kU,PyData.canLay0,PyData.canLayAll0,oY]
theorem nF(k:cX):(jx k).depth <= 1:=by cases k <;> simp [jx,PyData.depth,PyData.depthAll]
theorem nG(k:bf):(kU k).depth <= 2:=by
 have:=nF k.2
 simp only [kU,PyData.depth,PyData.depthAll]
 omega
theorem FE(p q:Int × Int):PyData.eqv (.tuple [.int p.1,.int p.2]) (.tuple [.int q.1,.int q.2])=decide (p=q):=by
 obtain ⟨a,b⟩:=p
 obtain ⟨c,d⟩:=q
 show ((a == c) && ((b == d) && true))=_
 by_cases h1:a=c
 ·by_cases h2:b=d
  ·subst h1 h2; simp
  ·simp [h2]
 ·simp [h1]
theorem ux(x y:cX):PyData.eqv (jx x) (jx y)=decide (x=y):=by
 cases x with
 | none =>
  cases y with
  | none=>show (("mark" : Str) == "mark")=_; simp
  | some q=>simp [jx,PyData.eqv]
 | some p =>
  cases y with
  | none=>simp [jx,PyData.eqv]
  | some q =>
   show PyData.eqv (.tuple [.int p.1,.int p.2]) (.tuple [.int q.1,.int q.2])=_
   rw [FE]
   by_cases e:p=q
   ·simp [e]
   ·simp [e]
theorem A1(x y:bf):PyData.eqv (kU x) (kU y)=decide (x=y):=by
 obtain ⟨p,a⟩:=x
 obtain ⟨q,b⟩:=y
 show ((p == q) && (PyData.eqv (jx a) (jx b) && true))=_
 rw [ux]
 by_cases h1:p=q
 ·by_cases h2:a=b
  ·subst h1 h2; simp
  ·simp [h2]
 ·simp [h1]
theorem fj.reads{k:cX}(x:fj h k v):Reads h v (jx k) []:=by
 cases k with
 | none=>obtain ⟨t,rfl⟩:=x; exact .str _ _
 | some p =>
  obtain ⟨a,o,n,t,u,rfl,h1,h2,h3⟩:=x
  exact .tuple h1 h2 h3 (by simpa using ReadsAll.cons (.int p.1 t) (.cons (.int p.2 u) .nil))
theorem bH.reads(x:bH h k a):Reads h (.ref a) (kU k) []:=by
 obtain ⟨o,n,t,v,h1,h2,h3,h4⟩:=x
 exact .tuple h1 h2 h3 (by simpa using ReadsAll.cons (.int k.1 t) (.cons h4.reads .nil))
theorem fj.stay{k:cX}(x:fj h k v)(e:∀ b o vs n,o.cls=.type "tuple" -> o.data=.seq vs n->h.get? b=some o->h'.get? b=some o):fj h' k v:=by
 cases k with
 | none=>exact x
 | some p =>
  obtain ⟨a,o,n,t,u,e1,h1,h2,h3⟩:=x
  exact ⟨a,o,n,t,u,e1,e _ _ _ _ h2 h3 h1,h2,h3⟩
theorem bH.stay(x:bH h k a)(e:∀ b o vs n,o.cls=.type "tuple" -> o.data=.seq vs n->h.get? b=some o->h'.get? b=some o):bH h' k a:=by
 obtain ⟨o,n,t,v,h1,h2,h3,h4⟩:=x
 exact ⟨o,n,t,v,e _ _ _ _ h2 h3 h1,h2,h3,h4.stay e⟩
theorem fj.inj{x y:cX}(a:fj h x v)(b:fj h y v):x=y:=by
 cases x with
 | none =>
  obtain ⟨t,rfl⟩:=a
  cases y with
  | none=>rfl
  | some q=>obtain ⟨_,_,_,_,_,e,_⟩:=b; cases e
 | some p =>
  obtain ⟨a1,o,n,t,u,rfl,h1,h2,h3⟩:=a
  cases y with
  | none=>obtain ⟨_,e⟩:=b; cases e
  | some q =>
   obtain ⟨a2,o2,n2,t2,u2,e,g1,g2,g3⟩:=b
   cases e
   rw [h1] at g1
   cases g1
   rw [h3] at g3
   have e1:=congrArg Array.toList (Data.seq.inj g3).1
   simp only [List.cons.injEq,Value.int.injEq] at e1
   obtain ⟨⟨e1,_⟩,⟨e2,_⟩,_⟩:=e1
   exact congrArg some (Prod.ext e1 e2)
theorem bH.inj{x:bf}(hx:bH h x a)(hy:bH h y a):x=y:=by
 obtain ⟨o,n,t,v,h1,h2,h3,h4⟩:=hx
 obtain ⟨o2,n2,t2,v2,g1,g2,g3,g4⟩:=hy
 rw [h1] at g1
 cases g1
 rw [h3] at g3
 have e:=Data.seq.inj g3
 have e1:=congrArg Array.toList e.1
 simp only [List.cons.injEq,Value.int.injEq] at e1
 obtain ⟨⟨e1,_⟩,e2,_⟩:=e1
 subst e2
 have:=h4.inj g4
 obtain ⟨p,a⟩:=x
 obtain ⟨q,b⟩:=y
 exact Prod.ext e1 this
section
variable {prog:Program}{w:World}{A:Around}{E:Value->Shared->Prop}{s:Shared}
theorem OH{x y:cX}{u:Value}(hu:A.units + 1 < cLine)(hx:fj s.heap x u)(hy:fj s.heap y v)(h:Q (decide (x=y)) s):wpAny (model prog w) A (eqBool u v) Q E s:=by
 refine SeqAt.eqBoolOverData prog w A E s u v (jx x) (jx y) [] [] Q hx.reads hy.reads (oY x) (oY y) ?_ (by rw [ux]; exact h)
 have:=nF x
 omega
theorem zy{x:bf}{b:Addr}(hu:A.units + 2 < cLine)(hx:bH s.heap x a)(hy:bH s.heap y b)(h:Q (decide (x=y)) s):wpAny (model prog w) A (eqBool (.ref a) (.ref b)) Q E s:=by
 refine SeqAt.eqBoolOverData prog w A E s _ _ (kU x) (kU y) [] [] Q hx.reads hy.reads (lN x) (lN y) ?_ (by rw [A1]; exact h)
 have:=nG x
 omega
def lO(prog:Program)(w:World):cX->Int
 | none=>(strKind prog w).hash "mark"
 | some p=>tupleKeyHash (intKind prog w) [p.1,p.2]
def lP:cX->Nat
 | none=>1
 | some _=>3
def aS(prog:Program)(w:World)(k:bf):Int:=reduceHash (Builtin.Tuple.tupleHashOf [(intKind prog w).hash k.1,lO prog w k.2])
theorem FF{o:Obj}{p:Int × Int}{t u:Tok}(h1:h.get? a=some o)(h2:o.cls=.type "tuple")(h3:o.data=.seq #[.int p.1 t,.int p.2 u] n):IsTupleKey (intKind prog w) h [p.1,p.2] a :=
 ⟨o,_,n,h1,h2,h3,.cons (intKind_is _ _ _ _) (.cons (intKind_is _ _ _ _) .nil)⟩
theorem FG{k:cX}{Q:Int->Shared->Prop}(hu:A.units < cLine)(hk:fj s.heap k v)(h:Q (lO prog w k) { s with toks:=s.toks + lP k }):wpAny (model prog w) A (pyHash v) Q E s:=by
 cases k with
 | none =>
  obtain ⟨t,rfl⟩:=hk
  exact (strKind prog w).pyHash (k := "mark") (strKind_is _ _ _ _) h
 | some p =>
  obtain ⟨a,o,n,t,u,rfl,h1,h2,h3⟩:=hk
  exact wpAny_pyHash_tuple hu (FF h1 h2 h3) h
theorem vW{Q:Int->Shared->Prop}(hu:A.units + 1 < cLine)(hk:bH s.heap k a)(h:Q (aS prog w k) { s with toks:=s.toks + (1 + lP k.2 + 1) }):wpAny (model prog w) A (pyHash (.ref a)) Q E s:=by
 obtain ⟨o,n,t,v,ho,hc,hd,hv⟩:=hk
 have hT:s.TypeIs (.ref a) "tuple" := ⟨o,ho,hc⟩
 unfold pyHash
 first | unfold pyHashByItsType | skip
 first | refine ao (wpAny_cRoomFor_or (.inr (by omega)) ?_) | skip
 refine ao (wpAny_specialOf hT F.slot_tuple_hash.lookup ?_)
 show wpAny _ _ (if (some (Value.builtin "tuple.__hash__") == some Value.none)=true then _ else _) Q E s
 rw [if_neg (by rw [beq_builtin_none]; exact ic)]
 refine ao (wpAny_specialOf hT F.slot_tuple_hash.lookup ?_)
 show wpAny _ _ (callSpecialIfBoundUnlessNone? (.ref a) "__hash__" _ >>= _) Q E s
 refine ao (wpAny_callSpecialIfBoundUnlessNone?_slot hT F.slot_tuple_hash (wpAny_call_entry F.slot_tuple_hash hT F.entry_tuple_hash ?_ (F.args_tuple_hash_1 _)))
 show wpAny _ _ (Builtin.Tuple.tupleItemsOf (.ref a) >>= _) _ _ s
 refine ao (wpAny_tupleItemsOf ho hd ?_)
 refine ao ?_
 rw [<- jA]
 show wpAny _ _ (forIn [Value.int k.1 t,v] _ _) _ _ _
 rw [iJ]
 refine ao (ao ((intKind prog w).pyHash (k:=k.1) (intKind_is _ _ _ _) ?_))
 refine ao (aH (aH ?_))
 dsimp only
 rw [iJ]
 refine ao (ao (FG (k:=k.2) (by simp only [Around.in1]; omega) hv ?_))
 refine ao (aH (aH ?_))
 dsimp only
 rw [jC]
 refine aH ?_
 show wpAny _ _ (retInt (Builtin.Tuple.tupleHashOf [(intKind prog w).hash k.1,lO prog w k.2])) _ _ _
 refine wpAny_ret_mkInt ?_
 show wpAny _ _ (if (decide (-(2:Int) ^ 63 <= Builtin.Tuple.tupleHashOf [(intKind prog w).hash k.1,lO prog w k.2]) && decide (Builtin.Tuple.tupleHashOf [(intKind prog w).hash k.1,lO prog w k.2] < 2 ^ 63))=true then _ else _) Q E _
 unfold aS reduceHash at h
 split
 ·rename_i hr
  rw [if_pos hr] at h
  exact aH (by simpa [Nat.add_assoc] using h)
 ·rename_i hr
  rw [if_neg hr] at h
  exact ao (wpAny_rule (aH (by simpa [Nat.add_assoc] using h)))
theorem CC{k:cX}(hk:fj s.heap k v)(h:Q true s):wpAny (model prog w) A (eqIsQuiet (n + 1) v) Q E s:=by
 cases k with
 | none =>
  obtain ⟨t,rfl⟩:=hk
  rw [eqIsQuiet_byValue _ rfl]
  exact aH h
 | some p =>
  obtain ⟨a,o,m,t,u,rfl,h1,h2,h3⟩:=hk
  have hT:s.TypeIs (.ref a) "tuple" := ⟨o,h1,h2⟩
  unfold eqIsQuiet
  refine ao (wpAny_specialOf hT F.slot_tuple_eq.lookup ?_)
  show wpAny _ _ (isInstance (.ref a) (.type "tuple") >>= _) _ _ s
  refine ao (wpAny_isInstance hT isSubtype_tuple_tuple ?_)
  simp only [eT,bG,if_false]
  refine ao (wpAny_seqItems h1 h3 ?_)
  refine ao ?_
  show wpAny _ _ (forIn #[Value.int p.1 t,Value.int p.2 u] _ _) _ _ s
  rw [<- jA]
  refine wpAny_forIn_list _ (λ rest r s'=>r.1=none /\ s'=s /\ ∀ v∈rest,carriedByValue v=true) _ ?_ ?_ _ _ ⟨rfl,rfl,λ v hv=>by simp at hv; rcases hv with e | e <;> rw [e] <;> rfl⟩
  ·rintro v rest r s' ⟨hr,rfl,hall⟩
   rw [eqIsQuiet_byValue _ (hall v gI)]
   refine ao (aH ?_)
   simp only [eT,bG,if_false]
   exact aH ⟨rfl,rfl,λ u A2=>hall u (cV _ A2)⟩
  ·rintro ⟨r1,r2⟩ s' ⟨hr,rfl,_⟩
   simp only at hr
   subst hr
   exact aH h
theorem nH(hk:bH s.heap k a)(h:Q true s):wpAny (model prog w) A (eqIsQuiet 8 (.ref a)) Q E s:=by
 obtain ⟨o,n,t,v,ho,hc,hd,hv⟩:=hk
 have hT:s.TypeIs (.ref a) "tuple" := ⟨o,ho,hc⟩
 unfold eqIsQuiet
 refine ao (wpAny_specialOf hT F.slot_tuple_eq.lookup ?_)
 show wpAny _ _ (isInstance (.ref a) (.type "tuple") >>= _) _ _ s
 refine ao (wpAny_isInstance hT isSubtype_tuple_tuple ?_)
 simp only [eT,bG,if_false]
 refine ao (wpAny_seqItems ho hd ?_)
 refine ao ?_
 show wpAny _ _ (forIn #[Value.int k.1 t,v] _ _) _ _ s
 rw [<- jA]
 refine wpAny_forIn_list _ (λ rest r s'=>r.1=none /\ s'=s /\ ∀ u∈rest,(∃ i t,u=Value.int i t) \/ fj s.heap k.2 u) _ ?_ ?_ _ _ ⟨rfl,rfl,λ u hu=>by simp at hu; rcases hu with e | e; exact .inl ⟨_,_,e⟩; exact .inr (e ▸ hv)⟩
 ·rintro u rest r s' ⟨hr,rfl,hall⟩
  refine ao ?_
  have go:wpAny (model prog w) A (eqIsQuiet 7 u) (λ b s2=>b=true /\ s2=s') E s':=by
   rcases hall u gI with ⟨i,t,rfl⟩ | hu
   ·rw [eqIsQuiet_byValue _ rfl]
    exact aH ⟨rfl,rfl⟩
   ·exact CC (n:=6) hu ⟨rfl,rfl⟩
  refine wpAny_mono go (λ b s2=>?_) λ _ _ x=>x
  rintro ⟨rfl,rfl⟩
  simp only [eT,bG,if_false]
  exact aH ⟨rfl,rfl,λ u A2=>hall u (cV _ A2)⟩
 ·rintro ⟨r1,r2⟩ s' ⟨hr,rfl,_⟩
  simp only at hr
  subst hr
  exact aH h
end
def c8(prog:Program)(w:World):HeapKind prog w bf where
 is:=bH
 hash:=aS prog w
 draws:=λ k=>1 + lP k.2 + 1
 room:=λ A=>A.units + 2 < cLine
 inj:=λ hx hy=>hx.inj hy
 keeps:=λ x ho hd hs=>x.stay λ b u vs n hc hs2 e=>by
  rw [hs.2 b (λ z=>by subst z; rw [ho] at e; cases e; rw [hd] at hs2; cases hs2)]
  exact e
 pyHash:=λ hu hk h=>vW (by omega) hk h
 eqBool:=λ hu hx hy h=>zy hu hx hy h
 quiet:=λ hk h=>nH hk h
def sq(x:Int):Nat->Nat × Nat
 | 0=>(SetTable.bits x % 8,SetTable.bits x)
 | n + 1=>(((sq x n).1 * 5 + 1 + (sq x n).2 / 32) % 8,(sq x n).2 / 32)
theorem LR(x:Int):∀ n,(sq x n).1 < 8
 | 0=>Nat.mod_lt _ (by decide)
 | n + 1=>Nat.mod_lt _ (by decide)
theorem vX(x:Int):∀ n,(sq x n).2 * 32 ^ n < 2 ^ 64
 | 0=>by
  show SetTable.bits x * 1 < _
  unfold SetTable.bits
  omega
 | n + 1=>by
  have ih:=vX x n
  show (sq x n).2 / 32 * 32 ^ (n + 1) < _
  have h:(sq x n).2 / 32 * 32 <= (sq x n).2:=Nat.div_mul_le_self _ _
  have h2:(sq x n).2 / 32 * 32 ^ (n + 1)=((sq x n).2 / 32 * 32) * 32 ^ n:=by rw [Nat.pow_succ,Nat.mul_assoc,Nat.mul_comm (32 ^ n) 32]
  rw [h2]
  exact Nat.lt_of_le_of_lt (Nat.mul_le_mul_right _ h) ih
theorem JC(x:Int)(n:Nat)(h:13 <= n):(sq x n).2=0:=by
 have h1:=vX x n
 rcases Nat.eq_zero_or_pos (sq x n).2 with e | hp
 ·exact e
 ·have h2:32 ^ 13 <= 32 ^ n:=Nat.pow_le_pow_right (by decide) h
  have h3:1 * 32 ^ n <= (sq x n).2 * 32 ^ n:=Nat.mul_le_mul_right _ hp
  have h4:(32:Nat) ^ 13=2 ^ 65:=by decide
  omega
theorem jn(x:Int)(n:Nat)(h:13 <= n):(sq x (n + 1)).1=((sq x n).1 * 5 + 1) % 8:=by
 show ((sq x n).1 * 5 + 1 + (sq x n).2 / 32) % 8=_
 rw [JC x n h]
theorem OI(x:Int)(j:Nat)(hj:j < 8):∃ n,n <= 20 /\ (sq x n).1=j:=by
 have h0:=LR x 13
 have e1:=jn x 13 (by decide)
 have e2:=jn x 14 (by decide)
 have e3:=jn x 15 (by decide)
 have e4:=jn x 16 (by decide)
 have e5:=jn x 17 (by decide)
 have e6:=jn x 18 (by decide)
 have e7:=jn x 19 (by decide)
 have cyc:∀ (a j:Fin 8),j.val=a.val \/ j.val=(a.val * 5 + 1) % 8 \/ j.val=((a.val * 5 + 1) % 8 * 5 + 1) % 8 \/ j.val=(((a.val * 5 + 1) % 8 * 5 + 1) % 8 * 5 + 1) % 8 \/ j.val=((((a.val * 5 + 1) % 8 * 5 + 1) % 8 * 5 + 1) % 8 * 5 + 1) % 8 \/
   j.val=(((((a.val * 5 + 1) % 8 * 5 + 1) % 8 * 5 + 1) % 8 * 5 + 1) % 8 * 5 + 1) % 8 \/ j.val=((((((a.val * 5 + 1) % 8 * 5 + 1) % 8 * 5 + 1) % 8 * 5 + 1) % 8 * 5 + 1) % 8 * 5 + 1) % 8 \/ j.val=(((((((a.val * 5 + 1) % 8 * 5 + 1) % 8 * 5 + 1) % 8 * 5 + 1) % 8 * 5 + 1) % 8 * 5 + 1) % 8 * 5 + 1) % 8:=by decide
 have:=cyc ⟨(sq x 13).1,h0⟩ ⟨j,hj⟩
 dsimp only at this
 rw [<- e1,<- e2,<- e3,<- e4,<- e5,<- e6,<- e7] at this
 rcases this with e | e | e | e | e | e | e | e
 ·exact ⟨13,by decide,e.symm⟩
 ·exact ⟨14,by decide,e.symm⟩
 ·exact ⟨15,by decide,e.symm⟩
 ·exact ⟨16,by decide,e.symm⟩
 ·exact ⟨17,by decide,e.symm⟩
 ·exact ⟨18,by decide,e.symm⟩
 ·exact ⟨19,by decide,e.symm⟩
 ·exact ⟨20,by decide,e.symm⟩
def CD(x:Int)(n:Nat):SetTable.Probe:={ j:=(sq x n).1,more:=0,i:=(sq x n).1,perturb:=(sq x n).2,dummy:=none }
theorem CF(h:t.mask=7)(x:Int):t.probeStart x=CD x 0:=by
 unfold SetTable.probeStart CD sq
 rw [h]
 have hl:SetTable.bits x % 8 < 8:=Nat.mod_lt _ (by decide)
 have e:SetTable.runEnd 7 (SetTable.bits x % 8) - SetTable.bits x % 8=0:=by
  unfold SetTable.runEnd
  rw [if_neg (by omega)]
  omega
 show SetTable.Probe.mk _ _ _ _ _=_
 rw [show (7:Nat) + 1=8 from rfl,e]
theorem vY(h:t.mask=7)(x:Int)(n:Nat):t.advance (CD x n)=CD x (n + 1):=by
 unfold SetTable.advance
 rw [if_neg (by show ¬ 0 > 0; omega)]
 unfold SetTable.leap
 rw [h]
 dsimp only
 have hl:=LR x (n + 1)
 have e1:((CD x n).i * 5 + 1 + (CD x n).perturb / 32) % (7 + 1)=(sq x (n + 1)).1:=rfl
 have e2:(CD x n).perturb / 32=(sq x (n + 1)).2:=rfl
 rw [e1,e2]
 have e:SetTable.runEnd 7 (sq x (n + 1)).1 - (sq x (n + 1)).1=0:=by
  unfold SetTable.runEnd
  rw [if_neg (by omega)]
  omega
 rw [e]
 rfl
theorem lQ(hs:t.place.toList.Pairwise (· < ·))(hd:t.dummies=#[])(j:Nat):(t.slot j=.empty /\ ∀ i:Nat,t.place[i]? ≠ some j) \/ ∃ i,t.slot j=.live i /\ t.place[i]? = some j:=by
 cases e:t.slot j with
 | empty=>exact .inl ⟨rfl,λ i hi=>SG.kR hs e i j hi rfl⟩
 | dummy =>
  exfalso
  unfold SetTable.slot at e
  dsimp only at e
  rw [SG.lH hd] at e
  split at e <;> cases e
 | live i =>
  refine .inr ⟨i,rfl,?_⟩
  unfold SetTable.slot at e
  dsimp only at e
  split at e
  ·rename_i h
   cases e
   simpa using h
  ·split at e <;> cases e
theorem sI(hs:t.place.toList.Pairwise (· < ·))(hd:t.dummies=#[]){i j:Nat}(h:t.place[i]? = some j):t.slot j=.live i:=by
 rcases lQ hs hd j with ⟨_,e⟩ | ⟨k,e1,e2⟩
 ·exact absurd h (e i)
 ·have:k=i:=by
   rw [<- d8] at h e2
   obtain ⟨a1,b1⟩:=fu h
   obtain ⟨a2,b2⟩:=fu e2
   rcases Nat.lt_trichotomy k i with hl | he | hg
   ·have:=jd.mp hs k i a2 a1 hl
    omega
   ·exact he
   ·have:=jd.mp hs i k a1 a2 hg
    omega
  rw [e1,this]
theorem FH(hm:t.mask=7)(hd:t.dummies=#[])(hs:t.place.toList.Pairwise (· < ·))(f:Nat->Int)(x:Int):∀ (fuel n m:Nat),n <= m->m < n + fuel->t.slot (sq x m).1=.empty->(∀ k,n <= k->k < m->t.slot (sq x k).1 ≠ .empty) ->
  (∃ k i,n <= k /\ k < m /\ t.slot (sq x k).1=.live i /\ f i=x /\ (∀ k' i',n <= k'->k' < k->t.slot (sq x k').1=.live i'->f i' ≠ x) /\ SetTable.probe.go t f x fuel (CD x n)=some (.candidate (sq x k).1 i (CD x (k + 1)))) \/
  ((∀ k i,n <= k->k < m->t.slot (sq x k).1=.live i->f i ≠ x) /\ SetTable.probe.go t f x fuel (CD x n)=some (.empty (sq x m).1 none)):=by
 intro fuel
 induction fuel with
 | zero=>intro n m h1 h2; omega
 | succ fuel ih =>
  intro n m h1 h2 he hne
  unfold SetTable.probe.go
  rcases lQ hs hd (sq x n).1 with ⟨e,_⟩ | ⟨i,e,_⟩
  ·have:n=m:=by
    rcases cH n m with hl | hg
    ·exact absurd e (hne n (az _) hl)
    ·omega
   subst this
   rw [show t.slot (CD x n).j=.empty from e]
   exact .inr ⟨λ k i a b=>by omega,rfl⟩
  ·have hnm:n < m:=by
    rcases cH n m with hl | hg
    ·exact hl
    ·have:n=m:=by omega
     subst this
     rw [e] at he
     cases he
   rw [show t.slot (CD x n).j=.live i from e]
   dsimp only
   by_cases hx:f i=x
   ·rw [if_pos (by simpa using hx),vY hm]
    exact .inl ⟨n,i,az _,hnm,e,hx,(λ k' i' a b=>by omega),rfl⟩
   ·rw [if_neg (by simpa using hx),vY hm]
    rcases ih (n + 1) m (by omega) (by omega) he (λ k a b=>hne k (by omega) b) with ⟨k,i',a,b,c,d,d2,g⟩ | ⟨a,g⟩
    ·refine .inl ⟨k,i',by omega,b,c,d,λ k' i2 h3 h4 h5=>?_,g⟩
     rcases Nat.eq_or_lt_of_le h3 with e2 | h3
     ·subst e2
      rw [e] at h5
      cases h5
      exact hx
     ·exact d2 k' i2 h3 h4 h5
    ·refine .inr ⟨λ k i' h3 h4 h5=>?_,g⟩
     rcases Nat.eq_or_lt_of_le h3 with e2 | h3
     ·subst e2
      rw [e] at h5
      cases h5
      exact hx
     ·exact a k i' h3 h4 h5
theorem vZ(hd:t.dummies=#[])(hs:t.place.toList.Pairwise (· < ·))(hf:t.place.size < 8)(x:Int):∃ m,m <= 20 /\ t.slot (sq x m).1=.empty /\ ∀ k,k < m->t.slot (sq x k).1 ≠ .empty:=by
 have hex:∃ m,m <= 20 /\ t.slot (sq x m).1=.empty:=by
  obtain ⟨j,hj,hfree⟩:∃ j,j < 8 /\ ∀ i:Nat,t.place[i]? ≠ some j:=by
   by_cases h:∃ j,j < 8 /\ j ∉ t.place.toList
   ·obtain ⟨j,hj,hn⟩:=h
    exact ⟨j,hj,λ i hi=>hn (by rw [<- d8] at hi; exact fS hi)⟩
   ·exfalso
    have sub:∀ j∈List.range 8,j∈t.place.toList:=λ j hj=>pM λ hn=>h ⟨j,fE.mp hj,hn⟩
    have:=List.Nodup.length_le_of_subset List.nodup_range sub
    rw [List.length_range,cC] at this
    omega
  obtain ⟨n,hn,e⟩:=OI x j hj
  refine ⟨n,hn,?_⟩
  rcases lQ hs hd (sq x n).1 with ⟨h,_⟩ | ⟨i,_,h⟩
  ·exact h
  ·rw [e] at h
   exact absurd h (hfree i)
 obtain ⟨m,hm⟩:=hex
 have:∀ n,n <= 20->t.slot (sq x n).1=.empty->∃ m,m <= 20 /\ t.slot (sq x m).1=.empty /\ ∀ k,k < m->t.slot (sq x k).1 ≠ .empty:=by
  intro n
  induction n using Nat.strongRecOn with
  | ind n ih =>
   intro h1 h2
   by_cases h:∃ k,k < n /\ t.slot (sq x k).1=.empty
   ·obtain ⟨k,hk,e⟩:=h
    exact ih k hk (by omega) e
   ·exact ⟨n,h1,h2,λ k hk e=>h ⟨k,hk,e⟩⟩
 exact this m hm.1 hm.2
section
variable {prog:Program}{w:World}{A:Around}{E:Value->Shared->Prop}{s:Shared}
theorem zA{k:cX}(hk:fj s.heap k v)(h:Q false s):wpAny (model prog w) A (ofAClassStatement (n + 1) v) Q E s:=by
 cases k with
 | none =>
  obtain ⟨t,rfl⟩:=hk
  exact wpAny_of_eq (a:=false) rfl h
 | some p =>
  obtain ⟨a,o,m,t,u,rfl,h1,h2,h3⟩:=hk
  have hT:s.TypeIs (.ref a) "tuple" := ⟨o,h1,h2⟩
  unfold ofAClassStatement
  refine ao (wpAny_typeOf hT ?_)
  dsimp only
  refine ao (wpAny_of_eq (a:=true) rfl ?_)
  simp only [eT,bG,if_false]
  refine ao (wpAny_seqItems h1 h3 ?_)
  dsimp only
  refine ao ?_
  rw [<- jA]
  refine wpAny_forIn_list _ (λ rest r s'=>r.1=none /\ s'=s /\ ∀ v∈rest,∃ i t,v=Value.int i t) _ ?_ ?_ _ _ ⟨rfl,rfl,λ v hv=>by simp at hv; rcases hv with e | e <;> exact ⟨_,_,e⟩⟩
  ·rintro v rest r s' ⟨hr,rfl,hall⟩
   obtain ⟨i,t,rfl⟩:=hall v gI
   refine ao (wpAny_of_eq (a:=false) (by first | rfl | (unfold ofAClassStatement; rfl)) ?_)
   simp only [bG,if_false]
   exact aH ⟨rfl,rfl,λ u A2=>hall u (cV _ A2)⟩
  ·rintro ⟨r1,r2⟩ s' ⟨hr,rfl,_⟩
   simp only at hr
   subst hr
   exact aH h
theorem qq(hk:bH s.heap k a)(h:Q false s):wpAny (model prog w) A (ofAClassStatement 8 (.ref a)) Q E s:=by
 obtain ⟨o,n,t,v,ho,hc,hd,hv⟩:=hk
 have hT:s.TypeIs (.ref a) "tuple" := ⟨o,ho,hc⟩
 unfold ofAClassStatement
 refine ao (wpAny_typeOf hT ?_)
 dsimp only
 refine ao (wpAny_of_eq (a:=true) rfl ?_)
 simp only [eT,bG,if_false]
 refine ao (wpAny_seqItems ho hd ?_)
 dsimp only
 refine ao ?_
 rw [<- jA]
 refine wpAny_forIn_list _ (λ rest r s'=>r.1=none /\ s'=s /\ ∀ u∈rest,(∃ i t,u=Value.int i t) \/ fj s.heap k.2 u) _ ?_ ?_ _ _ ⟨rfl,rfl,λ u hu=>by simp at hu; rcases hu with e | e; exact .inl ⟨_,_,e⟩; exact .inr (e ▸ hv)⟩
 ·rintro u rest r s' ⟨hr,rfl,hall⟩
  refine ao ?_
  have go:wpAny (model prog w) A (ofAClassStatement 7 u) (λ b s2=>b=false /\ s2=s') E s':=by
   rcases hall u gI with ⟨i,t,rfl⟩ | hu
   ·exact wpAny_of_eq (a:=false) (by first | rfl | (unfold ofAClassStatement; rfl)) ⟨rfl,rfl⟩
   ·exact zA (n:=6) hu ⟨rfl,rfl⟩
  refine wpAny_mono go (λ b s2=>?_) λ _ _ x=>x
  rintro ⟨rfl,rfl⟩
  simp only [bG,if_false]
  exact aH ⟨rfl,rfl,λ u A2=>hall u (cV _ A2)⟩
 ·rintro ⟨r1,r2⟩ s' ⟨hr,rfl,_⟩
  simp only at hr
  subst hr
  exact aH h
theorem OJ{ys:List Value}(hk:bH s.heap k x)(hy:∀ y∈ys,∃ k' a,y=.ref a /\ bH s.heap k' a)(h:Q false s):wpAny (model prog w) A (searchCouldBeSeen (.ref x) ys) Q E s:=by
 unfold searchCouldBeSeen
 refine ao ?_
 refine wpAny_forIn_list _ (λ rest r s'=>r.1=none /\ s'=s /\ ∀ y∈rest,∃ k' a,y=Value.ref a /\ bH s.heap k' a) _ ?_ ?_ _ _ ⟨rfl,rfl,hy⟩
 ·rintro y rest r s' ⟨hr,rfl,hall⟩
  obtain ⟨k',a,rfl,ha⟩:=hall y gI
  have rest':∀ y∈rest,∃ k' a,y=Value.ref a /\ bH s'.heap k' a:=λ u A2=>hall u (cV _ A2)
  dsimp only
  split
  ·exact aH ⟨rfl,rfl,rest'⟩
  ·refine ao (nH hk ?_)
   simp only [eT,bG,if_false]
   refine ao (nH ha ?_)
   simp only [eT,bG,if_false]
   refine ao (qq hk ?_)
   simp only [bG,if_false]
   refine ao (qq ha ?_)
   simp only [bG,if_false]
   exact aH ⟨rfl,rfl,rest'⟩
 ·rintro ⟨r1,r2⟩ s' ⟨hr,rfl,_⟩
  simp only at hr
  subst hr
  exact aH h
def OL(prog:Program)(w:World)(h:Heap)(es:Array (Int × Value)):Prop:=∀ (i:Nat) e,es[i]? = some e->∃ k a,e=(aS prog w k,.ref a) /\ bH h k a
theorem nI{es:Array (Int × Value)}(hE:OL prog w s.heap es){i a:Nat}{z:Int}(h:es[i]? = some (z,.ref a))(hk:bH s.heap k a):(es[i]?.map (·.1)).getD 0=aS prog w k:=by
 obtain ⟨k2,a2,e2,h2⟩:=hE i _ h
 have e3:z=aS prog w k2:=congrArg Prod.fst e2
 have e4:a=a2:=Value.ref.inj (congrArg Prod.snd e2)
 subst e4
 have e5:k2=k:=h2.inj hk
 rw [h,<- e5,<- e3]
 rfl
theorem search{o:Obj}{es:Array (Int × Value)}{ep:Nat}{m:Nat}(hu:A.units + 2 < cLine)(ho:s.heap.get? d=some o)(hd:o.data=.set es ep t)(T:SG.Tab led es t)(hm:t.mask=7)(hE:OL prog w s.heap es)(hk:bH s.heap k x)
  (m20:m <= 20)(he:t.slot (sq (aS prog w k) m).1=.empty)(hne:∀ j,j < m->t.slot (sq (aS prog w k) j).1 ≠ .empty):∀ (fuel n:Nat) (A3:Option SetTable.Probe) (Q:SetFound->Shared->Prop),n <= m->m < n + fuel->A3.getD (t.probeStart (aS prog w k))=CD (aS prog w k) n ->
  (∀ (j i a:Nat) (z:Int),n <= j->j < m->t.slot (sq (aS prog w k) j).1=.live i->es[i]? = some (z,.ref a)->bH s.heap k a->Q (.there none) s) ->
  ((∀ (j i a:Nat) (z:Int),n <= j->j < m->t.slot (sq (aS prog w k) j).1=.live i->es[i]? = some (z,.ref a)->¬ bH s.heap k a)->Q (.free (sq (aS prog w k) m).1 false) s) ->
  wpAny (model prog w) A (setSearchFrom d (.ref x) (aS prog w k) true fuel A3) Q E s:=by
 intro fuel
 induction fuel with
 | zero=>intro n A3 Q h1 h2; omega
 | succ fuel ih =>
  intro n A3 Q h1 h2 hst hit free
  unfold setSearchFrom
  refine ao (wpAny_setState_of ho hd T.fits ?_)
  dsimp only
  have hgw:t.gaveWay=false:=by unfold SetTable.gaveWay; rw [hm]; rfl
  rw [hgw,hst]
  simp only [bG,if_false]
  have Xu:10 * SetTable.turns t.mask=220:=by rw [hm]; rfl
  unfold SetTable.probe
  rw [Xu]
  rcases FH hm T.Cr T.up _ (aS prog w k) 220 n m h1 (by omega) he (λ j _ hj=>hne j hj) with ⟨j,i,a1,a2,a3,a4,a4b,a5⟩ | ⟨a1,a5⟩
  ·rw [a5]
   dsimp only
   have hi:∃ e,es[i]? = some e:=by
    rcases lQ T.up T.Cr (sq (aS prog w k) j).1 with ⟨e,_⟩ | ⟨i',e,hp⟩
    ·rw [a3] at e; cases e
    ·rw [a3] at e
     cases e
     have:=(jB.mp hp).1
     rw [T.sz] at this
     exact ⟨_,d7 this⟩
   obtain ⟨e,hei⟩:=hi
   obtain ⟨k',a',rfl,ha'⟩:=hE i e hei
   have hyy:∀ y∈(es.filter (·.1 == aS prog w k)).toList.map (·.2),∃ k' a,y=Value.ref a /\ bH s.heap k' a:=λ y hy=>by
    obtain ⟨e,he',rfl⟩:=aG.mp hy
    rw [Array.mem_toList_iff,Array.mem_filter] at he'
    obtain ⟨i2,hi2⟩:=Array.mem_iff_getElem?.mp he'.1
    obtain ⟨k2,a2,rfl,h2⟩:=hE i2 e hi2
    exact ⟨k2,a2,rfl,h2⟩
   cases hl:t.led
   ·simp only [Bool.not_false,if_true]
    refine ao (OJ hk hyy ?_)
    simp only [bG,if_false]
    rw [hei]
    dsimp only
    refine ao (wpAny_holding (zy hu ha' hk ?_))
    refine ao (wpAny_setState_of ho hd T.fits ?_)
    dsimp only
    by_cases e:k'=k
    ·subst e
     rw [decide_eq_true rfl]
     simp only [Bool.and_true,if_true]
     exact aH (hit j i a' _ a1 a2 a3 hei ha')
    ·rw [decide_eq_false e]
     simp only [Bool.and_false,bG,if_false]
     have hsm:t.sameMemory t.moves t.mask=some true:=by unfold SetTable.sameMemory; rw [if_pos (by simp)]
     rw [hsm]
     dsimp only
     simp only [if_true]
     rw [a3]
     dsimp only
     rw [hei]
     dsimp only
     refine ao (wpAny_isSame_ref_self (ao (aH ?_)))
     simp only [if_true]
     refine ih (j + 1) _ Q (by omega) (by omega) rfl (λ j' i' a z h3 h4=>hit j' i' a z (by omega) h4) λ hn=>free λ j' i' a z h3 h4 h5 h6 h7=>?_
     by_cases hj:j'=j
     ·subst hj
      rw [a3] at h5
      cases h5
      rw [hei] at h6
      cases h6
      exact e (ha'.inj h7)
     ·rcases cH j' j with hl | hg
      ·refine a4b j' i' (by omega) hl h5 ?_
       exact nI hE h6 h7
      ·exact hn j' i' a z (by omega) h4 h5 h6 h7
   ·simp only [eT,bG,if_false]
    rw [hei]
    dsimp only
    refine ao (wpAny_holding (zy hu ha' hk ?_))
    refine ao (wpAny_setState_of ho hd T.fits ?_)
    dsimp only
    by_cases e:k'=k
    ·subst e
     rw [decide_eq_true rfl]
     simp only [Bool.and_true,if_true]
     exact aH (hit j i a' _ a1 a2 a3 hei ha')
    ·rw [decide_eq_false e]
     simp only [Bool.and_false,bG,if_false]
     have hsm:t.sameMemory t.moves t.mask=some true:=by unfold SetTable.sameMemory; rw [if_pos (by simp)]
     rw [hsm]
     dsimp only
     simp only [if_true]
     rw [a3]
     dsimp only
     rw [hei]
     dsimp only
     refine ao (wpAny_isSame_ref_self (ao (aH ?_)))
     simp only [if_true]
     refine ih (j + 1) _ Q (by omega) (by omega) rfl (λ j' i' a z h3 h4=>hit j' i' a z (by omega) h4) λ hn=>free λ j' i' a z h3 h4 h5 h6 h7=>?_
     by_cases hj:j'=j
     ·subst hj
      rw [a3] at h5
      cases h5
      rw [hei] at h6
      cases h6
      exact e (ha'.inj h7)
     ·rcases cH j' j with hl | hg
      ·refine a4b j' i' (by omega) hl h5 ?_
       exact nI hE h6 h7
      ·exact hn j' i' a z (by omega) h4 h5 h6 h7
  ·rw [a5]
   dsimp only
   refine aH (free λ j i a z h3 h4 h5 h6 h7=>a1 j i h3 h4 h5 ?_)
   exact nI hE h6 h7
end
def Reach(pl:List Nat)(x:Int)(j:Nat):Prop:=∃ m,(sq x m).1=j /\ ∀ m',m' < m->(sq x m').1∈pl
def uz(prog:Program)(w:World)(led:Bool)(h:Heap)(d:Addr)(ks:List (bf × Addr)):Prop :=
 ∃ o es ep t,h.get? d=some o /\ o.ExactSet /\ o.data=.set es ep t /\ SG.Tab led es t /\ t.mask=7 /\ es.toList.Perm (ks.map λ z=>(aS prog w z.1,Value.ref z.2)) /\ (ks.map (·.1)).Nodup /\ ks.length <= 4 /\
  ∀ z∈es.toList.zip t.place.toList,Reach t.place.toList z.1.1 z.2
section
variable {prog:Program}{w:World}{A:Around}{E:Value->Shared->Prop}{s:Shared}
theorem uz.at'{ks:List (bf × Addr)}(S:uz prog w led h d ks)(e:∀ o,h.get? d=some o->h'.get? d=some o):uz prog w led h' d ks:=by
 obtain ⟨o,es,ep,t,ho,r⟩:=S
 exact ⟨o,es,ep,t,e o ho,r⟩
theorem CG{k:cX}(hk:fj s.heap k v)(h:∀ b,Q b s):wpAny (model prog w) A (hashByValue (n + 1) v) Q E s:=by
 cases k with
 | none =>
  obtain ⟨t,rfl⟩:=hk
  exact wpAny_of_eq (a:=false) (by first | rfl | (unfold hashByValue; rfl)) (h false)
 | some p =>
  obtain ⟨a,o,m,t,u,rfl,h1,h2,h3⟩:=hk
  have hT:s.TypeIs (.ref a) "tuple" := ⟨o,h1,h2⟩
  unfold hashByValue
  refine ao (wpAny_specialOf hT F.slot_tuple_hash.lookup ?_)
  dsimp only
  refine ao (wpAny_seqItems h1 h3 ?_)
  refine ao ?_
  show wpAny _ _ (forIn #[Value.int p.1 t,Value.int p.2 u] _ _) _ _ s
  rw [<- jA]
  refine wpAny_forIn_list _ (λ rest r s'=>r.1=none /\ s'=s /\ ∀ v∈rest,∃ i t,v=Value.int i t) _ ?_ ?_ _ _ ⟨rfl,rfl,λ v hv=>by simp at hv; rcases hv with e | e <;> exact ⟨_,_,e⟩⟩
  ·rintro v rest r s' ⟨hr,rfl,hall⟩
   obtain ⟨i,t,rfl⟩:=hall v gI
   refine ao (wpAny_of_eq (a:=true) (by first | rfl | (unfold hashByValue; rfl)) ?_)
   simp only [eT,bG,if_false]
   exact aH ⟨rfl,rfl,λ u A2=>hall u (cV _ A2)⟩
  ·rintro ⟨r1,r2⟩ s' ⟨hr,rfl,_⟩
   simp only at hr
   subst hr
   exact aH (h true)
theorem CH(hk:bH s.heap k a)(h:∀ b,Q b s):wpAny (model prog w) A (hashByValue 8 (.ref a)) Q E s:=by
 obtain ⟨o,n,t,v,ho,hc,hd,hv⟩:=hk
 have hT:s.TypeIs (.ref a) "tuple" := ⟨o,ho,hc⟩
 unfold hashByValue
 refine ao (wpAny_specialOf hT F.slot_tuple_hash.lookup ?_)
 dsimp only
 refine ao (wpAny_seqItems ho hd ?_)
 refine ao ?_
 show wpAny _ _ (forIn #[Value.int k.1 t,v] _ _) _ _ s
 rw [<- jA]
 refine wpAny_forIn_list _ (λ rest r s'=>s'=s /\ r.1=none /\ ∀ u∈rest,(∃ i t,u=Value.int i t) \/ fj s.heap k.2 u) _ ?_ ?_ _ _ ⟨rfl,rfl,λ u hu=>by simp at hu; rcases hu with e | e; exact .inl ⟨_,_,e⟩; exact .inr (e ▸ hv)⟩
 ·rintro u rest r s' ⟨rfl,hr,hall⟩
  refine ao ?_
  have rest':∀ y∈rest,(∃ i t,y=Value.int i t) \/ fj s'.heap k.2 y:=λ u A2=>hall u (cV _ A2)
  have go:wpAny (model prog w) A (hashByValue 7 u) (λ _ s2=>s2=s') E s':=by
   rcases hall u gI with ⟨i,t,rfl⟩ | hu
   ·exact wpAny_of_eq (a:=true) (by first | rfl | (unfold hashByValue; rfl)) rfl
   ·exact CG (n:=6) hu λ _=>rfl
  refine wpAny_mono go (λ b s2=>?_) λ _ _ x=>x
  rintro rfl
  cases b
  ·simp only [Bool.not_false,if_true]
   exact aH (aH (h false))
  ·simp only [eT,bG,if_false]
   exact aH ⟨rfl,rfl,rest'⟩
 ·rintro ⟨r1,r2⟩ s' ⟨rfl,hr,_⟩
  simp only at hr
  subst hr
  exact aH (h true)
theorem zB{α β:Type}(xs:Array α)(ys:Array β)(hl:xs.size=ys.size)(p:Nat)(x:α)(y:β):(SetTable.insertAt xs p x).toList.zip (SetTable.insertAt ys p y).toList=(xs.toList.take p).zip (ys.toList.take p)++(x,y) :: (xs.toList.drop p).zip (ys.toList.drop p):=by
 rw [SetTable.toList_insertAt,SetTable.toList_insertAt,List.zip_append (by rw [cu,cu,cC,cC,hl])]
 rfl
theorem zC{pl pl':List Nat}(h:∀ j∈pl,j∈pl'){x:Int}{j:Nat}(r:Reach pl x j):Reach pl' x j:=let ⟨m,e,q⟩:=r; ⟨m,e,λ m' hm=>h _ (q m' hm)⟩
theorem JD{ks:List (bf × Addr)}(hu:A.units + 2 < cLine)(S:uz prog w led s.heap d ks)(hks:∀ z∈ks,bH s.heap z.1 z.2)(hk:bH s.heap k x)(hl:ks.length <= 3)
  (h:∀ b h' tk,s.toks <= tk->Heap.SameBut d s.heap h'->uz prog w led h' d (if k∈ks.map (·.1) then ks else ks++[(k,x)])->Q b { s with heap:=h',toks:=tk }):wpAny (model prog w) A (setAdd d (.ref x)) Q E s:=by
 obtain ⟨o,es,ep,t,ho,hx,hd,T,hm,perm,nd,h4,hch⟩:=S
 have hsz:es.size=ks.length:=by rw [<- cC,perm.length_eq,au]
 have hE:OL prog w s.heap es:=λ i e he=>by
  have me:e∈es.toList:=by rw [<- d8] at he; exact fS he
  obtain ⟨z,hz,rfl⟩:=aG.mp (perm.mem_iff.mp me)
  exact ⟨z.1,z.2,rfl,hks z hz⟩
 unfold setAdd
 refine wpAny_holding (ao (vW (by omega) hk ?_))
 generalize hs1:({ s with toks:=s.toks + (1 + lP k.2 + 1) }:Shared)=s1
 have eh:s1.heap=s.heap:=by rw [<- hs1]
 have et:s.toks <= s1.toks:=by rw [<- hs1]; exact kI _ _
 have es1:∀ h' , ({ s1 with heap:=h' }:Shared)={ s with heap:=h',toks:=s1.toks }:=λ h'=>by rw [<- hs1]
 rw [<- eh] at ho hE hk
 unfold setAddHashed setAddHashedIn
 refine wpAny_holding (ao (wpAny_setState_of ho hd T.fits ?_))
 dsimp only
 have hns:byScan (.ref x) es=false:=rfl
 rw [hns]
 simp only [bG,if_false]
 unfold setSearch
 obtain ⟨m,m20,he,hne⟩:=vZ T.Cr T.up (by rw [T.sz]; omega) (aS prog w k)
 have inp:∀ j,t.slot j ≠ .empty->j∈t.place.toList:=λ j hj=>by
  rcases lQ T.up T.Cr j with ⟨e,_⟩ | ⟨i,_,e⟩
  ·exact absurd e hj
  ·rw [<- d8] at e
   exact fS e
 refine ao (search hu ho hd T hm hE hk m20 he hne 100000 0 none _ (aQ _) (by omega) (CF hm _) (λ j i a z _ hj hsl hei ha=>?_) (λ hn=>?_))
 ·dsimp only
  have hin:k∈ks.map (·.1):=by
   obtain ⟨k2,a2,e2,h2⟩:=hE i _ hei
   have e4:a=a2:=Value.ref.inj (congrArg Prod.snd e2)
   have me:((z,.ref a):Int × Value)∈es.toList:=by rw [<- d8] at hei; exact fS hei
   obtain ⟨y,hy,ey⟩:=aG.mp (perm.mem_iff.mp me)
   have e5:y.2=a:=Value.ref.inj (congrArg Prod.snd ey)
   have hy2:=hks y hy
   rw [e5,<- eh] at hy2
   rw [<- hy2.inj ha]
   exact aG.mpr ⟨y,hy,rfl⟩
  refine aH ?_
  have:=h false s.heap s1.toks et (pN d s.heap) (by rw [if_pos hin]; exact ⟨o,es,ep,t,by rw [<- eh]; exact ho,hx,hd,T,hm,perm,nd,h4,hch⟩)
  rw [<- es1,<- eh] at this
  exact this
 ·dsimp only
  have Ff:k ∉ ks.map (·.1):=λ hin=>by
   obtain ⟨y,hy,rfl⟩:=aG.mp hin
   have me:((aS prog w y.1,.ref y.2):Int × Value)∈es.toList:=perm.mem_iff.mpr (aG.mpr ⟨y,hy,rfl⟩)
   obtain ⟨i,hi⟩:=eU.mp me
   have hil:i < t.place.size:=by rw [T.sz,<- cC]; exact (fu hi).1
   have hp:t.place.toList[i]? = some t.place[i]:=by rw [d8]; exact d7 hil
   have hz:(((aS prog w y.1,.ref y.2):Int × Value),t.place[i])∈es.toList.zip t.place.toList:=by
    refine eU.mpr ⟨i,?_⟩
    rw [kG]
    exact ⟨hi,hp⟩
   obtain ⟨m',e1,e2⟩:=hch _ hz
   dsimp only at e1 e2
   have DX:t.slot t.place[i]=.live i:=sI T.up T.Cr (by rw [d7 hil])
   have Xp:m' < m:=by
    rcases cH m' m with hl | hg
    ·exact hl
    ·exfalso
     rcases Nat.eq_or_lt_of_le hg with e | hlt
     ·rw [e,e1,DX] at he
      cases he
     ·have:=e2 m hlt
      obtain ⟨i2,hi2⟩:=eU.mp this
      rw [d8] at hi2
      rw [sI T.up T.Cr hi2] at he
      cases he
   rw [d8] at hi
   exact hn m' i y.2 _ (aQ _) Xp (by rw [e1]; exact DX) hi (by rw [eh]; exact hks y hy)
  refine ao (wpAny_setState_of ho hd T.fits ?_)
  dsimp only
  have Oq:t.put (sq (aS prog w k) m).1=({ t with place:=SetTable.insertAt t.place (SetTable.below t.place (sq (aS prog w k) m).1) (sq (aS prog w k) m).1 },SetTable.below t.place (sq (aS prog w k) m).1):=by
   unfold SetTable.put
   rw [SG.lH T.Cr]
   rfl
  rw [Oq]
  dsimp only
  have LS:=SN.ku T.up (SG.kR T.up he)
  have FI:(SetTable.insertAt es (SetTable.below t.place (sq (aS prog w k) m).1) (aS prog w k,.ref x)).toList.Perm (es.toList++[(aS prog w k,.ref x)]):=by
   have:=SetTable.insertAt_perm es (SetTable.below t.place (sq (aS prog w k) m).1) (aS prog w k,Value.ref x)
   rwa [Array.toList_push] at this
  have zD:(SetTable.insertAt t.place (SetTable.below t.place (sq (aS prog w k) m).1) (sq (aS prog w k) m).1).toList.Perm (t.place.toList++[(sq (aS prog w k) m).1]):=by
   have:=SetTable.insertAt_perm t.place (SetTable.below t.place (sq (aS prog w k) m).1) (sq (aS prog w k) m).1
   rwa [Array.toList_push] at this
  have hz:=zB es t.place T.sz.symm (SetTable.below t.place (sq (aS prog w k) m).1) (aS prog w k,Value.ref x) (sq (aS prog w k) m).1
  generalize SetTable.insertAt es (SetTable.below t.place (sq (aS prog w k) m).1) (aS prog w k,Value.ref x)=lK at FI hz ⊢
  generalize SetTable.insertAt t.place (SetTable.below t.place (sq (aS prog w k) m).1) (sq (aS prog w k) m).1=FJ at zD hz LS ⊢
  have hsz2:lK.size=es.size + 1:=by rw [<- cC,FI.length_eq,bh,cC]; rfl
  have SW:FJ.size=es.size + 1:=by rw [<- cC,zD.length_eq,bh,cC,T.sz]; rfl
  have T2:∀ b:Bool,SG.Tab led lK { t with place:=FJ,plain:=b }:=λ b=>by
   refine ⟨T.led,T.Cr,LS,?_⟩
   unfold SetTable.fits SetTable.fill
   rw [SW,hsz2,T.Cr,hm]
   simp
   omega
  have fin:∀ b:Bool,wpAny (model prog w) A (do storeSet d lK { t with place:=FJ,plain:=b }; if (!false && ({ t with place:=FJ,plain:=b }:SetTable).tooFull)=true then do setRelay d (SetTable.grown (es.size + 1)); pure true else pure true) Q E s1:=λ b=>by
   refine ao (wpAny_storeSet_of ho hd ?_ (by rw [hsz2,sizeLine_eq]; omega))
   have Ow:=dO (Obj.putSet lK { t with place:=FJ,plain:=b }) ho (by rw [putSet_of lK _ hd]; rfl)
   rw [putSet_of lK _ hd] at Ow
   have Qx:=iI s1.heap d (Obj.putSet lK { t with place:=FJ,plain:=b })
   have full:({ t with place:=FJ,plain:=b }:SetTable).tooFull=false:=by
    unfold SetTable.tooFull SetTable.fill
    dsimp only
    rw [T.Cr,hm,SW]
    simp
    omega
   rw [full]
   simp only [Bool.and_false,bG,if_false]
   refine aH ?_
   rw [es1]
   refine h true _ s1.toks et (by rw [<- eh]; exact Qx) ?_
   rw [if_neg Ff]
   refine ⟨_,lK,_,_,Ow,hx,rfl,T2 b,hm,?_,?_,by rw [bh]; simp; omega,?_⟩
   ·rw [bK]
    exact FI.trans (perm.append_right _)
   ·rw [bK,eV]
    refine ⟨nd,by simp,λ a ha c hc e=>Ff ?_⟩
    have hc':c=k:=by simpa using hc
    rw [<- hc',<- e]
    exact ha
   ·intro y hy
    show Reach FJ.toList y.1.1 y.2
    have up:∀ j∈t.place.toList,j∈FJ.toList:=λ j hj=>zD.mem_iff.mpr (iK _ hj)
    replace hy:y∈lK.toList.zip FJ.toList:=hy
    rw [hz] at hy
    have old:∀ y,y∈es.toList.zip t.place.toList->Reach FJ.toList y.1.1 y.2:=λ y hy=>zC up (hch y hy)
    rcases aO.mp hy with hy | hy
    ·refine old y ?_
     obtain ⟨i,hi⟩:=eU.mp hy
     rw [kG,List.getElem?_take,List.getElem?_take] at hi
     refine eU.mpr ⟨i,kG.mpr ?_⟩
     split at hi
     ·exact hi
     ·exact nomatch hi.1
    ·rcases aJ.mp hy with rfl | hy
     ·exact ⟨m,rfl,λ m' hm'=>up _ (inp _ (hne m' hm'))⟩
     ·refine old y ?_
      obtain ⟨i,hi⟩:=eU.mp hy
      rw [kG,List.getElem?_drop,List.getElem?_drop] at hi
      exact eU.mpr ⟨_,kG.mpr hi⟩
  split
  ·refine ao (CH hk λ b=>?_)
   cases b
   ·exact fin false
   ·exact fin t.plain
  ·refine ao (aH ?_)
   exact fin t.plain
def nJ(val:Nat->bf × Addr):Nat->List (bf × Addr)
 | 0=>[]
 | i + 1=>if (val i).1∈(nJ val i).map (·.1) then nJ val i else nJ val i++[val i]
theorem v5(val:Nat->bf × Addr):∀ i,(nJ val i).length <= i
 | 0=>az _
 | i + 1=>by
  have:=v5 val i
  unfold nJ
  split
  ·omega
  ·rw [bh,fX]; omega
theorem lR(val:Nat->bf × Addr):∀ (i:Nat) (z:bf × Addr),z∈nJ val i->∃ j,j < i /\ z=val j
 | 0,z,h=>by simp [nJ] at h
 | i + 1,z,h=>by
  unfold nJ at h
  split at h
  ·obtain ⟨j,hj,e⟩:=lR val i z h
   exact ⟨j,by omega,e⟩
  ·rcases aO.mp h with h | h
   ·obtain ⟨j,hj,e⟩:=lR val i z h
    exact ⟨j,by omega,e⟩
   ·exact ⟨i,by omega,aC.mp h⟩
theorem v7(val:Nat->bf × Addr):∀ (i:Nat) (k:bf),k∈(nJ val i).map (·.1) ↔ ∃ j,j < i /\ k=(val j).1
 | 0,k=>by simp [nJ]
 | i + 1,k=>by
  have ih:=v7 val i
  unfold nJ
  split
  ·rename_i hin
   rw [ih k]
   constructor
   ·rintro ⟨j,hj,e⟩; exact ⟨j,by omega,e⟩
   ·rintro ⟨j,hj,e⟩
    rcases cH j i with hlt | hge
    ·exact ⟨j,hlt,e⟩
    ·have:j=i:=by omega
     subst this
     rw [e]
     exact (ih _).mp hin
  ·rw [bK,aO,ih k]
   constructor
   ·rintro (⟨j,hj,e⟩ | e)
    ·exact ⟨j,by omega,e⟩
    ·exact ⟨i,by omega,by simpa using e⟩
   ·rintro ⟨j,hj,e⟩
    rcases cH j i with hlt | hge
    ·exact .inl ⟨j,hlt,e⟩
    ·have:j=i:=by omega
     subst this
     exact .inr (by simp [e])
theorem FL{l:Addr}{items:Array Value}{val:Nat->bf × Addr}{Q:Value->Shared->Prop}(hu:A.units + 10 < cLine)(hh:A.handled=none)(hl:s.heap.IsList l items)(hv:∀ (i:Nat) (v:Value),items[i]? = some v->v=.ref (val i).2 /\ bH s.heap (val i).1 (val i).2)(hn:items.size <= 4)
  (h:∀ (h':Heap) (tk:Nat),uz prog w (!SG.bU w) h' s.heap.objs.size (nJ val items.size)->(∀ b o,b < s.heap.objs.size->s.heap.get? b=some o->h'.get? b=some o)->Q (.ref s.heap.objs.size) { s with heap:=h',toks:=tk }):
  wpAny (model prog w) A (call (.type "set") [.ref l]) Q E s:=by
 refine SG.set_list hh hl (λ i h=>uz prog w (!SG.bU w) h s.heap.objs.size (nJ val i) /\ ∀ b o,b < s.heap.objs.size->s.heap.get? b=some o->h.get? b=some o) (λ h' k e=>⟨⟨_,#[],0,_,e,⟨rfl,rfl,rfl⟩,rfl,SG.sG,rfl,kF _,jc,aQ _,λ z hz=>nomatch hz⟩,λ b o _ e=>k b o e⟩)
  (λ i h h' ⟨q,k⟩ hk=>⟨q.at' λ o e=>hk _ o (az _) e,λ b o hb e=>hk b o (gK hb) (k b o hb e)⟩) (λ A' E' i v s' Q hh' A2 hi ⟨hS,hkp⟩ hQ=>?_) λ h' tk ⟨q,k⟩ kk=>h h' tk q kk
 obtain ⟨rfl,hhi⟩:=hv i v hi
 have hlt:=(jB.mp hi).1
 have stay:∀ j v,items[j]? = some v->bH s'.heap (val j).1 (val j).2:=λ j v hj=>(hv j v hj).2.stay λ b o _ _ _ _ e=>hkp b o (aF e) e
 have hle:=v5 val i
 refine JD (by omega) hS (λ z hz=>?_) (stay i _ hi) (by omega) λ b h' tk htk sb HZ=>hQ b h' tk htk sb ⟨HZ,λ b' o hb e=>?_⟩
 ·obtain ⟨j,hj,rfl⟩:=lR val i z hz
  exact stay j _ (d7 (by omega))
 ·rw [sb.2 b' (aT hb)]
  exact hkp b' o hb e
end
open PySem.W
section
variable {prog:Program}{w:World}{A:Around}{E:Value->Shared->Prop}{s:Shared}
set_option maxHeartbeats 1000000 in
theorem FN{vs:List Value}{r:Nat->Int}{P:PySem.Fin->Shared->Prop}(ho:s.heap.get? a=some (seqObj "list" vs.toArray n))(h64:vs.length < 64)
  (hT:∀ G:Heap,(∀ b o vs' n',o.cls=.type "tuple" -> o.data=.seq vs' n'->s.heap.get? b=some o->G.get? b=some o)->∃ fs:List Value,KatTups G vs fs /\ fs.length=vs.length /\ ∀ v∈fs,∃ i t,v=Value.int i t)
  (hc:∀ G:Heap,(∀ b o vs' n',o.cls=.type "tuple" -> o.data=.seq vs' n'->s.heap.get? b=some o->G.get? b=some o)->∀ i j,i < vs.length->j < vs.length->∀ (E':Value->Shared->Prop) (C:Bool->Shared->Prop),C (decide (r i < r j)) { s with heap:=G } -> wpAny (model prog w) A (keyLt' (tuples' true) (vs.getD i Value.none) (vs.getD j Value.none)) C E' { s with heap:=G })
  (inj:∀ i j,i < vs.length->j < vs.length->r i=r j->i=j)
  (h:∀ q:Array Nat,SN.Pl vs.length q->SN.Up r q vs.length->P (.done (.ret .none)) { s with heap:=sortedHeap s.heap a vs (List.toArray (q.toList.map λ i=>vs.getD i Value.none)) }):
  wpAny (model prog w) A (Builtin.«list.sort» ⟨[.ref a],[]⟩) P E s:=by
 have ha:a < s.heap.objs.size:=aF ho
 obtain ⟨e1,OB⟩:∃ e1,(s.heap.update a (Obj.mapSeq λ _=>#[])).get? a=some (seqObj "list" #[] e1):=⟨_,get?_update_seq ho (λ _=>#[])⟩
 have kp:∀ b o,b ≠ a->s.heap.get? b=some o->(((s.heap.update a (Obj.mapSeq λ _=>#[])).push (seqObj "tuple" vs.toArray 0)).push (seqObj "list" #[] 0)).get? b=some o:=λ b o hba e=>cB _ (cB _ ((dN _ _ _ _ hba).trans e))
 have ho6:(((s.heap.update a (Obj.mapSeq λ _=>#[])).push (seqObj "tuple" vs.toArray 0)).push (seqObj "list" #[] 0)).get? a=some (seqObj "list" #[] e1):=cB _ (cB _ OB)
 rw [list_sort_plain]
 refine ao (listItems_at ho rfl (ao (listUpdate_at ho rfl ?_ (by rw [aV,sizeLine_eq]; omega) (aQ _))))
 refine ao (seqEpoch_at OB rfl (ao (wpAny_newTuple ?_ (by show vs.length <= _; rw [sizeLine_eq]; omega))))
 refine ao (wpAny_newList (wpAny_holding ?_) (aQ _))
 show wpAny (model prog w) A _ P E { s with heap:=((s.heap.update a (Obj.mapSeq λ _=>#[])).push (seqObj "tuple" vs.toArray 0)).push (seqObj "list" #[] 0) }
 have KG:∀ b o vs' n',o.cls=.type "tuple" -> o.data=.seq vs' n'->s.heap.get? b=some o->(((s.heap.update a (Obj.mapSeq λ _=>#[])).push (seqObj "tuple" vs.toArray 0)).push (seqObj "list" #[] 0)).get? b=some o:=λ b o _ _ hc _ e=>kp b o (λ z=>by subst z; rw [ho] at e; cases e; exact absurd (show Value.type "list" = .type "tuple" from hc) (by decide)) e
 have uh:∀ out,((((s.heap.update a (Obj.mapSeq λ _=>#[])).push (seqObj "tuple" vs.toArray 0)).push (seqObj "list" #[] 0))).update a (Obj.mapSeq λ _=>out)=sortedHeap s.heap a vs out:=λ _=>rfl
 generalize (((s.heap.update a (Obj.mapSeq λ _=>#[])).push (seqObj "tuple" vs.toArray 0)).push (seqObj "list" #[] 0))=G at *
 dsimp only
 have fin:∀ q:Array Nat,SN.Pl vs.length q->SN.Up r q vs.length->P (.done (.ret .none)) { s with heap:=G.update a (Obj.mapSeq λ _=>List.toArray (q.toList.map λ i=>vs.getD i Value.none)) }:=λ q hq u=>by
  rw [uh]
  exact h q hq u
 by_cases h2:vs.toArray.size < 2
 ·rw [if_pos h2,if_pos h2]
  refine ao (aH ?_)
  rw [StateT.run_pure]
  refine ao (aH (ao (seqEpoch_at ho6 rfl (ao (listUpdate_at ho6 rfl ?_ (aQ _) ?_)))))
  ·simp only [bne_self_eq_false,bG,if_false]
   have:=fin (List.toArray (List.range vs.length)) (SN.Pl.start _) (λ i j hij hj=>by rw [aV] at h2; omega)
   have e:(arrOf (SortSt.mk' general' (vs.toArray.zip vs.toArray) #[] 7 none)).map (·.2)=List.toArray ((List.toArray (List.range vs.length)).toList.map λ i=>vs.getD i Value.none):=by
    exact SN.AZ (by rw [aV] at h2; exact h2)
   rw [e]
   exact aH this
  ·show ((vs.toArray.zip vs.toArray).map _).size <= _
   rw [Array.size_map,Array.size_zip,aV,sizeLine_eq]
   omega
 ·have h2':2 <= vs.length:=by rw [aV] at h2; omega
  rw [if_neg h2,if_neg h2]
  obtain ⟨fs,k1,k2,k3⟩:=hT G KG
  refine ao (kat_kind (T:=.type "int") k1 (by omega) (λ v hv=>by obtain ⟨i,t,rfl⟩:=k3 v hv; exact Looks.of_pure rfl) rfl ?_)
  have kd:((Value.type "int") != (Value.type "tuple"))=true:=by decide
  rw [kd]
  refine ao (wpAny_mono (kat_run (prog:=prog) (w:=w) (A:=A) (κ:=tuples' true) (vs:=vs) (ks:=vs) (Q:=λ st' s'=>s'={ s with heap:=G } /\ failedOf st'=none /\ ∃ q,SN.Pl vs.length q /\ SN.Up r q vs.length /\ (arrOf st').map (·.2)=List.toArray (q.toList.map λ i=>vs.getD i Value.none))
   (G:=λ q s'=>s'={ s with heap:=G } /\ SN.Pl vs.length q /\ SN.Up r q vs.length) rfl h2' (by omega) (λ q st' s' _ har hf hg=>⟨hg.1,hf,q,hg.2.1,hg.2.2,kat_snds rfl har⟩) ?_) ?_ λ _ _ e=>e)
  ·refine SN.AV (r:=r) (λ i j hi hj C hC=>?_) inj (by omega) λ q hq u=>⟨rfl,hq,u⟩
   exact hc G KG i j hi hj _ C hC
  ·rintro ⟨⟨⟩,st'⟩ s' ⟨rfl,hf,q,hq,u,eo⟩
   dsimp only
   refine ao (seqEpoch_at ho6 rfl (ao (listUpdate_at ho6 rfl ?_ (aQ _) ?_)))
   ·rw [hf]
    simp only [bne_self_eq_false,bG,if_false]
    rw [eo]
    exact aH (fin q hq u)
   ·rw [eo,aV,au,cC,hq.sz,sizeLine_eq]
    omega
end
def kY(k:bf):Int:=k.1 * 10000 + match k.2 with | none=>0 | some p=>SN.rk p
def OM(k:bf):Prop:=∀ p,k.2=some p->0 <= p.1 /\ p.1 < 2 /\ 0 <= p.2 /\ p.2 < 1000
def Alike(x y:bf):Prop:=x.2.isSome=y.2.isSome
theorem JE{x:bf}(hx:OM x)(hy:OM y)(ha:Alike x y)(e:kY x=kY y):x=y:=by
 obtain ⟨p,a⟩:=x
 obtain ⟨q,b⟩:=y
 unfold kY at e
 cases a with
 | none =>
  cases b with
  | none =>
   dsimp only at e
   have:p=q:=by omega
   rw [this]
  | some y=>cases ha
 | some x =>
  cases b with
  | none=>cases ha
  | some y =>
   have h1:=hx x rfl
   have h2:=hy y rfl
   obtain ⟨x1,x2⟩:=x
   obtain ⟨y1,y2⟩:=y
   change p * 10000 + (x1 * 1000 + x2)=q * 10000 + (y1 * 1000 + y2) at e
   dsimp only at h1 h2
   have e1:p=q:=by omega
   have e2:x1=y1:=by omega
   have e3:x2=y2:=by omega
   rw [e1,e2,e3]
theorem FO{α β:Type}{f:α->β}{l m:List β}(h:l.Perm m):∀ {zs:List α},m=zs.map f->∃ ys:List α,ys.Perm zs /\ l=ys.map f:=by
 induction h with
 | nil=>intro zs e; exact ⟨[],by rw [List.map_eq_nil_iff.mp e.symm],rfl⟩
 | cons x h ih =>
  intro zs e
  cases zs with
  | nil=>cases e
  | cons z zs =>
   have e1:=List.cons.inj e
   obtain ⟨ys,h1,h2⟩:=ih e1.2
   exact ⟨z :: ys,h1.cons z,by rw [bO,<- h2,<- e1.1]⟩
 | swap x y l =>
  intro zs e
  cases zs with
  | nil=>cases e
  | cons z zs =>
   cases zs with
   | nil=>cases (List.cons.inj e).2
   | cons z2 zs =>
    have e1:=List.cons.inj e
    have e2:=List.cons.inj e1.2
    exact ⟨z2 :: z :: zs,.swap _ _ _,by rw [bO,bO,<- e1.1,<- e2.1,<- e2.2]⟩
 | trans _ _ i1 i2 =>
  intro zs e
  obtain ⟨ys,h1,h2⟩:=i2 e
  obtain ⟨xs,h3,h4⟩:=i1 h2
  exact ⟨xs,h3.trans h1,h4⟩
theorem range_getD{α:Type}(l:List α)(d:α):(List.range l.length).map (λ i=>l.getD i d)=l:=by
 apply List.ext_getElem?
 intro i
 rw [aY]
 rcases cH i l.length with h | h
 ·rw [List.getElem?_range h,dJ h]
  show some (l.getD i d)=_
  rw [ki,dJ h]
  rfl
 ·rw [ja (by rw [List.length_range]; exact h),ja h]
  rfl
section
variable {prog:Program}{w:World}{A:Around}{E:Value->Shared->Prop}{s:Shared}
theorem FP{y:Addr}{ox oy:Obj}{n k:Nat}{a b c d:Int}{t1 t2 t3 t4:Tok}{Q:Value->Shared->Prop}(hu:A.units < cLine)(hx:s.heap.get? x=some ox)(cx:ox.cls=.type "tuple")(dx:ox.data=.seq #[.int a t1,.int b t2] n)(hy:s.heap.get? y=some oy)(cy:oy.cls=.type "tuple")(dy:oy.data=.seq #[.int c t3,.int d t4] k)
  (h:Q (.bool (if a=c then decide (b < d) else decide (a < c))) s):wpAny (model prog w) A (compareOp .Lt (.ref x) (.ref y)) Q E s:=by
 have tx:s.TypeIs (.ref x) "tuple" := ⟨ox,hx,cx⟩
 have ty:s.TypeIs (.ref y) "tuple" := ⟨oy,hy,cy⟩
 refine (show wpAny _ _ (richCompare .Lt (.ref x) (.ref y)) _ _ _ from wpAny_richCompare_same_room tx ty F.slot_tuple_lt (wpAny_call_entry F.slot_tuple_lt tx F.entry_tuple_lt ?_ (F.args_tuple_lt_2 _ _)) hu)
 show wpAny _ _ (isInstance (.ref y) (.type "tuple") >>= _) _ _ s
 refine ao (wpAny_isInstance ty isSubtype_tuple_tuple ?_)
 simp only [eT,bG,if_false]
 refine ao (wpAny_tupleItemsOf hx dx ?_)
 refine ao (wpAny_tupleItemsOf hy dy ?_)
 refine ao ?_
 show wpAny _ _ (forIn [(Value.int a t1,Value.int c t3),(Value.int b t2,Value.int d t4)] _ _) _ _ s
 rw [iJ]
 refine ao (ao (wpAny_eqBool_int ?_))
 by_cases e:a=c
 ·rw [show (a == c)=true by simpa using e]
  simp only [eT,bG,if_false]
  rw [if_pos e] at h
  refine aH ?_
  dsimp only
  rw [iJ]
  refine ao (ao (wpAny_eqBool_int ?_))
  by_cases e2:b=d
  ·rw [show (b == d)=true by simpa using e2]
   simp only [eT,bG,if_false]
   refine aH ?_
   dsimp only
   rw [jC]
   refine aH ?_
   rw [decide_eq_false (by omega)] at h
   exact aH ⟨_,rfl,(λ e=>nomatch e),h⟩
  ·rw [show (b == d)=false by simpa using e2]
   simp only [Bool.not_false,if_true]
   refine ao (wpAny_rule ?_)
   refine ao (show wpAny _ _ (compareOp .Lt (.int b t2) (.int d t4)) _ _ _ from PyProof.Rows.lt_int ?_)
   exact ao (aH (aH (aH (aH ⟨_,rfl,(λ e=>nomatch e),h⟩))))
 ·rw [show (a == c)=false by simpa using e]
  simp only [Bool.not_false,if_true]
  rw [if_neg e] at h
  refine ao (wpAny_rule ?_)
  refine ao (show wpAny _ _ (compareOp .Lt (.int a t1) (.int c t3)) _ _ _ from PyProof.Rows.lt_int ?_)
  exact ao (aH (aH (aH (aH ⟨_,rfl,(λ e=>nomatch e),h⟩))))
theorem ON{y:Addr}{k1 k2:bf}(hu:A.units + 1 < cLine)(hx:bH s.heap k1 x)(hy:bH s.heap k2 y)(o1:OM k1)(o2:OM k2)(al:Alike k1 k2)(h:Q (decide (kY k1 < kY k2)) s):wpAny (model prog w) A (keyLt' (tuples' true) (.ref x) (.ref y)) Q E s:=by
 obtain ⟨ox,n,t,u,h1,c1,d1,Xv⟩:=hx
 obtain ⟨oy,m,t',u',h2,c2,d2,SX⟩:=hy
 obtain ⟨p,a⟩:=k1
 obtain ⟨q,b⟩:=k2
 dsimp only at d1 d2 Xv SX
 refine kat_lt h1 d1 h2 d2 (kat_cons (wpAny_eqBool_int ?_))
 by_cases e:p=q
 ·subst e
  rw [show (p == p)=true by simp]
  refine kat_yes (kat_cons (OH hu Xv SX ?_))
  by_cases e2:a=b
  ·subst e2
   rw [decide_eq_true rfl]
   rw [decide_eq_false (by omega)] at h
   exact kat_yes (kat_nil h)
  ·rw [decide_eq_false e2]
   cases a with
   | none =>
    cases b with
    | none=>exact absurd rfl e2
    | some y=>cases al
   | some x1 =>
    cases b with
    | none=>cases al
    | some y1 =>
     obtain ⟨a1,oa,na,ta,ua,rfl,ga,ca,da⟩:=Xv
     obtain ⟨b1,ob,nb,tb,ub,rfl,gb,cb,db⟩:=SX
     refine kat_no (kat_one _ _ (FP (by omega) ga ca da gb cb db ?_))
     have b1:=o1 x1 rfl
     have b2:=o2 y1 rfl
     have er:decide (kY (p,some x1) < kY (p,some y1))=if x1.1=y1.1 then decide (x1.2 < y1.2) else decide (x1.1 < y1.1):=by
      obtain ⟨x1,x2⟩:=x1
      obtain ⟨y1,y2⟩:=y1
      dsimp only at b1 b2
      change decide (p * 10000 + (x1 * 1000 + x2) < p * 10000 + (y1 * 1000 + y2))=if x1=y1 then decide (x2 < y2) else decide (x1 < y1)
      split <;> simp only [decide_eq_decide] <;> omega
     rw [er] at h
     exact h
 ·rw [show (p == q)=false by simpa using e]
  refine kat_no (oneLt_int ?_)
  have er:decide (kY (p,a) < kY (q,b))=decide (p < q):=by
   have ba:0 <= kY (p,a) - p * 10000 /\ kY (p,a) - p * 10000 < 10000:=by
    cases a with
    | none=>change 0 <= p * 10000 + 0 - p * 10000 /\ p * 10000 + 0 - p * 10000 < 10000; omega
    | some x=>have:=o1 x rfl; change 0 <= p * 10000 + (x.1 * 1000 + x.2) - p * 10000 /\ p * 10000 + (x.1 * 1000 + x.2) - p * 10000 < 10000; omega
   have bb:0 <= kY (q,b) - q * 10000 /\ kY (q,b) - q * 10000 < 10000:=by
    cases b with
    | none=>change 0 <= q * 10000 + 0 - q * 10000 /\ q * 10000 + 0 - q * 10000 < 10000; omega
    | some x=>have:=o2 x rfl; change 0 <= q * 10000 + (x.1 * 1000 + x.2) - q * 10000 /\ q * 10000 + (x.1 * 1000 + x.2) - q * 10000 < 10000; omega
   simp only [decide_eq_decide]
   omega
  rw [<- er]
  exact h
abbrev kB(h:Heap):List Value->List bf->Prop:=Paired λ v k=>∃ a,v=.ref a /\ bH h k a
theorem kB.stay{vs:List Value}{ks:List bf}(x:kB h vs ks)(e:∀ b o vs n,o.cls=.type "tuple" -> o.data=.seq vs n->h.get? b=some o->h'.get? b=some o):kB h' vs ks:=L2.Paired.BY x λ v k ⟨a,e1,e2⟩=>⟨a,e1,e2.stay e⟩
theorem kB.tups:∀ {vs:List Value} {ks:List bf},kB h vs ks->∃ fs:List Value,KatTups h vs fs /\ fs.length=vs.length /\ ∀ v∈fs,∃ i t,v=Value.int i t
 | _,_,.nil=>⟨[],.nil,rfl,λ v hv=>nomatch hv⟩
 | _,_,.cons ⟨a,e,o,n,t,v,h1,h2,h3,_⟩ r=>by
  obtain ⟨fs,a1,a2,a3⟩:=kB.tups r
  subst e
  refine ⟨_ :: fs,KatTups.cons h1 h2 h3 rfl a1,by simp [a2],λ v hv=>?_⟩
  rcases aJ.mp hv with e | hv
  ·exact ⟨_,_,e⟩
  ·exact a3 v hv
theorem kB.get:∀ {vs:List Value} {ks:List bf} (_:kB h vs ks) {i:Nat} (_:i < vs.length),∃ a,vs.getD i Value.none=.ref a /\ bH h (ks.getD i (0,none)) a
 | _,_,.cons ⟨a,e,q⟩ r,0,_=>⟨a,e,q⟩
 | _,_,.cons _ r,i + 1,hi=>by
  obtain ⟨a,h1,h2⟩:=kB.get r (i:=i) (by simpa using hi)
  exact ⟨a,by simpa using h1,by simpa using h2⟩
theorem v8{zs:List (bf × Addr)}{Q:Value->Shared->Prop}(hu:A.units + 8 < cLine)(hh:A.handled=none)(S:uz prog w (!SG.bU w) s.heap d zs)(hzs:∀ z∈zs,bH s.heap z.1 z.2)(hok:∀ z∈zs,OM z.1)(hal:∀ z∈zs,∀ y∈zs,Alike z.1 y.1)
  (h:∀ (p:Addr) (h':Heap) (d':Drawn) (tk c:Nat) (vs:List Value) (ks:List bf),s.heap.objs.size <= p->(∀ b x,s.heap.get? b=some x->h'.get? b=some x)->h'.get? p=some { cls:=.type "list", data:=.seq vs.toArray c } -> Paired (λ v k=>∃ a,v=Value.ref a /\ (k,a)∈zs) vs ks->(∀ k,k∈ks ↔ k∈zs.map (·.1))->ks.Pairwise (λ x y=>kY x < kY y)->vs.length=zs.length->Q (.ref p) { s with heap:=h',drawn:=d',toks:=tk }):
  wpAny (model prog w) A (call (.builtin "sorted") [.ref d]) Q E s:=by
 obtain ⟨o,es,ep,t,ho,hx,hd,T,hm,perm,nd,h4,hch⟩:=S
 have hsz:es.size=zs.length:=by rw [<- cC,perm.length_eq,au]
 refine pL kind_sorted plain_sorted entry_sorted (args_sorted1 _) ?_
 unfold Builtin.«sorted»
 refine ao (m:=checkCount "sorted" 1 1 _) (aH (ao (SG.oj (by simp [hh]) ho hx hd T (by omega) ?_)))
 intro s1 acc k1 g1 o1 uu hp
 obtain ⟨h1,gg,dd,SQ,oo⟩:=s1
 dsimp only at k1 g1 o1 uu
 subst g1 o1
 have pv:acc.Perm (zs.map λ z=>Value.ref z.2):=by
  have:=hp.trans (perm.map (·.2))
  rw [fY] at this
  exact this
 obtain ⟨ys,hys,OC⟩:∃ ys:List (bf × Addr),ys.Perm zs /\ acc=ys.map λ z=>Value.ref z.2:=by
  exact FO pv rfl
 subst OC
 have hyl:ys.length=zs.length:=hys.length_eq
 have hV:kB h1 (ys.map λ z=>Value.ref z.2) (ys.map (·.1)):=by
  have all:∀ z∈ys,bH h1 z.1 z.2:=λ z hz=>(hzs z (hys.mem_iff.mp hz)).stay λ b o _ _ _ _ e=>k1 b o e
  clear hys hyl pv hp
  induction ys with
  | nil=>exact .nil
  | cons z ys ih=>exact .cons ⟨z.2,rfl,all z (by simp)⟩ (ih λ y hy=>all y (by simp [hy]))
 refine ao (wpAny_newList ?_ (by rw [au,hyl,sizeLine_eq]; omega))
 have gN:(h1.push (seqObj "list" (ys.map λ z=>Value.ref z.2).toArray 0)).get? h1.objs.size=some (seqObj "list" (ys.map λ z=>Value.ref z.2).toArray 0):=fR _ rfl
 have Xw:=hV.stay (h':=h1.push (seqObj "list" (ys.map λ z=>Value.ref z.2).toArray 0)) λ b o _ _ _ _ e=>cB _ e
 have SY:∀ i,i < ys.length->(ys.map (·.1)).getD i (0,none)=((ys.getD i ((0,none),0)).1:bf) /\ ys.getD i ((0,none),0)∈ys:=λ i hi=>by
  rw [ki,ki,aY,dJ hi]
  exact ⟨rfl,gn hi⟩
 have lm:(ys.map λ z=>Value.ref z.2).length=ys.length:=au _
 refine ao (wpAny_holding (wpAny_call_entry slot_list_sort ⟨_,gN,rfl⟩ entry_list_sort (FN (r:=λ i=>kY ((ys.map (·.1)).getD i (0,none))) gN (by rw [lm,hyl]; omega) (λ G k=>(Xw.stay k).tups) (λ G k i j hi hj E' C hC=>?_) (λ i j hi hj e=>?_) λ q hq u=>⟨_,rfl,?_⟩) (args_list_sort _)))
 ·obtain ⟨x,ex,gx⟩:=(Xw.stay k).get hi
  obtain ⟨y,ey,gy⟩:=(Xw.stay k).get hj
  rw [lm] at hi hj
  obtain ⟨e1,m1⟩:=SY i hi
  obtain ⟨e2,m2⟩:=SY j hj
  rw [ex,ey]
  refine ON (by simp only [Around.in1]; omega) gx gy ?_ ?_ ?_ hC
  ·rw [e1]; exact hok _ (hys.mem_iff.mp m1)
  ·rw [e2]; exact hok _ (hys.mem_iff.mp m2)
  ·rw [e1,e2]; exact hal _ (hys.mem_iff.mp m1) _ (hys.mem_iff.mp m2)
 ·rw [lm] at hi hj
  obtain ⟨e1,m1⟩:=SY i hi
  obtain ⟨e2,m2⟩:=SY j hj
  change kY ((ys.map (·.1)).getD i (0,none))=kY ((ys.map (·.1)).getD j (0,none)) at e
  rw [e1,e2] at e
  have e3:=JE (hok _ (hys.mem_iff.mp m1)) (hok _ (hys.mem_iff.mp m2)) (hal _ (hys.mem_iff.mp m1) _ (hys.mem_iff.mp m2)) e
  have Vr:(ys.map (·.1)).Nodup:=(hys.map (·.1)).nodup_iff.mpr nd
  rw [<- e1,<- e2,ki,dJ (by simpa using hi),ki,dJ (by simpa using hj)] at e3
  exact (pP Vr).mp e3
 ·rw [lm] at hq u
  obtain ⟨c,hc⟩:=sortedHeap_at (h:=h1.push (seqObj "list" (ys.map λ z=>Value.ref z.2).toArray 0)) (a:=h1.objs.size) (vs:=ys.map λ z=>Value.ref z.2) (n:=0) (out:=List.toArray (q.toList.map λ i=>(ys.map λ z=>Value.ref z.2).getD i Value.none)) gN
  refine aH ⟨_,rfl,h h1.objs.size _ dd SQ c _ (q.toList.map λ i=>(ys.map (·.1)).getD i (0,none)) (gK uu) (λ b x e=>?_) hc ?_ (λ k=>?_) ?_ (by rw [au,cC,hq.sz,hyl])⟩
  ·have hb:=aF (k1 b x e)
   rw [sortedHeap_old (aT hb) (by rw [size_push']; exact je hb)]
   exact cB _ (k1 b x e)
  ·have all:∀ i∈q.toList,i < ys.length:=λ i hi=>fE.mp (hq.pm.mem_iff.mp hi)
   clear u hc hq
   generalize q.toList=l at all
   induction l with
   | nil=>exact .nil
   | cons i l ih =>
    have hi:=all i (by simp)
    refine .cons ?_ (ih λ j hj=>all j (by simp [hj]))
    obtain ⟨e1,m1⟩:=SY i hi
    refine ⟨(ys.getD i ((0,none),0)).2,?_,?_⟩
    ·show (List.map (λ z=>Value.ref z.snd) ys).getD i Value.none=_
     rw [ki,aY,ki,dJ hi]
     rfl
    ·show ((ys.map (·.1)).getD i (0,none),_)∈zs
     rw [e1]
     exact hys.mem_iff.mp m1
  ·have:=(hq.pm.map λ i=>(ys.map (·.1)).getD i (0,none)).mem_iff (a:=k)
   rw [this]
   have e:=range_getD (ys.map (·.1)) ((0,none):bf)
   rw [au] at e
   rw [e]
   exact (hys.map (·.1)).mem_iff
  ·rw [jd]
   intro i j hi hj hij
   rw [au,cC,hq.sz] at hi hj
   have:=u i j hij hj
   unfold SN.kv at this
   rw [pQ,pQ]
   have g:∀ i (hi:i < q.toList.length),q.toList[i]=q.getD i 0:=λ i hi=>by
    rw [Array.getD_eq_getD_getElem?,<- d8,dJ hi]
    rfl
   rw [g,g]
   exact this
end
end HM
namespace SN
open PySem PySem.W PySem.Spec PyProof.Rows
section
variable {prog:Program}{w:World}{A:Around}{E:Value->Shared->Prop}{s:Shared}
theorem zE{d:Addr}{vs:List Value}{ps:List (Int × Int)}{Q:Value->Shared->Prop}(hl:s.heap.IsList d vs.toArray)(hP:fL s.heap vs ps)(hb:∀ p∈ps,0 <= p.2 /\ p.2 < 1000)(nd:ps.Nodup)(h64:ps.length < 64)
  (h:∀ (p:Addr) (h':Heap) (tk c:Nat) (q:Array Nat),s.heap.objs.size <= p->(∀ b x,s.heap.get? b=some x->h'.get? b=some x)->h'.get? p=some { cls:=.type "list", data:=.seq (List.toArray (q.toList.map λ i=>vs.getD i Value.none)) c } -> Pl ps.length q->(∀ i j,i < j->j < ps.length->rk (ps.getD (q.getD i 0) (0,0)) < rk (ps.getD (q.getD j 0) (0,0)))->Q (.ref p) { s with heap:=h',toks:=tk }):
  wpAny (model prog w) A (call (.builtin "sorted") [.ref d]) Q E s:=by
 have hvl:vs.length=ps.length:=hP.length
 refine pL kind_sorted plain_sorted entry_sorted (args_sorted1 _) ?_
 unfold Builtin.«sorted»
 refine ao (m:=checkCount "sorted" 1 1 _) (aH (ao (collect_list hl ?_ (by rw [hvl,sizeLine_eq]; omega))))
 have k1:∀ b x,s.heap.get? b=some x->((s.heap.push (seqObj "list" #[] 0)).update s.heap.objs.size (Obj.mapSeq (· ++ vs.toArray))).get? b=some x:=λ b x e=>(dN _ _ _ _ (aT (aF e))).trans (cB _ e)
 have uu:s.heap.objs.size < ((s.heap.push (seqObj "list" #[] 0)).update s.heap.objs.size (Obj.mapSeq (· ++ vs.toArray))).objs.size:=by
  rw [Heap.size_update,size_push']
  omega
 generalize ((s.heap.push (seqObj "list" #[] 0)).update s.heap.objs.size (Obj.mapSeq (· ++ vs.toArray)))=h1 at *
 have Xq:fL h1 vs ps:=hP.keep λ b o _ e=>k1 b o e
 refine ao (wpAny_newList ?_ (by rw [hvl,sizeLine_eq]; omega))
 have gN:(h1.push (seqObj "list" vs.toArray 0)).get? h1.objs.size=some (seqObj "list" vs.toArray 0):=fR _ rfl
 refine ao (wpAny_holding (wpAny_call_entry slot_list_sort ⟨_,gN,rfl⟩ entry_list_sort (om gN (Xq.keep λ b o _ e=>cB _ e) hb nd h64 λ q hq u=>⟨_,rfl,?_⟩) (args_list_sort _)))
 obtain ⟨c,hc⟩:=sortedHeap_at (h:=h1.push (seqObj "list" vs.toArray 0)) (a:=h1.objs.size) (vs:=vs) (n:=0) (out:=List.toArray (q.toList.map λ i=>vs.getD i Value.none)) gN
 refine aH ⟨_,rfl,h h1.objs.size _ s.toks c q (gK uu) (λ b x e=>?_) hc hq u⟩
 have hb:=aF (k1 b x e)
 rw [sortedHeap_old (aT hb) (by rw [size_push']; exact je hb)]
 exact cB _ (k1 b x e)
end
end SN
namespace L2
open PySem PySem.Spec PyProof.Rows
variable {H H':Hp}{k:HM.bf}{v x:V}{vs:List V}{K:aA}{P:Program}{w:World}{l d:Addr}{kvs:dM}{xs:List (HM.bf × Addr × Value)}{s:Shared}{ep:Nat}
def b8(H:Hp):HM.cX->V->Prop
 | none,v=>v=.str "mark"
 | some p,v=>∃ a,v=.ref a /\ H a=some (.tup [.int p.1,.int p.2])
def aM(H:Hp)(v:V)(k:HM.bf):Prop:=∃ a u,v=.ref a /\ H a=some (.tup [.int k.1,u]) /\ b8 H k.2 u
abbrev aK(H:Hp):List V->List HM.bf->Prop:=Paired (aM H)
theorem b8.same{k:HM.cX}(h:b8 H k v)(s:aE H H'):b8 H' k v:=by
 cases k with
 | none=>exact h
 | some p=>obtain ⟨a,e,q⟩:=h; exact ⟨a,e,s _ _ q⟩
theorem aM.same(h:aM H v k)(s:aE H H'):aM H' v k:=let ⟨a,u,e,q,t⟩:=h; ⟨a,u,e,s _ _ q,t.same s⟩
theorem aK.same{ks:List HM.bf}(h:aK H vs ks)(s:aE H H'):aK H' vs ks:=Paired.BY h λ _ _ x=>x.same s
def adr:V->Addr
 | .ref a=>a
 | _=>0
theorem aM.adr(h:aM H v k):v=.ref (L2.adr v):=by obtain ⟨a,u,rfl,_⟩:=h; rfl
section
variable {X:Cx}{pins:List (Addr × Obj)}{σ:St}{H:Hp}{s:Shared}{Q:VK}
theorem Inv.thg(I:Inv X pins σ H s){k:HM.cX}{u:Value}(h:b8 H k v)(r:RelV v u):HM.fj s.heap k u:=by
 cases k with
 | none =>
  have h:v=.str "mark" := h
  subst h
  exact r
 | some p =>
  obtain ⟨a,rfl,q⟩:=h
  cases r
  obtain ⟨o,n,t,u,h1,h2,h3⟩:=I.pair q
  exact ⟨a,o,n,t,u,rfl,h1,h2,h3⟩
theorem Inv.hrm(I:Inv X pins σ H s){a:Addr}(h:aM H (.ref a) k):HM.bH s.heap k a:=by
 obtain ⟨a',u,e,q,t⟩:=h
 cases e
 obtain ⟨_,its,r,o,h1,h2,n,h3⟩:=(show cG X.prog X.w H s.heap a (.tup [.int k.1,u]) from I.hok a _ q)
 cases r with
 | cons r1 r =>
  cases r with
  | cons r2 r =>
   cases r
   obtain ⟨t1,rfl⟩:=r1
   exact ⟨o,n,t1,_,h1,h2,h3,I.thg t r2⟩
def qt(P:Program)(w:World)(p:Addr)(zs:List (HM.bf × Addr)):Heap->Prop:=λ h=>HM.uz P w (!SG.bU w) h p zs
def LU(K:aA)(P:Program)(w:World):List V->Hp->VK->Prop:=λ xs H Q=>∃ (l:Addr) (vs:List V) (ks:List HM.bf),xs=[.ref l] /\ bD K H l vs /\ aK H vs ks /\ ks.length <= 4 /\
 ∀ p H' zs,eE H p (.ext (qt P w p zs)) H'->(∀ z∈zs,aM H (.ref z.2) z.1)->(∀ k,k∈zs.map (·.1) ↔ k∈ks)->Q (.ref p) H'
theorem CJ(hu:X.A.units + 64 < cLine)(hc:X.calm=true):cO X (.type "set") (LU X.K X.prog X.w):=by
 intro pins s σ H xs us Q I r h
 obtain ⟨l,vs,ks,rfl,hl,hk,h4,q⟩:=h
 obtain ⟨u,rfl,ru⟩:=vals1 r
 cases ru
 obtain ⟨its,rv,⟨ol,n0,e1,e2,e3,e4⟩,_⟩:=I.list hl
 have SR:s.heap.IsList l its.toArray:=⟨ol,e1,e2,n0,e4⟩
 have DX:vs.length=ks.length:=hk.length
 have hsz:its.toArray.size=ks.length:=by have:=rv.length; rw [aV]; omega
 have hat:∀ i,i < ks.length->aM H (.ref (adr (vs.getD i (.int 0)))) (ks.getD i (0,none)) /\ vs[i]? = some (.ref (adr (vs.getD i (.int 0)))):=λ i hi=>by
  have hi':i < vs.length:=by omega
  obtain ⟨k,hk1,hk2⟩:=iV hk (i:=i) (x:=vs[i]) (dJ hi')
  have e1:vs.getD i (.int 0)=vs[i]:=by rw [ki,dJ hi']; rfl
  have e2:ks.getD i (0,none)=k:=by rw [ki,hk1]; rfl
  rw [e1,e2,<- hk2.adr]
  exact ⟨hk2,dJ hi'⟩
 refine HM.FL (val:=λ i=>(ks.getD i (0,none),adr (vs.getD i (.int 0)))) (by omega) (I.ok.hd hc) SR (λ i v hv=>?_) (by omega) λ h' tk hS hkp=>?_
 ·have hi:i < ks.length:=by have:=(jB.mp hv).1; omega
  obtain ⟨a1,a2⟩:=hat i hi
  obtain ⟨u,hu,ru⟩:=rv.get a2
  rw [jb,hu] at hv
  cases hv
  cases ru
  exact ⟨rfl,I.hrm a1⟩
 ·rw [hsz] at hS
  refine ⟨.ref s.heap.objs.size,_,I.laid (t':=tk) (λ b o e=>hkp b o (aF e) e) (az _) (o:=.ext (qt X.prog X.w s.heap.objs.size _)) ⟨hS,?_,λ h1 h2 hp he=>hp.at' he⟩,rfl,q _ _ _ ⟨I.hok.fresh (az _),rfl⟩ (λ z hz=>?_) λ k=>?_⟩
  ·obtain ⟨o,_,_,_,ho,_⟩:=hS
   exact ⟨o,ho⟩
  ·obtain ⟨j,hj,rfl⟩:=HM.lR _ _ _ hz
   exact (hat j hj).1
  ·rw [HM.v7]
   constructor
   ·rintro ⟨j,hj,rfl⟩
    show ks.getD j (0,none)∈ks
    rw [ki,dJ hj]
    exact gn hj
   ·intro hn
    obtain ⟨j,hj,e5⟩:=kH.mp hn
    refine ⟨j,hj,?_⟩
    show k=ks.getD j (0,none)
    rw [ki,dJ hj,<- e5]
    rfl
def FQ(P:Program)(w:World):List V->Hp->VK->Prop:=λ xs H Q=>∃ (p:Addr) (zs:List (HM.bf × Addr)),xs=[.ref p] /\ H p=some (.ext (qt P w p zs)) /\ (∀ z∈zs,aM H (.ref z.2) z.1) /\ (∀ z∈zs,HM.OM z.1) /\ (∀ z∈zs,∀ y∈zs,HM.Alike z.1 y.1) /\
 ∀ q H' vs ks,eE H q (.lst vs) H'->aK H vs ks->(∀ k,k∈ks ↔ k∈zs.map (·.1))->ks.Pairwise (λ x y=>HM.kY x < HM.kY y)->Q (.ref q) H'
theorem zF(hu:X.A.units + 64 < cLine)(hc:X.calm=true):cO X (.builtin "sorted") (FQ X.prog X.w):=by
 intro pins s σ H xs us Q I r h
 obtain ⟨p,zs,rfl,hp,hz,hok,hal,q⟩:=h
 obtain ⟨u,rfl,ru⟩:=vals1 r
 cases ru
 obtain ⟨hS,_,_⟩:=I.hok p _ hp
 have h4:zs.length <= 4:=by obtain ⟨_,_,_,_,_,_,_,_,_,_,_,h4,_⟩:=hS; exact h4
 refine HM.v8 (by omega) (I.ok.hd hc) hS (λ z hz'=>I.hrm (hz z hz')) hok hal λ a h' d' tk c vs ks hle hk ho hP hmem Fl hvl=>?_
 have hV:∀ {vs:List Value} {ks:List HM.bf},Paired (λ v k=>∃ a,v=Value.ref a /\ (k,a)∈zs) vs ks->∃ us:List V,Vals us vs /\ aK H us ks:=by
  intro vs ks r
  induction r with
  | nil=>exact ⟨[],.nil,.nil⟩
  | cons h _ ih =>
   obtain ⟨a,rfl,hm⟩:=h
   obtain ⟨us,u1,u2⟩:=ih
   exact ⟨.ref a :: us,.cons rfl u1,.cons (hz _ hm) u2⟩
 obtain ⟨us,u1,u2⟩:=hV hP
 have hl:us.length <= sizeLine:=by
  have e1:=u1.length
  rw [sizeLine_eq]
  omega
 exact ⟨.ref a,_,(I.drw d').laid (t':=tk) hk hle (o:=.lst us) ⟨hl,vs,c,u1,ho⟩,rfl,q _ _ us ks ⟨I.hok.fresh hle,rfl⟩ u2 hmem Fl⟩
def zG(K:aA):List V->Hp->VK->Prop:=λ xs H Q=>∃ (d:Addr) (vs:List V) (ps:List (Int × Int)),xs=[.ref d] /\ bD K H d vs /\ eX H vs ps /\ ps.Nodup /\ (∀ p∈ps,0 <= p.2 /\ p.2 < 1000) /\ ps.length < 64 /\
 ∀ l us qs H',eE H l (.lst us) H'->eX H us qs->qs.Perm ps->qs.Pairwise (λ p q=>SN.rk p < SN.rk q)->Q (.ref l) H'
theorem Inv.FT(I:Inv X pins σ H s):∀ {vs:List V} {ps:List (Int × Int)} {us:List Value},eX H vs ps->Vals vs us->SN.fL s.heap us ps
 | _,_,_,.nil,.nil=>.nil
 | _,_,_,.cons ⟨a,e,h⟩ r,.cons rv rs=>by
  subst e
  cases rv
  obtain ⟨o,n,t,u,h1,h2,h3⟩:=I.pair h
  exact .cons ⟨a,o,n,t,u,rfl,h1,h2,h3⟩ (I.FT r rs)
theorem zH(hc:X.calm=true):cO X (.builtin "sorted") (zG X.K):=by
 intro pins s σ H xs us Q I r h
 obtain ⟨d,vs,ps,rfl,hd,hp,nd,hb,h64,k⟩:=h
 obtain ⟨u,rfl,ru⟩:=vals1 r
 cases ru
 obtain ⟨its,rv,⟨ol,n0,e1,e2,e3,e4⟩,_⟩:=I.list hd
 have SR:s.heap.IsList d its.toArray:=⟨ol,e1,e2,n0,e4⟩
 have hvl:vs.length=ps.length:=hp.length
 refine SN.zE SR (I.FT hp rv) hb nd h64 λ p h' tk c q hle hk ho hq hup=>?_
 have hget:∀ i,i < ps.length->RelV (vs.getD i (.int 0)) (its.getD i Value.none) /\ ∃ a,vs.getD i (.int 0)=.ref a /\ H a=some (.tup [.int (ps.getD i (0,0)).1,.int (ps.getD i (0,0)).2]):=λ i hi=>by
  have hi':i < vs.length:=by omega
  obtain ⟨b,hb1,hb2⟩:=iV hp (i:=i) (x:=vs[i]) (dJ hi')
  obtain ⟨u,hu1,hu2⟩:=rv.get (dJ hi')
  simp only [ki,dJ hi',hb1,hu1,Option.getD_some]
  exact ⟨hu2,hb2⟩
 have hmem:∀ i∈q.toList,i < ps.length:=λ i hi=>fE.mp (hq.pm.mem_iff.mp hi)
 have Fy:∀ {l:List Nat},(∀ i∈l,i < ps.length)->Vals (l.map λ i=>vs.getD i (.int 0)) (l.map λ i=>its.getD i Value.none) /\ eX H (l.map λ i=>vs.getD i (.int 0)) (l.map λ i=>ps.getD i (0,0)):=by
  intro l
  induction l with
  | nil=>intro _; exact ⟨.nil,.nil⟩
  | cons i l ih =>
   intro hl
   obtain ⟨a1,a2⟩:=ih λ j hj=>hl j (cV _ hj)
   obtain ⟨b1,b2⟩:=hget i (hl i (by simp))
   exact ⟨.cons b1 a1,.cons b2 a2⟩
 obtain ⟨v1,v2⟩:=Fy hmem
 refine ⟨.ref p,_,I.laid (t':=tk) hk hle (o:=.lst (q.toList.map λ i=>vs.getD i (.int 0))) ⟨?_,_,c,v1,ho⟩,rfl,k p _ (q.toList.map λ i=>ps.getD i (0,0)) _ ⟨I.hok.fresh hle,rfl⟩ v2 ?_ ?_⟩
 ·rw [au,cC,hq.sz,sizeLine_eq]; omega
 ·have:=hq.pm.map λ i=>ps.getD i (0,0)
  rw [range_getD] at this
  exact this
 ·rw [gJ,jd]
  intro i j hi hj hij
  have Xs:q.toList.length=ps.length:=by rw [cC,hq.sz]
  have g1:=hq.get (i:=i) (by omega)
  have g2:=hq.get (i:=j) (by omega)
  rw [dJ hi] at g1
  rw [dJ hj] at g2
  rw [Option.some.inj g1,Option.some.inj g2]
  exact hup i j hij (by omega)
theorem OO{ks:List HM.bf}(hl:bD K H l vs)(hk:aK H vs ks)(h4:ks.length <= 4)(h:∀ p H' zs,eE H p (.ext (qt P w p zs)) H'->(∀ z∈zs,aM H (.ref z.2) z.1)->(∀ k,k∈zs.map (·.1) ↔ k∈ks)->Q (.ref p) H'):LU K P w [.ref l] H Q:=⟨l,vs,ks,rfl,hl,hk,h4,h⟩
theorem JF{p:Addr}{zs:List (HM.bf × Addr)}(hp:H p=some (.ext (qt P w p zs)))(hz:∀ z∈zs,aM H (.ref z.2) z.1)(hok:∀ z∈zs,HM.OM z.1)(hal:∀ z∈zs,∀ y∈zs,HM.Alike z.1 y.1)(h:∀ q H' vs ks,eE H q (.lst vs) H'->aK H vs ks->(∀ k,k∈ks ↔ k∈zs.map (·.1))->ks.Pairwise (λ x y=>HM.kY x < HM.kY y)->Q (.ref q) H'):FQ P w [.ref p] H Q:=⟨p,zs,rfl,hp,hz,hok,hal,h⟩
theorem JG{ps:List (Int × Int)}(hd:bD K H d vs)(hp:eX H vs ps)(nd:ps.Nodup)(hb:∀ p∈ps,0 <= p.2 /\ p.2 < 1000)(h64:ps.length < 64)(h:∀ l us qs H',eE H l (.lst us) H'->eX H us qs->qs.Perm ps->qs.Pairwise (λ p q=>SN.rk p < SN.rk q)->Q (.ref l) H'):zG K [.ref d] H Q:=⟨d,vs,ps,rfl,hd,hp,nd,hb,h64,h⟩
end
section
variable {K:aA}{H:Hp}{Q:VK}
theorem b8.rd{k:HM.cX}(h:b8 H k x):RD K H x (HM.jx k):=by
 cases k with
 | none=>have h:x=.str "mark" := h; subst h; exact .str _
 | some p=>obtain ⟨a,rfl,q⟩:=h; exact .tup (gm.of q) (.cons (.int _) (.cons (.int _) .nil))
theorem aM.rd(h:aM H x k):RD K H x (HM.kU k):=by
 obtain ⟨a,u,rfl,q,t⟩:=h
 exact .tup (gm.of q) (.cons (.int _) (.cons t.rd .nil))
theorem aK.rds:∀ {vs:List V} {ks:List HM.bf},aK H vs ks->oG K H vs (ks.map HM.kU)
 | _,_,.nil=>.nil
 | _,_,.cons h r=>.cons h.rd (aK.rds r)
theorem FU(k:HM.cX):Sh 1 (HM.jx k):=⟨HM.oY k,HM.nF k⟩
theorem OP(k:HM.bf):Sh 2 (HM.kU k):=⟨HM.lN k,HM.nG k⟩
theorem JH(ks:List HM.bf):Sh 3 (.list (ks.map HM.kU)):=Sh.list λ d hd=>by obtain ⟨k,_,rfl⟩:=aG.mp hd; exact OP k
theorem v9{k:HM.cX}(h:b8 H k x)(q:Q (.bl k.isNone) H):E3 K x (.str "mark") H Q:=by
 refine Oj (HM.jx k) (.str "mark") 1 (by decide) h.rd (.str _) (FU k) (FU none) ?_
 have:=HM.ux k none
 rw [show PyData.str "mark" = HM.jx none from rfl,this]
 cases k <;> exact q
end
abbrev dM:=List (HM.bf × Addr × V)
def jy:dM->List (HM.bf × Addr × Value)->Prop:=Paired λ (p:HM.bf × Addr × V) (q:HM.bf × Addr × Value)=>p.1=q.1 /\ p.2.1=q.2.1 /\ RelV p.2.2 q.2.2
def cI(P:Program)(w:World)(d:Addr)(ep:Nat)(kvs:dM):Heap->Prop:=λ h=>kvs.length <= sizeLine /\ (d == sysModules)=false /\ ∃ xs,jy kvs xs /\ ∃ o es,h.get? d=some o /\ o.ExactDict /\ o.data=.dict es ep /\ es.toList=xs.map (entryOfKey (HM.c8 P w)) /\ (xs.map (·.1)).Nodup
def bM(H:Hp)(kvs:dM):Prop:=∀ x∈kvs,aM H (.ref x.2.1) x.1
theorem bM.same(h:bM H kvs)(s:aE H H'):bM H' kvs:=λ x hx=>(h x hx).same s
def g9(kvs:dM)(k:HM.bf):Option V:=(kvs.find? λ x=>decide (x.1=k)).map (·.2.2)
def iW(kvs:dM)(k:HM.bf)(a:Addr)(v:V):dM:=if (g9 kvs k).isSome then kvs.map (λ x=>if x.1=k then (x.1,x.2.1,v) else x) else kvs++[(k,a,v)]
theorem jy.val(r:jy kvs xs)(k:HM.bf):kM (g9 kvs k) ((atKey xs k).map (·.2)):=by
 unfold jy at r
 induction r with
 | nil=>exact eG
 | @cons p q ps qs h t ih =>
  unfold g9 atKey at ih ⊢
  rw [fW,fW,<- h.1]
  by_cases e:p.1=k
  ·rw [decide_eq_true e]
   exact h.2.2
  ·rw [decide_eq_false e]
   exact ih
theorem jy.put(r:jy kvs xs)(k:HM.bf){b:Addr}{y:V}{u:Value}(ry:RelV y u):jy (iW kvs k b y) (storedH xs k b u):=by
 have e:(g9 kvs k).isSome=(atKey xs k).isSome:=by rw [(r.val k).jX,Option.isSome_map]
 unfold iW storedH
 rw [e]
 by_cases q:(atKey xs k).isSome=true
 ·rw [if_pos q,if_pos q]
  clear e q
  unfold jy at r ⊢
  induction r with
  | nil=>exact .nil
  | @cons p q ps qs h t ih =>
   rw [bO,bO]
   refine .cons ?_ ih
   obtain ⟨h1,h2,h3⟩:=h
   unfold putAt
   by_cases e:p.1=k
   ·rw [if_pos e,if_pos (h1.symm.trans e)]; exact ⟨h1,h2,ry⟩
   ·rw [if_neg e,if_neg (λ z=>e (h1.trans z))]; exact ⟨h1,h2,h3⟩
 ·rw [if_neg q,if_neg q]
  exact cA r ⟨rfl,rfl,ry⟩
theorem wc(kvs:dM)(k:HM.bf)(a:Addr)(v:V):(iW kvs k a v).length <= kvs.length + 1:=by
 unfold iW
 split <;> simp
section
variable {X:Cx}{pins:List (Addr × Obj)}{σ:St}{H:Hp}{s:Shared}{d b:Addr}{ep:Nat}{kvs:dM}{k:HM.bf}{A:Around}{E:Value->Shared->Prop}
def DH(P:Program)(w:World)(H:Hp)(d:Addr)(ep:Nat)(kvs:dM):Prop:=H d=some (.ext (cI P w d ep kvs)) /\ bM H kvs
theorem Inv.dh(I:Inv X pins σ H s)(h:DH X.prog X.w H d ep kvs):kvs.length <= sizeLine /\ (d == sysModules)=false /\ ∃ xs,jy kvs xs /\ s.heap.DictOfH (HM.c8 X.prog X.w) d xs:=by
 obtain ⟨⟨z,hd,xs,rel,o,es,h1,h2,h3,h4,h5⟩,_,_⟩:=I.hok d _ h.1
 refine ⟨z,hd,xs,rel,o,es,ep,h1,h2,h3,h4,λ x hx=>?_,h5⟩
 have all:∀ {kvs:dM} {xs:List (HM.bf × Addr × Value)},jy kvs xs->bM H kvs->∀ x∈xs,HM.bH s.heap x.1 x.2.1:=by
  intro kvs xs r
  unfold jy at r
  induction r with
  | nil=>intro _ x hx; exact nomatch hx
  | @cons p q ps qs hq t ih =>
   intro hk x hx
   rcases aJ.mp hx with e | hx
   ·subst e
    have:=I.hrm (hk p (by simp))
    rw [hq.1,hq.2.1] at this
    exact this
   ·exact ih (λ y hy=>hk y (by simp [hy])) x hx
 exact all rel h.2 x hx
theorem uA(hu:A.units + 64 < cLine):(HM.c8 X.prog X.w).room A.in1:=by
 show A.in1.units + 2 < cLine
 simp only [Around.in1]
 omega
theorem qu{Q:Value->Shared->Prop}(hu:A.units + 64 < cLine)(I:Inv X pins σ H s)(h:DH X.prog X.w H d ep kvs)(hb:aM H (.ref b) k)(hv:g9 kvs k=some v)(q:∀ w' s',Inv X pins σ H s'->RelV v w'->Q w' s'):
  wpAny (model X.prog X.w) A (getItem (.ref d) (.ref b)) Q E s:=by
 obtain ⟨z,hd,xs,rel,dd⟩:=I.dh h
 obtain ⟨w',hw,rw'⟩:=kM.some_of (v:=v) (o:=(atKey xs k).map (·.2)) (by rw [<- hv]; exact rel.val k)
 obtain ⟨p,hp,hp2⟩:=dg.mp hw
 refine wpAny_getItem_heap (uA hu) (I.hrm hb) dd hp ?_
 rw [hp2]
 exact q w' _ (I.tok _) rw'
theorem zI{h':Heap}{kvs:dM}(z:kvs.length <= sizeLine)(hd:(d == sysModules)=false)(rel:jy kvs xs)(dd:h'.DictOfH (HM.c8 X.prog X.w) d xs):∃ ep,∀ {H':Hp},cG X.prog X.w H' h' d (.ext (cI X.prog X.w d ep kvs)):=by
 obtain ⟨o,es,ep,h1,h2,h3,h4,_,h5⟩:=dd
 refine ⟨ep,λ {H'}=>⟨⟨z,hd,xs,rel,o,es,h1,h2,h3,h4,h5⟩,⟨o,h1⟩,λ g1 g2 hp he=>?_⟩⟩
 obtain ⟨z,hd,xs,rel,o,es,h1,h2⟩:=hp
 exact ⟨z,hd,xs,rel,o,es,he _ h1,h2⟩
theorem qv{r:Value}{Q:Unit->Shared->Prop}(hu:A.units + 64 < cLine)(I:Inv X pins σ H s)(h:DH X.prog X.w H d ep kvs)(hb:aM H (.ref b) k)(hl:kvs.length < sizeLine)(rv:RelV v r)
  (q:∀ nV s',Inv X pins σ (upd H d (.ext (cI X.prog X.w d nV (iW kvs k b v)))) s'->Q () s'):wpAny (model X.prog X.w) A (setItem (.ref d) (.ref b) r) Q E s:=by
 obtain ⟨z,hd,xs,rel,dd⟩:=I.dh h
 have hz:xs.length <= sizeLine:=by rw [<- gu rel]; exact z
 have hl2:(iW kvs k b v).length <= sizeLine:=by have:=wc kvs k b v; omega
 refine wpAny_setItem_heap (hsz:=hz) (uA hu) (I.hrm hb) dd λ h' Qv hs=>?_
 obtain ⟨nV,ho'⟩:=zI (X:=X) hl2 hd (rel.put k rv) Qv
 refine q nV _ ?_
 have ho:=ho' (H':=upd H d (.ext (cI X.prog X.w d nV (iW kvs k b v))))
 exact ue I (by rw [h.1]; exact eG) hs ho.2.1 ho
end
def FW(P:Program)(w:World):R2:=λ x y H Q=>∃ d b ep kvs k v,x=.ref d /\ y=.ref b /\ DH P w H d ep kvs /\ aM H (.ref b) k /\ g9 kvs k=some v /\ Q v H
def FY(P:Program)(w:World)(v x y:V)(H:Hp)(R:Hp->Prop):Prop:=∃ d b ep kvs k,x=.ref d /\ y=.ref b /\ DH P w H d ep kvs /\ aM H (.ref b) k /\ kvs.length <= 1000000 /\ ∀ nV H',kh H d (.ext (cI P w d nV (iW kvs k b v))) H'->R H'
def FZ(P:Program)(w:World)(td ty tv:TE):TS:=λ D σ H=>tv σ H λ v H1=>td σ H1 λ x H2=>ty σ H2 λ y H3=>FY P w v x y H3 λ H4=>D.nx σ H4
def F0(P:Program)(w:World)(td ty tv:TE)(rd:V->V->Hp->VK->Prop):TS:=λ D σ H=>td σ H λ x H1=>ty σ H1 λ y H2=>FW P w x y H2 λ v H3=>tv σ H3 λ y2 H4=>rd v y2 H4 λ z H5=>FY P w z x y H5 λ H6=>D.nx σ H6
def F1(P:Program)(w:World):TE:=λ _ H Q=>∀ p ep H',eE H p (.ext (cI P w p ep [])) H'->Q (.ref p) H'
section
variable {X:Cx}{o i e value:Expr}{pos pos' tpos:Pos}{td ty tv:TE}
theorem we:PE X (.Dict [] [] pos) (F1 X.prog X.w):=λ pins s σ H Q I h =>
 let ⟨ep,ho⟩:=zI (X:=X) (kvs:=[]) (aQ _) (beq_eq_false_iff_ne.mpr (bF (aT I.big))) .nil (Heap.DictOfH.new s.heap)
 wpAny_Dict_empty ⟨.ref s.heap.objs.size,_,I.laid (a:=s.heap.objs.size) (o:=.ext (cI X.prog X.w s.heap.objs.size ep [])) (t':=s.toks) (λ _ _ q=>cB _ q) (az _) ho,rfl,h _ ep _ ⟨I.hok.fresh (az _),rfl⟩⟩
theorem Inv.dhT{pins:List (Addr × Obj)}{σ:St}(I:Inv X pins σ H s)(h:DH X.prog X.w H d ep kvs):s.TypeIs (.ref d) "dict" := by
 obtain ⟨_,_,_,_,dd⟩:=I.dh h
 exact dd.typeIs
theorem gQ(hu:X.A.units + 64 < cLine)(ho:PE X o td)(hi:PE X i ty)(hs:IL i):PE X (.Subscript o i pos) (MR (FW X.prog X.w) td ty):=by
 intro pins s σ H Q I h
 refine Ax PySem.F.slot_dict_getitem.lookup hs (cL (ho pins s σ H _ I h) λ u s1 ⟨x,H1,I1,rx,q1⟩=>cL (hi pins s1 σ H1 _ I1 q1) λ iv s2 ⟨y,H2,I2,ry,d,b,ep,kvs,k,v,ex,ey,hd,hb,hv,q2⟩=>?_)
 subst ex ey
 obtain rfl:u=Value.ref d:=rx
 obtain rfl:iv=Value.ref b:=ry
 exact ⟨I2.dhT hd,qu hu I2 hd hb hv λ w' s3 I3 rw'=>⟨v,H2,I3,rw',q2⟩⟩
theorem wg(hu:X.A.units + 64 < cLine)(ho:PE X o td)(hi:PE X i ty)(hv:PE X value tv)(hs:swapsWith value (some (.Subscript o i pos')) pos.line X.env=pure false):
  PS X (.Assign [.Subscript o i pos'] value pos) (FZ X.prog X.w td ty tv):=by
 intro pins s σ H D I h
 refine wpAny_Assign_Subscript (cL (hv pins s σ H _ I h) λ r s1 ⟨v,H1,I1,rv,q1⟩=>cL (ho pins s1 σ H1 _ I1 q1) λ u s2 ⟨x,H2,I2,rx,q2⟩=>cL (hi pins s2 σ H2 _ I2 q2) λ iv s3 ⟨y,H3,I3,ry,d,b,ep,kvs,k,ex,ey,hd,hb,hl,q3⟩=>?_) hs
 subst ex ey
 obtain rfl:u=Value.ref d:=rx
 obtain rfl:iv=Value.ref b:=ry
 exact qv hu I3 hd hb (by rw [sizeLine_eq]; omega) rv λ nV s4 I4=>⟨σ,_,I4,q3 nV _ rfl⟩
theorem F3{op:Operator}{rd:V->V->Hp->VK->Prop}(hu:X.A.units + 64 < cLine)(ho:PE X o td)(hi:PE X i ty)(hv:PE X value tv)(hop:Q8 X op rd)
  (ha:∀ ov iv new,augStore i ov iv new=(do holding [new,ov,iv] (setItem ov iv new); release [new,ov,iv] []; pure .next)):PS X (.AugAssign (.Subscript o i tpos) op value pos) (F0 X.prog X.w td ty tv rd):=by
 intro pins s σ H D I h
 refine wpAny_AugAssign_SubscriptAny (cL (ho pins s σ H _ I h) λ u s1 ⟨x,H1,I1,rx,q1⟩=>cL (hi pins s1 σ H1 _ I1 q1) λ iv s2 ⟨y,H2,I2,ry,d,b,ep,kvs,k,v,ex,ey,hd,hb,hvl,q2⟩=>?_) ha
 subst ex ey
 obtain rfl:u=Value.ref d:=rx
 obtain rfl:iv=Value.ref b:=ry
 refine qu hu I2 hd hb hvl λ w' s3 I3 rw'=>cL (hv pins s3 σ H2 _ I3 q2) λ w2 s4 ⟨y2,H3,I4,ry2,q3⟩=>cL (hop pins s4 σ H3 v y2 w' w2 _ I4 rw' ry2 q3) λ w3 s5 ⟨z,H4,I5,rz,d5,b5,ep5,abI,k5,ex5,ey5,hd5,hb5,hl5,q4⟩=>?_
 cases ex5
 cases ey5
 exact qv hu I5 hd5 hb5 (by rw [sizeLine_eq]; omega) rz λ nV s6 I6=>⟨σ,_,I6,q4 nV _ rfl⟩
end
def F4(P:Program)(w:World)(d:Addr)(ep:Nat)(kvs:dM):It :=
 ⟨λ i H=>H d=some (.ext (cI P w d ep kvs)) /\ i < kvs.length,λ i H x H'=>H'=H /\ ∃ e,kvs[i]? = some e /\ x=.ref e.2.1,λ i H=>H d=some (.ext (cI P w d ep kvs)) /\ i=kvs.length⟩
theorem Inv.raw{X:Cx}{pins:List (Addr × Obj)}{σ:St}(I:Inv X pins σ H s)(h:H d=some (.ext (cI X.prog X.w d ep kvs))):
  (d == sysModules)=false /\ kvs.length <= sizeLine /\ ∃ es:Array DictEntry,SN.g8 s.heap d es ep /\ es.size=kvs.length /\ ∀ (i:Nat) e,kvs[i]? = some e->∃ u,es[i]? = some u /\ u.key=.ref e.2.1 /\ RelV e.2.2 u.val:=by
 obtain ⟨⟨z,hd,xs,rel,o,es,h1,h2,h3,h4,h5⟩,_,_⟩:=I.hok d _ h
 have hl:xs.length=kvs.length:=(gu rel).symm
 have hs:es.size=xs.length:=by rw [<- cC,h4,au]
 refine ⟨hd,z,es,⟨o,h1,h2,h3⟩,by omega,λ i e he=>?_⟩
 obtain ⟨x,hx,r1,r2,r3⟩:=iV rel he
 refine ⟨entryOfKey (HM.c8 X.prog X.w) x,?_,?_,?_⟩
 ·rw [<- d8,h4,aY,hx]
  rfl
 ·show Value.ref x.2.1=_
  rw [r2]
 ·exact r3
theorem zJ{tg:Expr}(d it:Addr)(ep:Nat)(kvs:dM):Turn P w K tg (F4 P w d ep kvs) [it] it (λ i h=>h.IsKeyIter it d i kvs.length ep) where
 mem:=by simp
 obj:=λ i h st b hb=>by
  have e:b=it:=by simpa using hb
  subst e
  obtain ⟨o,e,c,dd⟩:=st
  exact ⟨o,e,λ v z=>by rw [dd] at z; cases z⟩
 keep:=λ i h h' st k=>st.at λ o e=>k it (by simp) o e
 item:=by
  intro X hP hw hK hc i pins s σ H E I hf st hg
  subst hP hw hK
  obtain ⟨hd,hi⟩:=hg
  obtain ⟨_,_,es,rd,hs,hat⟩:=I.raw hd
  obtain ⟨f0,f1,f2,f3,f4,f5⟩:=hf it (by simp)
  have he:kvs[i]? = some kvs[i]:=dJ hi
  obtain ⟨u,hu,hk,_⟩:=hat i _ he
  rw [<- hs] at st
  refine SN.vQ st rd hu λ h' st' sb=>?_
  have I1:Inv X pins σ H { s with heap:=h' }:=I.turned (t':=s.toks) (λ b o hb e=>(sb.2 b hb).trans e) f0 f1 f3 f4 f5
  rw [hs] at st'
  obtain ⟨o,e,c,dd⟩:=id st'
  exact ⟨u.key,rfl,vd (s:={ s with heap:=h' }) e c dd (by decide) ⟨.ref kvs[i].2.1,H,I1,hk,⟨rfl,_,he,rfl⟩,st',λ b hb=>(hf b hb).1⟩⟩
 done:=by
  intro X hP hw hK hc i pins s σ H E I hf st hg
  subst hP hw hK
  obtain ⟨hd,hi⟩:=hg
  obtain ⟨_,_,es,rd,hs,hat⟩:=I.raw hd
  obtain ⟨f0,f1,f2,f3,f4,f5⟩:=hf it (by simp)
  subst hi
  rw [<- hs] at st
  exact SN.AW (I.ok.hd hc) st rd λ h' eb=>⟨rfl,I.turned (t':=s.toks) (λ b o hb e=>eb b o hb e) f0 f1 f3 f4 f5⟩
 self:=λ _ _ _ _ _ st h=>wpAny_pyIter_keyiter st h
def OQ(P:Program)(w:World)(R:It->Hp->Prop):V->Hp->Prop:=λ x H=>∃ d ep kvs,x=.ref d /\ H d=some (.ext (cI P w d ep kvs)) /\ R (F4 P w d ep kvs) H
def F5(P:Program)(w:World)(tl:TE):TI:=λ σ H R=>tl σ H (OQ P w R)
section
variable {X:Cx}{tg:Expr}
theorem lS{l:Expr}{tl:TE}(hl:PE X l tl):PI X tg l (F5 X.prog X.w tl):=by
 intro pins s σ H R I h
 refine cL (hl pins s σ H _ I h) λ v s1 ⟨x,H1,I1,r1,q1⟩=>?_
 obtain ⟨d,ep,kvs,e,hd,q⟩:=q1
 subst e
 cases r1
 obtain ⟨lo,_,es,rd,hs,hat⟩:=I1.raw hd
 refine SN.vP lo rd ?_
 refine ⟨s1.heap.objs.size,[s1.heap.objs.size],_,_,H1,rfl,I1.kept (t':=s1.toks) λ b o e=>cB _ e,zJ d _ ep kvs,⟨_,fR _ rfl,rfl,by rw [<- hs]; rfl⟩,λ b hb=>?_,q⟩
 have e:b=s1.heap.objs.size:=by simpa using hb
 subst e
 exact I1.kg (az _) (I1.hok.fresh (az _))
end
section
variable {K:aA}{nx bk ct:St->Hp->Prop}{rt:VK}{σ:St}{H:Hp}{Q:VK}{te:TE}{P:Program}{w:World}
theorem F6{tl:TE}{R:It->Hp->Prop}(h:tl σ H (OQ P w R)):F5 P w tl σ H R:=h
theorem S0{R:It->Hp->Prop}(hd:H d=some (.ext (cI P w d ep kvs)))(h:R (F4 P w d ep kvs) H):OQ P w R (.ref d) H:=⟨d,ep,kvs,rfl,hd,h⟩
theorem JI{g:TG}{tb:TS}(Pv:Nat->St->Hp->Prop)(h0:Pv 0 σ H)(hl:∀ i σ H,i <= kvs.length->Pv i σ H->H d=some (.ext (cI P w d ep kvs)))
  (hs:∀ i e σ H,kvs[i]? = some e->Pv i σ H->g (.ref e.2.1) σ H λ σ2 H2=>tb ⟨Pv (i + 1),rt,nx,Pv (i + 1)⟩ σ2 H2)(hd:∀ σ H,Pv kvs.length σ H->nx σ H):LC (F4 P w d ep kvs) g tb nx rt σ H :=
 ⟨λ i m σ H=>m=kvs.length - i /\ i <= kvs.length /\ Pv i σ H,⟨kvs.length,by omega,by omega,h0⟩,λ i m σ' H' ⟨e,hi,p⟩=>by
  rcases cH i kvs.length with hlt | hge
  ·refine .inr ⟨⟨hl i _ _ hi p,hlt⟩,Pv (i + 1),λ σ2 H2 q=>⟨kvs.length - (i + 1),by omega,rfl,hlt,q⟩,?_⟩
   rintro x H2 ⟨rfl,e,he,rfl⟩
   exact hs i e σ' _ he p
  ·have e:i=kvs.length:=by omega
   subst e
   exact .inl ⟨⟨hl _ _ _ hi p,rfl⟩,hd _ _ p⟩⟩
theorem uB{tt:TT}{τ:St}(Pv:Nat->List V->Hp->Prop)(h0:Pv 0 [] H)(hl:∀ i ys H,i <= kvs.length->Pv i ys H->H d=some (.ext (cI P w d ep kvs)))
  (hs:∀ i e ys H,kvs[i]? = some e->Pv i ys H->ys.length < sizeLine /\ tt (some (.ref e.2.1) :: τ) H λ b H3=>if b=true then te (some (.ref e.2.1) :: τ) H3 λ y H4=>Pv (i + 1) (ys++[y]) H4 else Pv (i + 1) ys H3)
  (hd:∀ ys H,Pv kvs.length ys H->∀ p H',eE H p (.lst ys) H'->Q (.ref p) H'):Jf (F4 P w d ep kvs) tt te τ Q H:=by
 refine ⟨λ i m ys H=>m=kvs.length - i /\ i <= kvs.length /\ Pv i ys H,⟨kvs.length,by simp,aQ _,h0⟩,?_⟩
 rintro i m ys H ⟨rfl,hi,p⟩
 have q:=hl i ys H hi p
 by_cases hlt:i < kvs.length
 ·have hx:kvs[i]? = some kvs[i]:=by simp [hlt]
  obtain ⟨hz,q'⟩:=hs i _ ys H hx p
  refine .inr ⟨⟨q,hlt⟩,hz,Pv (i + 1),λ σ' H' p'=>⟨kvs.length - (i + 1),by omega,rfl,hlt,p'⟩,λ x H' y=>?_⟩
  obtain ⟨e,e2,he,y⟩:=y
  subst e y
  rw [hx] at he
  cases he
  exact q'
 ·have e:i=kvs.length:=by omega
  subst e
  exact .inl ⟨⟨q,rfl⟩,λ r hr=>hd ys H p r _ ⟨hr,rfl⟩⟩
end
def iN(ks:Nat->HM.bf × Addr)(vs:Nat->V):Nat->dM
 | 0=>[]
 | n + 1=>iW (iN ks vs n) (ks n).1 (ks n).2 (vs n)
theorem qw(ks:Nat->HM.bf × Addr)(vs:Nat->V):∀ n,(iN ks vs n).length <= n
 | 0=>az _
 | n + 1=>by
  have h1:=qw ks vs n
  have h2:=wc (iN ks vs n) (ks n).1 (ks n).2 (vs n)
  show (iW (iN ks vs n) (ks n).1 (ks n).2 (vs n)).length <= n + 1
  omega
theorem CK(h:k ∉ kvs.map (·.1)):g9 kvs k=none:=by
 unfold g9
 rw [List.find?_eq_none.mpr λ x hx e=>h (aG.mpr ⟨x,hx,by simpa using e⟩)]
 rfl
theorem qx{a:Addr}(h:k ∉ kvs.map (·.1)):iW kvs k a v=kvs++[(k,a,v)]:=by
 unfold iW
 rw [CK h]
 rfl
theorem sJ{ks:Nat->HM.bf × Addr}{vs:Nat->V}:∀ {n:Nat},(∀ i j,i < j->j < n->(ks i).1 ≠ (ks j).1)->iN ks vs n=(List.range n).map λ i=>((ks i).1,(ks i).2,vs i)
 | 0,_=>rfl
 | n + 1,h=>by
  have ih:=sJ (ks:=ks) (vs:=vs) (n:=n) λ i j hi hj=>h i j hi (by omega)
  show iW (iN ks vs n) (ks n).1 (ks n).2 (vs n)=_
  rw [ih,qx,List.range_succ,bK]
  ·rfl
  ·intro hm
   obtain ⟨x,hx,e⟩:=aG.mp hm
   obtain ⟨i,hi,rfl⟩:=aG.mp hx
   exact h i n (fE.mp hi) (by omega) e
section
variable {prog:Program}{w:World}{A:Around}
theorem A4{h h':Heap}{it:Addr}(dd:h.DictOfH (HM.c8 prog w) d xs)(hd:d ≠ it)(hi:∀ o vs n,h.get? it=some o->o.data ≠ .seq vs n)(k:∀ b o,b ≠ it->h.get? b=some o->h'.get? b=some o):h'.DictOfH (HM.c8 prog w) d xs:=by
 obtain ⟨o,es,ep,h1,h2,h3,h4,h5,h6⟩:=dd
 refine ⟨o,es,ep,k d o hd h1,h2,h3,h4,λ x hx=>?_,h6⟩
 exact HM.bH.stay (h5 x hx) λ b o vs n _ ds e=>k b o (λ z=>by subst z; exact hi o vs n e ds) e
theorem wj{R:Result->Shared->Prop}{s0:Shared}{it:Addr}{its:Array Value}{n:Nat}{ks:Nat->HM.bf × Addr}{vs:Nat->V}(hu:A.units + 10 < cLine)(hd:d ≠ it)(hdl:d ≠ l)(hli:l ≠ it)(hh:A.in1.handled=none)(hn:n <= sizeLine)(hsz:its.size=n)
  (hni:∀ o vs n,s0.heap.get? it=some o->o.data ≠ .seq vs n)(hnd:∀ o vs n,s0.heap.get? d=some o->o.data ≠ .seq vs n)
  (hp:∀ i,i < n->∃ (T:Addr) (v:Value) (o:Obj) (c:Nat),its[i]? = some (.ref T) /\ s0.heap.get? T=some o /\ o.cls=.type "tuple" /\ o.data=.seq #[.ref (ks i).2,v] c /\ T ≠ it /\ T ≠ d /\ HM.bH s0.heap (ks i).1 (ks i).2 /\ RelV (vs i) v)
  (hl:s0.heap.IsList l its)
  (hR:∀ h' tk rs,(∀ b o,b ≠ it->b ≠ d->s0.heap.get? b=some o->h'.get? b=some o)->h'.DictOfH (HM.c8 prog w) d rs->jy (iN ks vs n) rs->R (.ok (.ret .none)) { s0 with heap:=h',toks:=tk }):
  ∀ (k i:Nat) (h:Heap) (t:Nat) (rs:List (HM.bf × Addr × Value)) (c:Tok),n - i=k->i <= n->(∀ b o,b ≠ it->b ≠ d->s0.heap.get? b=some o->h.get? b=some o)->h.IsListIter it l i->h.DictOfH (HM.c8 prog w) d rs->jy (iN ks vs i) rs ->
   codeAny (model prog w) A (.builtin "dict.update.loop" ⟨[.ref d,.ref it,.int i c,.none],[]⟩) R { s0 with heap:=h,toks:=t }:=by
 have lst:∀ h:Heap,(∀ b o,b ≠ it->b ≠ d->s0.heap.get? b=some o->h.get? b=some o)->h.IsList l its:=λ h kp=>let ⟨o,q,r⟩:=hl; ⟨o,kp l o hli (bF hdl) q,r⟩
 have itd:∀ {h:Heap} {i:Nat},h.IsListIter it l i->∀ o vs n,h.get? it=some o->o.data ≠ .seq vs n:=λ hit o vs n e z=>by
  obtain ⟨o',e',_,d'⟩:=hit
  rw [e] at e'
  cases e'
  rw [d'] at z
  cases z
 intro k
 induction k with
 | zero =>
  intro i h t rs c hk hi kp hit dd rel
  have e:i=n:=by omega
  subst e
  refine codeAny_builtin F.eL ?_
  rw [fz F.b7 _]
  show wpAny _ A.in1 (pyNext (.ref it) >>= _) _ _ _
  refine ao (wpAny_pyNext_list_end (s:={ s0 with heap:=h,toks:=t }) hh hit (lst h kp) (pJ (by omega)) λ h' k'=>?_)
  show wpAny _ A.in1 (Builtin.Dict.addKeywords d [] >>= _) _ _ _
  refine ao (aH (aH ?_))
  exact hR h' t rs (λ b o b1 b2 q=>k' b o b1 (kp b o b1 b2 q)) (A4 dd hd (itd hit) λ b o b1 q=>k' b o b1 q) rel
 | succ k ih =>
  intro i h t rs c hk hi kp hit dd rel
  have hlt:i < n:=by omega
  obtain ⟨T,v,o,cc,hx,hT,hTc,hTd,n1,n2,hk0,rv⟩:=hp i hlt
  refine codeAny_builtin F.eL ?_
  rw [fz F.b7 _]
  show wpAny _ A.in1 (pyNext (.ref it) >>= _) _ _ _
  refine ao (wpAny_pyNext_list_item (s:={ s0 with heap:=h,toks:=t }) hit (lst h kp) hx λ h1 Xx Qx=>?_)
  have k1:∀ b o,b ≠ it->h.get? b=some o->h1.get? b=some o:=λ b o b1 q=>Qx.extBut b o b1 q
  have ht:h1.get? T=some o:=k1 T o n1 (kp T o n1 n2 hT)
  have d1:h1.DictOfH (HM.c8 prog w) d rs:=A4 dd hd (itd hit) k1
  have hk1:HM.bH h1 (ks i).1 (ks i).2:=HM.bH.stay hk0 λ b o vs n _ ds e=>by
   have b1:b ≠ it:=λ z=>by subst z; exact hni o vs n e ds
   have b2:b ≠ d:=λ z=>by subst z; exact hnd o vs n e ds
   exact k1 b o b1 (kp b o b1 b2 e)
  have Xm:({ s0 with heap:=h1,toks:=t }:Shared).TypeIs (.ref T) "tuple" := ⟨_,ht,hTc⟩
  show wpAny _ A.in1 (holding [Value.ref T] _ >>= _) _ _ _
  refine ao (wpAny_holding ?_)
  refine ao (wpAny_tryCatch ?_)
  unfold Builtin.Dict.pairItems
  refine ao (wpAny_typeOf Xm ?_)
  show wpAny _ _ (seqItems? (.ref T) >>= _) _ _ _
  refine ao (wpAny_seqItems ht hTd (aH ?_))
  show wpAny _ _ (holding [.ref (ks i).2,v] (dictSet d (.ref (ks i).2) v)) _ _ _
  refine wpAny_holding (wpAny_dictSet_heap (hsz:=?_) (by show A.in1.units + 2 < cLine; simp only [Around.in1]; omega) hk1 d1 λ h2 d2 sb=>?_)
  ·refine aH ⟨plainId_quiet F.b7 _,?_⟩
   refine ih (i + 1) h2 _ (storedH rs (ks i).1 (ks i).2 v) 0 (by omega) hlt (λ b o b1 b2 q=>?_) ?_ d2 (rel.put (ks i).1 rv)
   ·exact sb.extBut b o b2 (k1 b o b1 (kp b o b1 b2 q))
   ·obtain ⟨oi,yz,ri⟩:=Xx
    exact ⟨oi,sb.extBut it oi (bF hd) yz,ri⟩
  ·rw [<- gu rel]
   exact bE (qw ks vs i) (bE (gK hlt) hn)
theorem wk{E:Value->Shared->Prop}{its:Array Value}{n:Nat}{ks:Nat->HM.bf × Addr}{vs:Nat->V}{Q:Value->Shared->Prop}(hu:A.units + 20 < cLine)(hx:PlainL s.heap l its)(hh:A.in1.in1.handled=none)(hn:n <= sizeLine)(hsz:its.size=n)
  (hp:∀ i,i < n->∃ (T:Addr) (v:Value) (o:Obj) (c:Nat),its[i]? = some (.ref T) /\ s.heap.get? T=some o /\ o.cls=.type "tuple" /\ o.data=.seq #[.ref (ks i).2,v] c /\ HM.bH s.heap (ks i).1 (ks i).2 /\ RelV (vs i) v)
  (q:∀ h' tk rs,(∀ b o,s.heap.get? b=some o->h'.get? b=some o)->h'.DictOfH (HM.c8 prog w) s.heap.objs.size rs->jy (iN ks vs n) rs->Q (.ref s.heap.objs.size) { s with heap:=h',toks:=tk }):
  wpAny (model prog w) A (call (.type "dict") [.ref l]) Q E s:=by
 refine callType_codes (Q₁:=λ x s1=>x=.ref s.heap.objs.size /\ s1={ s with heap:=s.heap.push { cls:=.type "dict", data:=.dict #[] } }) F.kt_called_dict (F.kt_typeCall_dict_1 _) F.entry_dict_init (kt_code_dict_new _ ⟨rfl,rfl⟩) ?_
 rintro _ _ ⟨rfl,rfl⟩
 have dd:(s.heap.push { cls:=.type "dict", data:=.dict #[] }).DictOfH (HM.c8 prog w) s.heap.objs.size []:=Heap.DictOfH.new s.heap
 have hx1:PlainL (s.heap.push { cls:=.type "dict", data:=.dict #[] }) l its:=hx.keeps λ b o e=>cB _ e
 refine ⟨dd.typeIs,F.args_dict_init_2 _ _,?_⟩
 unfold Builtin.«dict.__init__»
 refine ao ?_
 unfold Builtin.Dict.selfAndRest
 refine ao (wpAny_notOrdered_dict dd.typeIs ?_)
 refine aH (a:=(s.heap.objs.size,[Value.ref l])) ?_
 show wpAny _ _ (Builtin.Dict.updateFrom "dict.__init__" s.heap.objs.size (.ref l) [] .none) _ _ _
 unfold Builtin.Dict.updateFrom
 obtain ⟨⟨cls,dc,da,sl⟩,c,e0,e1,e2,e3⟩:=hx1
 simp only at e1 e2 e3
 subst e1 e2 e3
 refine ao (wpAny_typeOf (T := "list") ⟨_,e0,rfl⟩ ?_)
 rw [if_pos (by decide)]
 refine ao (ZP.Jm e0 hh λ h1 t1 k1=>?_)
 show wpAny _ _ (rule _ >>= _) _ _ _
 refine ao (wpAny_rule ?_)
 have hl1:h1.IsList l its:=⟨_,k1 _ _ e0,rfl,c,rfl⟩
 refine ao (wpAny_pyIter_list (s:={ s with heap:=h1,toks:=t1 }) hl1 ?_)
 refine aH ⟨plainId_quiet F.b7 _,?_⟩
 have sz:∀ b o,s.heap.get? b=some o->b ≠ s.heap.objs.size:=λ b o e=>aT (aF e)
 have k0:∀ b o,s.heap.get? b=some o->h1.get? b=some o:=λ b o e=>k1 b o (cB _ e)
 have k2:∀ b o,h1.get? b=some o->(h1.push { cls:=.type "list_iterator", data:=.fields #[.ref l,.int 0 0] }).get? b=some o:=λ b o e=>cB _ e
 have Vs:∀ b o,h1.get? b=some o->b ≠ h1.objs.size:=λ b o e=>aT (aF e)
 have hdo:h1.get? s.heap.objs.size=some { cls:=.type "dict", data:=.dict #[] }:=k1 _ _ (fR _ rfl)
 have hdi:s.heap.objs.size ≠ h1.objs.size:=Vs _ _ hdo
 obtain ⟨ol,nl,Qw,_⟩:=hx
 refine wj (s0:={ s with heap:=h1.push { cls:=.type "list_iterator", data:=.fields #[.ref l,.int 0 0] },toks:=t1 }) (it:=h1.objs.size) (l:=l) (d:=s.heap.objs.size) (its:=its) (n:=n) (ks:=ks) (vs:=vs) (by simp only [Around.in1]; omega) hdi (bF (sz _ _ Qw)) (Vs _ _ (k0 _ _ Qw)) hh hn hsz (λ o vs n e z=>?_) (λ o vs n e z=>?_) (λ i hi=>?_) (let ⟨o,a,r⟩:=hl1; ⟨o,k2 _ _ a,r⟩) (λ h' tk rs k' d' rel=>?_) _ 0 _ t1 [] 0 rfl (aQ _) (λ b o _ _ e=>e) ⟨_,fR _ rfl,rfl,rfl⟩ ⟨_,#[],0,k2 _ _ hdo,⟨rfl,rfl,rfl⟩,rfl,rfl,(λ x hx=>nomatch hx),jc⟩ .nil
 ·have e':some ({ cls:=.type "list_iterator", data:=.fields #[.ref l,.int 0 0] }:Obj)=some o:=(fR _ rfl).symm.trans e
  cases e'
  cases z
 ·have e':=(k2 _ _ hdo).symm.trans e
  cases e'
  cases z
 ·obtain ⟨T,v,o,c,a1,a2,a3,a4,a5,a6⟩:=hp i hi
  exact ⟨T,v,o,c,a1,k2 _ _ (k0 _ _ a2),a3,a4,Vs _ _ (k0 _ _ a2),sz _ _ a2,HM.bH.stay a5 λ b o _ _ _ _ e=>k2 _ _ (k0 _ _ e),a6⟩
 ·exact ⟨rfl,q h' tk rs (λ b o e=>k' b o (Vs _ _ (k0 _ _ e)) (sz _ _ e) (k2 _ _ (k0 _ _ e))) d' rel⟩
end
abbrev lT(H:Hp):List V->List (HM.bf × Addr × V)->Prop:=Paired λ u p=>∃ t,u=.ref t /\ H t=some (.tup [.ref p.2.1,p.2.2]) /\ aM H (.ref p.2.1) p.1
def LV(K:aA)(P:Program)(w:World):List V->Hp->VK->Prop:=λ vs H Q=>∃ a us ps,vs=[.ref a] /\ bD K H a us /\ lT H us ps /\ (ps.map (·.1)).Nodup /\ ∀ p ep H',eE H p (.ext (cI P w p ep ps)) H'->Q (.ref p) H'
end L2
namespace SN
open PySem PySem.Spec PyProof.Rows
section
variable {prog:Program}{w:World}{A:Around}{E:Value->Shared->Prop}{s:Shared}
theorem JJ{d:Addr}{es:Array DictEntry}{ep:Nat}(hd:(d == sysModules)=false):
  MeetsIn prog w (Builtin.«dict.__len__» ⟨[.ref d],[]⟩) (λ _ R s=>g8 s.heap d es ep /\ R (.ok (.ret (.int es.size s.toks))) { s with toks:=s.toks + 1 }) :=
 .of_wp λ A R s ⟨hm,h⟩=>by
  obtain ⟨o,ho,hc,hdat⟩:=hm
  show wpAny _ _ (dictSize d >>= _) _ _ s
  unfold dictSize
  refine ao (ao (wpAny_dictEntries ho hdat (aH ?_)))
  show wpAny _ _ (Builtin.Dict.pendingCount d >>= _) _ _ s
  refine ao (wpAny_pendingCount_other hd ?_)
  refine wpAny_ret_mkInt ?_
  rw [Nat.add_zero]
  exact h
theorem uC{d:Addr}{es:Array DictEntry}{ep:Nat}{Q:Value->Shared->Prop}(hd:(d == sysModules)=false)(hm:g8 s.heap d es ep)(hfit:(es.size:Int) < 2 ^ 63)
  (h:Q (.int es.size (s.toks + 1)) { s with toks:=s.toks + 1 + 1 }):wpAny (model prog w) A (call (.builtin "len") [.ref d]) Q E s:=by
 refine pL kind_len plain_len entry_len (args_len1 _) ?_
 unfold Builtin.«len»
 refine ao (m:=oneArg "len" _) (aH ?_)
 refine ao (m:=callSpecial? (.ref d) (Str.ofString "__len__")) (wpAny_callSpecial?_slot (name:=Str.ofString "__len__") hm.ty F.slot_dict_len
  (call_meetsIn F.slot_dict_len hm.ty F.entry_dict_len (F.args_dict_len_1 _) (JJ (es:=es) (ep:=ep) hd) ⟨hm,?_⟩))
 show wpAny _ _ _ _ _ { s with toks:=s.toks + 1 }
 refine ao (wpAny_holding (aH ?_))
 refine ao (wpAny_letGo ?_)
 show wpAny _ _ (if ((es.size:Nat):Int) < 0 then _ else _) _ _ _
 rw [if_neg (by omega)]
 show wpAny _ _ (if ((es.size:Nat):Int) >= 2 ^ 63 then _ else _) _ _ _
 rw [if_neg (by omega)]
 exact ao (wpAny_mkInt (aH ⟨_,rfl,h⟩))
end
end SN
namespace L2
open PySem PySem.Spec PyProof.Rows
variable {d:Addr}{ep:Nat}{kvs:dM}
section
variable {X:Cx}{K:aA}{P:Program}{w:World}{H:Hp}{Q:VK}
def LW(P:Program)(w:World):List V->Hp->VK->Prop:=λ xs H Q=>∃ d ep kvs,xs=[.ref d] /\ H d=some (.ext (cI P w d ep kvs)) /\ Q (.int kvs.length) H
theorem nK:cO X (.builtin "len") (LW X.prog X.w):=by
 intro pins s σ H xs us Q I r h
 obtain ⟨d,ep,kvs,rfl,hd,q⟩:=h
 obtain ⟨u,rfl,ru⟩:=vals1 r
 cases ru
 obtain ⟨lo,z,es,rd,hs,hat⟩:=I.raw hd
 refine SN.uC lo rd (by rw [sizeLine_eq] at z; omega) ?_
 exact ⟨.int kvs.length,H,I.tok _,⟨_,by rw [hs]⟩,q⟩
theorem OR(hd:H d=some (.ext (cI P w d ep kvs)))(q:Q (.int kvs.length) H):LW P w [.ref d] H Q:=⟨d,ep,kvs,rfl,hd,q⟩
def S1(K:aA)(P:Program)(w:World):List V->Hp->VK->Prop:=λ xs H Q=>∃ d ep kvs T b,xs=[.ref d,.ty T] /\ H d=some (.ext (cI P w d ep kvs)) /\ PySem.W.kitOne K (.type "dict") (.type T)=some b /\ Q (.bl b) H
theorem Qz:cO X (.builtin "isinstance") (S1 X.K X.prog X.w):=by
 intro pins s σ H xs us Q I r h
 obtain ⟨d,ep,kvs,T,b,rfl,hd,e,q⟩:=h
 cases r with
 | cons r1 r =>
  cases r with
  | cons r2 r =>
   cases r
   cases r1
   cases r2
   obtain ⟨lo,z,es,⟨o,h1,h2,_⟩,hs,hat⟩:=I.raw hd
   exact eF PySem.W.kitx_dict I.tS ⟨o,h1,h2.1⟩ e (λ z=>nomatch z) λ tk=>⟨.bl b,H,I.tok _,rfl,q⟩
def F7(P:Program)(w:World):List V->Hp->VK->Prop:=λ xs H Q=>∃ d ep kvs,xs=[.ref d] /\ H d=some (.ext (cI P w d ep kvs)) /\ ∀ p H',eE H p (.lst (kvs.map λ e=>V.ref e.2.1)) H'->Q (.ref p) H'
theorem qy{H:Hp}{us:List V}{ps:dM}(h:lT H us ps){i:Nat}(hi:i < ps.length):∃ t,us[i]? = some (.ref t) /\ H t=some (.tup [.ref (ps.getD i ((0,none),0,.c6)).2.1,(ps.getD i ((0,none),0,.c6)).2.2]) /\ aM H (.ref (ps.getD i ((0,none),0,.c6)).2.1) (ps.getD i ((0,none),0,.c6)).1:=by
 have hl:=h.length
 obtain ⟨p,hp,t,e,h1,h2⟩:=iV h (i:=i) (x:=us[i]'(by omega)) (dJ _)
 have ep:ps.getD i ((0,none),0,.c6)=p:=by rw [ki,hp]; rfl
 rw [ep]
 exact ⟨t,by rw [dJ (by omega),e],h1,h2⟩
theorem qz(hu:X.A.units + 64 < cLine)(hc:X.calm=true):cO X (.type "dict") (LV X.K X.prog X.w):=by
 intro pins s σ H xs us Q I r h
 obtain ⟨l,ul,ps,rfl,hS,hP,nd,q⟩:=h
 obtain ⟨u,rfl,r1⟩:=vals1 r
 cases r1
 obtain ⟨its,rv,pl,hz⟩:=I.list hS
 have e1:ul.length=ps.length:=hP.length
 have hA:X.A.in1.in1.handled=none:=I.ok.hd hc
 have big:@LT.lt Nat _ sysModules s.heap.objs.size:=I.big
 have n6:@Ne Nat s.heap.objs.size sysModules:=by omega
 have hl:=rv.length
 have eb:iN (λ i=>((ps.getD i ((0,none),0,.c6)).1,(ps.getD i ((0,none),0,.c6)).2.1)) (λ i=>(ps.getD i ((0,none),0,.c6)).2.2) ps.length=ps:=by
  rw [sJ]
  ·exact range_getD _ ps
  ·intro i j hi hj e
   have gi:∀ k (hk:k < ps.length),ps.getD k ((0,none),0,.c6)=ps[k]:=λ k hk=>by rw [ki,dJ hk]; rfl
   dsimp only at e
   rw [gi i (by omega),gi j hj] at e
   have:=(pP nd (i:=i) (j:=j) (h₀:=by rw [au]; omega) (h₁:=by rw [au]; omega)).mp (by rw [pQ,pQ]; exact e)
   omega
 refine wk (n:=ps.length) (ks:=λ i=>((ps.getD i ((0,none),0,.c6)).1,(ps.getD i ((0,none),0,.c6)).2.1)) (vs:=λ i=>(ps.getD i ((0,none),0,.c6)).2.2) (by omega) pl hA (by omega) (by rw [aV]; omega) (λ i hi=>?_) λ h' tk rs k' d' rel=>?_
 ·obtain ⟨t,ht,htt,hh⟩:=qy hP hi
  obtain ⟨w,hw,rw'⟩:=rv.get ht
  cases rw'
  obtain ⟨its2,rv2,pt,_⟩:=I.tuple (gm.of htt)
  obtain ⟨o,ho,hc',n,hd⟩:=pt
  cases rv2 with
  | cons a1 b1 =>
   cases b1 with
   | cons a2 b2 =>
    cases b2
    cases a1
    exact ⟨t,_,o,n,by simpa using hw,ho,hc',hd,I.hrm hh,a2⟩
 ·rw [eb] at rel
  have I3:Inv X pins σ H { s with heap:=h',toks:=tk }:=I.kept k'
  have fd:dU X pins H s.heap.objs.size:=I.kg (az _) (I.hok.fresh (az _))
  obtain ⟨ep,ho⟩:=zI (X:=X) (by rw [<- e1]; exact hz) (beq_eq_false_iff_ne.mpr n6) rel d'
  have I4:=I3.vp fd (o:=.ext (cI X.prog X.w s.heap.objs.size ep ps)) ho
  exact ⟨.ref _,_,I4,rfl,q _ ep _ ⟨fd.1,rfl⟩⟩
theorem A5{a:Addr}{us:List V}{ps:dM}(hS:bD K H a us)(hP:lT H us ps)(nd:(ps.map (·.1)).Nodup)(h:∀ p ep H',eE H p (.ext (cI P w p ep ps)) H'->Q (.ref p) H'):LV K P w [.ref a] H Q:=⟨a,us,ps,rfl,hS,hP,nd,h⟩
end
section
variable {K:aA}{P:Program}{w:World}{nx bk ct:St->Hp->Prop}{rt:VK}{σ:St}{H:Hp}{Q:VK}{td ty tv:TE}
theorem JK(h:∀ p ep H',eE H p (.ext (cI P w p ep [])) H'->Q (.ref p) H'):F1 P w σ H Q:=h
theorem kC{b:Addr}{k:HM.bf}{v:V}(hd:H d=some (.ext (cI P w d ep kvs)))(hk:bM H kvs)(hb:aM H (.ref b) k)(hv:g9 kvs k=some v)(h:Q v H):FW P w (.ref d) (.ref b) H Q:=⟨d,b,ep,kvs,k,v,rfl,rfl,⟨hd,hk⟩,hb,hv,h⟩
theorem F8{b:Addr}{k:HM.bf}{v:V}{R:Hp->Prop}(hd:H d=some (.ext (cI P w d ep kvs)))(hk:bM H kvs)(hb:aM H (.ref b) k)(hz:kvs.length <= 1000000)(h:∀ nV H',kh H d (.ext (cI P w d nV (iW kvs k b v))) H'->R H'):FY P w v (.ref d) (.ref b) H R:=⟨d,b,ep,kvs,k,rfl,rfl,⟨hd,hk⟩,hb,hz,h⟩
theorem JL(h:tv σ H λ v H1=>td σ H1 λ x H2=>ty σ H2 λ y H3=>FY P w v x y H3 λ H4=>nx σ H4):FZ P w td ty tv ⟨nx,rt,bk,ct⟩ σ H:=h
theorem JM{rd:V->V->Hp->VK->Prop}(h:td σ H λ x H1=>ty σ H1 λ y H2=>FW P w x y H2 λ v H3=>tv σ H3 λ y2 H4=>rd v y2 H4 λ z H5=>FY P w z x y H5 λ H6=>nx σ H6):F0 P w td ty tv rd ⟨nx,rt,bk,ct⟩ σ H:=h
end
end L2
namespace SN
open PySem PySem.Spec PyProof.Rows
variable {d:Addr}{ep:Nat}{es:Array DictEntry}
section
variable {prog:Program}{w:World}{A:Around}{E:Value->Shared->Prop}{s:Shared}
theorem CL{it:Addr}{i:Nat}{e:DictEntry}{Q:Option Value->Shared->Prop}(hit:s.heap.IsValIter it d i es.size ep)(x:g8 s.heap d es ep)(he:es[i]? = some e)
  (hQ:∀ h',h'.IsValIter it d (i + 1) es.size ep->Heap.SameBut it s.heap h'->Q (some e.val) { s with heap:=h' }):wpAny (model prog w) A (pyNext (.ref it)) Q E s:=by
 have ty:=hit.typeIs
 obtain ⟨o,ho,hc,hf⟩:=hit
 obtain ⟨od,hod,_,rH⟩:=x
 unfold pyNext
 refine ao (wpAny_attempt (wpAny_callSpecial?_slot (name:=Str.ofString "__next__") ty tP (wpAny_call_entry tP ty F.entry_dict_valueiterator_next ?_ (F.args_dict_valueiterator_next_1 _))))
 refine ao (aH (ao (ao ?_)))
 first | refine ao (wpAny_typeNameOfWhole_valiter ty (aH (ao (wpAny_fieldsOf ho hf ?_)))) | refine ao (wpAny_typeNameOf_valiter ty (aH (ao (wpAny_fieldsOf ho hf ?_))))
 rw [show Builtin.Dict_items.ownsTuple "dict_valueiterator" = false by decide]
 simp only [bG,if_false]
 show wpAny _ _ (if (Value.ref d == Value.none)=true then _ else _) _ _ s
 rw [if_neg (show ¬ (Value.ref d == Value.none)=true from ic)]
 refine ao (aH (ao (wpAny_dictEntries hod rH ?_)))
 rw [if_neg (by simp)]
 refine ao (aH (ao (wpAny_dictEpoch hod rH ?_)))
 rw [if_neg (by simp)]
 refine aH ?_
 simp only [show ¬ ((i:Int) < 0) by omega,if_false,gE,he]
 refine ao ?_
 first | refine ao (wpAny_typeNameOfWhole_valiter ty (aH (ao (wpAny_isOneOf_valiter ty ?_)))) | refine ao (wpAny_typeNameOf_valiter ty (aH (ao (wpAny_isOneOf_valiter ty ?_))))
 show wpAny _ _ (setField (.ref it) 1 (rawInt ((i:Int) + 1)) >>= _) _ _ s
 have vE:(s.heap.update it (Obj.mapFields (·.setIfInBounds 1 (rawInt ((i:Int) + 1))))).IsValIter it d (i + 1) es.size ep :=
  ⟨_,dO _ ho (jf (dI hf _)),(kL ..).trans hc,by rw [dI hf]; simp [rawInt]⟩
 refine ao (wpAny_setField ho hf (by simp) (ao (wpAny_holding ?_)))
 refine ao (wpAny_isOneOf_valiter (s:={ s with heap:=s.heap.update it (Obj.mapFields (·.setIfInBounds 1 (rawInt ((i:Int) + 1)))) }) vE.typeIs ?_)
 refine ao (wpAny_isOneOf_valiter (s:={ s with heap:=s.heap.update it (Obj.mapFields (·.setIfInBounds 1 (rawInt ((i:Int) + 1)))) }) vE.typeIs (show wpAny _ _ (pure e.val) _ _ _ from ?_))
 exact aH (aH ⟨_,rfl,aH (hQ _ vE (iI ..))⟩)
theorem F9{it:Addr}{Q:Option Value->Shared->Prop}(hh:A.handled=none)(hit:s.heap.IsValIter it d es.size es.size ep)(x:g8 s.heap d es ep)
  (hQ:∀ h',Heap.ExtBut it s.heap h'->Q none { s with heap:=h' }):wpAny (model prog w) A (pyNext (.ref it)) Q E s:=by
 have ty:=hit.typeIs
 obtain ⟨o,ho,hc,hf⟩:=hit
 obtain ⟨od,hod,_,rH⟩:=x
 unfold pyNext
 refine ao (wpAny_attempt (wpAny_callSpecial?_slot (name:=Str.ofString "__next__") ty tP (wpAny_call_entry tP ty F.entry_dict_valueiterator_next ?_ (F.args_dict_valueiterator_next_1 _))))
 refine ao (aH (ao (ao ?_)))
 first | refine ao (wpAny_typeNameOfWhole_valiter ty (aH (ao (wpAny_fieldsOf ho hf ?_)))) | refine ao (wpAny_typeNameOf_valiter ty (aH (ao (wpAny_fieldsOf ho hf ?_))))
 rw [show Builtin.Dict_items.ownsTuple "dict_valueiterator" = false by decide]
 simp only [bG,if_false]
 show wpAny _ _ (if (Value.ref d == Value.none)=true then _ else _) _ _ s
 rw [if_neg (show ¬ (Value.ref d == Value.none)=true from ic)]
 refine ao (aH (ao (wpAny_dictEntries hod rH ?_)))
 rw [if_neg (by simp)]
 refine ao (aH (ao (wpAny_dictEpoch hod rH ?_)))
 rw [if_neg (by simp)]
 refine aH ?_
 simp only [show ¬ ((es.size:Int) < 0) by omega,if_false,gE,pJ (az es.size)]
 refine ao ?_
 first | refine ao (wpAny_typeNameOfWhole_valiter ty (aH ?_)) | refine ao (wpAny_typeNameOf_valiter ty (aH ?_))
 show wpAny _ _ (setField (.ref it) 0 .none >>= _) _ _ s
 refine ao (wpAny_setField ho hf (by simp) (show wpAny _ _ (newExc (.type "StopIteration") [] >>= _) _ _ _ from ao ?_))
 simp only [newExc,newTuple]
 refine ao (wpAny_newObj_type ?_ (by size_fits))
 refine ao (m:=firstArgMember _ _) (wpAny_of_eq (a:=Value.none) (by first | rfl | (simp only [firstArgMember]; rfl)) (wpAny_newObj_type ?_ (by size_fits)))
 simp only [raiseNew]
 refine ao (wpAny_handled ?_)
 rw [show A.in1.handled=none from hh]
 refine ao (aH (wpAny_throw (ao ?_)))
 refine wpAny_isInstance (T := "StopIteration") (b:=true) ⟨_,fR _ rfl,rfl⟩ isSubtype_stop ?_
 exact aH (hQ _ (((iI ..).extBut.push _).push _))
theorem CM{v:Addr}{Q:Value->Shared->Prop}(hv:s.heap.IsValuesView v d)(x:g8 s.heap d es ep)
  (hQ:Q (.ref s.heap.objs.size) { s with heap:=s.heap.push { cls:=.type "dict_valueiterator", data:=.fields #[.ref d,.int 0 0,.int es.size 0,.int ep 0] } }):wpAny (model prog w) A (pyIter (.ref v)) Q E s:=by
 obtain ⟨ov,hov,hcv,hdv⟩:=id hv
 obtain ⟨o,ho,hc,hdat⟩:=id x
 refine wpAny_pyIter_slot hv.typeIs F.slot_dict_values_iter (wpAny_call_entry F.slot_dict_values_iter hv.typeIs F.entry_dict_values_iter ?_ (F.args_dict_values_iter_1 _))
 unfold Builtin.«dict_values.__iter__»
 refine ao (aH ?_)
 refine ao ?_
 unfold Builtin.Dict_items.dictOf
 refine ao (wpAny_field hov hdv (x:=.ref d) rfl (aH ?_))
 refine ao ?_
 unfold Builtin.Dict_items.newIterator
 refine ao (wpAny_dictEntries ho hdat ?_)
 refine ao (wpAny_dictEpoch ho hdat ?_)
 have hown:Builtin.Dict_items.ownsTuple "dict_valueiterator" = false:=by decide
 simp only [hown,bG,if_false]
 refine wpAny_newObj_type (aH ⟨_,rfl, "dict_valueiterator", _,⟨_,fR _ rfl,rfl⟩,F.slot_dict_valueiterator_next.lookup,?_⟩)
 simpa [rawInt] using hQ
theorem zK(hh:A.handled=none)(I d:Addr)(hne:d ≠ I)(es:Array DictEntry)(ep:Nat):Walks prog w A I [I,d] [I] es.size (λ i v=>∃ e,es[i]? = some e /\ v=e.val) (λ i h=>h.IsValIter I d i es.size ep /\ g8 h d es ep) where
 sub:=λ b hb=>by simp at hb; simp [hb]
 frame:=λ _ _ _ st hk=>⟨st.1.at λ o e=>hk I (by simp) o e,st.2.at' λ o e=>hk d (by simp) o e⟩
 item:=λ i s Q E hi st hQ=>by
  have e1:es[i]? = some es[i]:=d7 hi
  refine CL st.1 st.2 e1 λ h' h1 h2=>hQ _ h' s.toks ⟨_,e1,rfl⟩ ⟨h1,st.2.at' λ o e=>h2.extBut d o hne e⟩ λ b o hb e=>h2.extBut b o (λ h=>hb (by simp [h])) e
 done:=λ s Q E st hQ=>F9 hh st.1 st.2 λ h' h1=>hQ h' s.toks λ b o hb e=>h1 b o (λ h=>hb (by simp [h])) e
 self:=λ _ _ _ _ st hQ=>wpAny_pyIter_valiter st.1 hQ
theorem zL{v:Addr}{ep:Nat}{num:Nat->Int}{Q:Value->Shared->Prop}(hh:A.handled=none)(hv:s.heap.IsValuesView v d)(x:g8 s.heap d es ep)(hne:0 < es.size)(hn:∀ (i:Nat) (e:DictEntry),es[i]? = some e->∃ t,e.val=Value.int (num i) t)
  (h:∀ u h' tk,(∃ e,es[argBest (λ i j=>decide (num i > num j)) (es.size - 1)]? = some e /\ u=e.val)->(∀ b o,s.heap.get? b=some o->h'.get? b=some o)->Q u { s with heap:=h',toks:=tk }):
  wpAny (model prog w) A (call (.builtin "max") [.ref v]) Q E s:=by
 obtain ⟨o,ho,r⟩:=id x
 have hlt:=aF ho
 refine call_max_walk (CM hv x ?_)
 refine ⟨_,_,_,_,_,_,_,rfl,zK (A:=A.in1) hh s.heap.objs.size d (aT hlt) es ep,⟨⟨_,fR _ rfl,rfl,rfl⟩,x.at' λ o e=>cB _ e⟩,?_,hne,CmpOf.ints_gt num (λ i u ⟨e,he,eu⟩=>by obtain ⟨t,ht⟩:=hn i e he; exact ⟨t,by rw [eu,ht]⟩),λ u h' tk hP hk=>?_⟩
 ·intro b hb
  rw [dP]
  simp at hb
  rcases hb with e | e
  ·subst e; exact kK _
  ·subst e; exact je hlt
 ·exact h u h' tk hP λ b o e=>hk b o (λ hm=>by simp at hm; subst hm; exact absurd (aF e) (dH _)) (cB _ e)
end
theorem zM{prog:Program}{w:World}(hd:(d == sysModules)=false):
  MeetsIn prog w (Builtin.«dict.values» ⟨[.ref d],[]⟩) (λ _ R s=>g8 s.heap d es ep /\
   R (.ok (.ret (.ref s.heap.objs.size))) { s with heap:=s.heap.push { cls:=.type "dict_values", data:=.fields #[.ref d] } }) :=
 .of_wp λ A R s ⟨hm,h⟩=>by
  refine ao ?_
  unfold Builtin.Dict.noArgs
  refine ao (wpAny_notOrdered_dict hm.ty ?_)
  show wpAny _ _ (pure d) _ _ s
  refine aH ?_
  show wpAny _ _ (Builtin.Dict.showsAll d >>= _) _ _ s
  unfold Builtin.Dict.showsAll
  rw [if_neg (by rw [hd]; exact ic)]
  refine ao (aH ?_)
  exact ao (wpAny_newObj_type (aH ⟨_,rfl,h⟩))
end SN
namespace L2
open PySem PySem.Spec PyProof.Rows
variable {d:Addr}{ep:Nat}{kvs:dM}
def wm(v d:Addr):Heap->Prop:=λ h=>h.IsValuesView v d
section
variable {X:Cx}{o e f:Expr}{apos cpos:Pos}{td ty tx:TE}
theorem LX{pins:List (Addr × Obj)}{σ:St}{H:Hp}{s:Shared}(I:Inv X pins σ H s)(h:H d=some (.ext (cI X.prog X.w d ep kvs))):
  s.TypeIs (.ref d) "dict" /\ (∀ b,Value.ref d=.ref b->∃ ob,s.heap.get? b=some ob /\ ob.dict=none) /\ (d == sysModules)=false:=by
 obtain ⟨lo,_,es,rd,_,_⟩:=I.raw h
 refine ⟨rd.ty,λ b q=>?_,lo⟩
 cases q
 obtain ⟨ob,h1,h2,_⟩:=rd
 exact ⟨ob,h1,h2.2.1⟩
def Ga(P:Program)(w:World)(Q:VK):V->Hp->Prop:=λ x H=>∃ d ep kvs,x=.ref d /\ H d=some (.ext (cI P w d ep kvs)) /\ ∀ v H',eE H v (.ext (wm v d)) H'->Q (.ref v) H'
def LY(P:Program)(w:World)(td:TE):TE:=λ σ H Q=>td σ H (Ga P w Q)
theorem Gb(ho:PE X o td)(hbase:attributeBase o "values" X.env (eval o X.env)=eval o X.env:=by rfl)(hline:(apos.endLine == cpos.line)=true:=by rfl):PE X (.Call (.Attribute o "values" apos) [] [] cpos) (LY X.prog X.w td):=by
 intro pins s σ H Q I h
 refine wpAny_Call_method0_late hbase hline (cL (ho pins s σ H _ I h) λ u s1 ⟨x,H1,I1,r1,d,ep,kvs,ex,hd,q1⟩=>?_)
 subst ex
 obtain rfl:u=Value.ref d:=r1
 obtain ⟨t1,t2,lo⟩:=LX I1 hd
 obtain ⟨_,_,es,rd,_,_⟩:=I1.raw hd
 refine ⟨"dict", _,PySem.F.plainAttrs_dict,PySem.F.slot_dict_values,PySem.F.type_dict_values,t1,t2,tN rfl (PySem.evalArgs_none ?_)⟩
 refine call_meetsIn PySem.F.slot_dict_values t1 PySem.F.entry_dict_values (PySem.F.args_dict_values_1 _) (SN.zM (es:=es) (ep:=ep) lo) ⟨rd,?_⟩
 exact ⟨.ref s1.heap.objs.size,_,I1.laid (a:=s1.heap.objs.size) (o:=.ext (wm s1.heap.objs.size d)) (t':=s1.toks) (λ _ _ q=>cB _ q) (az _) ⟨⟨_,fR _ rfl,rfl,rfl⟩,⟨_,fR _ rfl⟩,λ g1 g2 ⟨ob,a1,a2⟩ he=>⟨ob,he _ a1,a2⟩⟩,rfl,q1 _ _ ⟨I1.hok.fresh (az _),rfl⟩⟩
def LZ(P:Program)(w:World):List V->Hp->VK->Prop:=λ xs H Q=>∃ (v d:Addr) (ep:Nat) (kvs:dM) (ns:List Int),xs=[.ref v] /\ H v=some (.ext (wm v d)) /\ H d=some (.ext (cI P w d ep kvs)) /\ kvs.map (·.2.2)=ns.map V.int /\ ns ≠ [] /\ ∀ m,m∈ns->(∀ x∈ns,x <= m)->Q (.int m) H
theorem CN(hc:X.calm=true):cO X (.builtin "max") (LZ X.prog X.w):=by
 intro pins s σ H xs us Q I r h
 obtain ⟨v,d,ep,kvs,ns,rfl,hv,hd,en,hne,q⟩:=h
 obtain ⟨u,rfl,ru⟩:=vals1 r
 cases ru
 obtain ⟨vv,_,_⟩:=I.hok v _ hv
 obtain ⟨lo,z,es,rd,hs,hat⟩:=I.raw hd
 have hl:kvs.length=ns.length:=by have:=congrArg List.length en; simpa using this
 have hpos:0 < es.size:=by
  rw [hs,hl]
  cases ns with
  | nil=>exact absurd rfl hne
  | cons=>simp
 have hn:∀ (i:Nat) (e:DictEntry),es[i]? = some e->∃ t,e.val=Value.int (ns.getD i 0) t:=λ i e he=>by
  have hi:i < kvs.length:=by rw [<- hs]; exact (jB.mp he).1
  obtain ⟨u,hu,_,hr⟩:=hat i _ (dJ hi)
  rw [he] at hu
  cases hu
  have e1:kvs[i].2.2=V.int (ns.getD i 0):=by
   have:(kvs.map (·.2.2))[i]? = (ns.map V.int)[i]?:=by rw [en]
   rw [aY,aY,dJ hi,dJ (show i < ns.length by omega)] at this
   rw [ki,dJ (show i < ns.length by omega)]
   exact Option.some.inj this
  rw [e1] at hr
  exact hr
 refine SN.zL (num:=λ i=>ns.getD i 0) (I.ok.hd hc) vv rd hpos hn λ u h' tk hu k=>?_
 obtain ⟨e,he,rfl⟩:=hu
 obtain ⟨b1,b2⟩:=jM (λ i=>ns.getD i 0) (es.size - 1)
 obtain ⟨t,ht⟩:=hn _ _ he
 rw [ht]
 have at_:∀ i,i < ns.length->ns[i]? = some (ns.getD i 0):=λ i hi=>by rw [ki,dJ hi]; rfl
 refine ⟨.int _,H,I.kept k,⟨_,rfl⟩,q _ (fS (at_ _ (by omega))) λ x hx=>?_⟩
 obtain ⟨i,hi⟩:=eU.mp hx
 have hil:=(fu hi).1
 rw [at_ i hil] at hi
 rw [<- Option.some.inj hi]
 exact b2 i (by omega)
def S2(P:Program)(w:World)(ty tx:TE)(σ:St)(Q:VK):V->Hp->Prop:=λ x H1=>∃ d ep kvs,x=.ref d /\ H1 d=some (.ext (cI P w d ep kvs)) /\ ty σ H1 λ y H2=>tx σ H2 λ z H3=>∃ b ep kvs k,y=.ref b /\ DH P w H3 d ep kvs /\ aM H3 (.ref b) k /\ Q ((g9 kvs k).getD z) H3
def OS(P:Program)(w:World)(td ty tx:TE):TE:=λ σ H Q=>td σ H (S2 P w ty tx σ Q)
theorem CO(hu:X.A.units + 64 < cLine)(ho:PE X o td)(he:PE X e ty)(hf:PE X f tx)(m:M2 X o "get" apos e f cpos):PE X (.Call (.Attribute o "get" apos) [e,f] [] cpos) (OS X.prog X.w td ty tx):=by
 intro pins s σ H Q I h
 refine wpAny_Call_method m.base m.few m.line PySem.F.plainAttrs_dict PySem.F.slot_dict_get PySem.F.type_dict_get (cL (ho pins s σ H _ I h) λ u s1 ⟨x,H1,I1,rx,d,ep,kvs,ex,hd,q1⟩=>?_)
 subst ex
 obtain rfl:u=Value.ref d:=rx
 obtain ⟨t1,t2,lo⟩:=LX I1 hd
 refine ⟨t1,t2,?_⟩
 rw [m.trees]
 refine tN rfl (Calls.evalArgs_plain (Calls.spliced_cons (cL (he pins s1 σ H1 _ I1 q1) λ iv s2 ⟨y,H2,I2,ry,q2⟩ =>
  Calls.spliced_cons (cL (hf pins s2 σ H2 _ I2 q2) λ fv s3 ⟨z,H3,I3,rz,b,Vt,abT,k,ey,Ig,hb,q3⟩=>Calls.spliced_nil ?_))))
 subst ey
 obtain rfl:iv=Value.ref b:=ry
 obtain ⟨_,_,xs,rel,dd⟩:=I3.dh Ig
 refine call_meetsIn PySem.F.slot_dict_get dd.typeIs PySem.F.entry_dict_get (PySem.F.args_dict_get_3 _ _ _) (meetsH_dict_get_default (HM.c8 X.prog X.w) d b lo fv) ⟨uA (X:=X) hu,k,xs,I3.hrm hb,dd,?_⟩
 exact ⟨_,H3,I3.tok _,(rel.val k).getD rz,q3⟩
end
section
variable {X:Cx}{P:Program}{w:World}{K:aA}{o i e f:Expr}{pos apos cpos:Pos}{td ty tx:TE}
theorem nL(e1:X.prog=P)(e2:X.w=w)(hu:X.A.units + 64 < cLine)(ho:PE X o td)(hi:PE X i ty)(hs:IL i):PE X (.Subscript o i pos) (MR (FW P w) td ty):=e1 ▸ e2 ▸ gQ hu ho hi hs
theorem zN(e1:X.prog=P)(e2:X.w=w)(hu:X.A.units + 64 < cLine)(ho:PE X o td)(he:PE X e ty)(hf:PE X f tx)(m:M2 X o "get" apos e f cpos):PE X (.Call (.Attribute o "get" apos) [e,f] [] cpos) (OS P w td ty tx):=e1 ▸ e2 ▸ CO hu ho he hf m
theorem zO(hc:X.calm=true):cO X (.type "list") (F7 X.prog X.w):=by
 intro pins s σ H xs us Q I r h
 obtain ⟨d,ep,kvs,rfl,hd,q⟩:=h
 obtain ⟨u,rfl,ru⟩:=vals1 r
 cases ru
 obtain ⟨lo,z,es,rd,hs,hat⟩:=I.raw hd
 refine PySem.W.kdl_call (SN.AX (es:=es) (ep:=ep) lo) (I.ok.hd hc) rd (by omega) λ h' tk acc' c' hk hS hacc=>?_
 refine ⟨.ref s.heap.objs.size,_,I.laid (t':=tk) hk (az _) (o:=.lst (kvs.map λ e=>V.ref e.2.1)) ⟨by rw [au]; exact z,acc'.toList,c',?_,?_⟩,rfl,q _ _ ⟨I.hok.fresh (az _),rfl⟩⟩
 ·have go:∀ {l:List (HM.bf × Addr × V)} {vs:List Value},vs.length=l.length->(∀ (j:Nat) e,l[j]? = some e->vs[j]? = some (.ref e.2.1))->Vals (l.map λ e=>V.ref e.2.1) vs:=by
   intro l
   induction l with
   | nil=>intro vs hl _; cases vs with
    | nil=>exact .nil
    | cons v vs=>simp at hl
   | cons e l ih =>
    intro vs hl hv
    cases vs with
    | nil=>simp at hl
    | cons v vs =>
     have h0:=hv 0 e rfl
     simp only [List.getElem?_cons_zero,Option.some.injEq] at h0
     subst h0
     exact .cons rfl (ih (by simpa using hl) λ j x hx=>by simpa using hv (j + 1) x (by simpa using hx))
  refine go (by rw [cC,hacc.1,hs]) λ j e he=>?_
  obtain ⟨u,hu,hk,_⟩:=hat j e he
  have hj:j < acc'.size:=by rw [hacc.1]; exact (jB.mp hu).1
  obtain ⟨e2,Vp,ee⟩:=hacc.2 j acc'[j] (d7 hj)
  rw [d8,d7 hj,ee]
  rw [hu] at Vp
  cases Vp
  rw [hk]
 ·rw [hS,Array.toArray_toList]
end
section
variable {K:aA}{P:Program}{w:World}{σ:St}{H:Hp}{Q:VK}{td ty tx:TE}
theorem JN(hd:H d=some (.ext (cI P w d ep kvs)))(h:∀ p H',eE H p (.lst (kvs.map λ e=>V.ref e.2.1)) H'->Q (.ref p) H'):F7 P w [.ref d] H Q:=⟨d,ep,kvs,rfl,hd,h⟩
theorem OT(h:td σ H (Ga P w Q)):LY P w td σ H Q:=h
theorem JO(hd:H d=some (.ext (cI P w d ep kvs)))(h:∀ v H',eE H v (.ext (wm v d)) H'->Q (.ref v) H'):Ga P w Q (.ref d) H:=⟨d,ep,kvs,rfl,hd,h⟩
theorem OU{v:Addr}{ns:List Int}(hv:H v=some (.ext (wm v d)))(hd:H d=some (.ext (cI P w d ep kvs)))(en:kvs.map (·.2.2)=ns.map V.int)(hne:ns ≠ [])(h:∀ m,m∈ns->(∀ x∈ns,x <= m)->Q (.int m) H):LZ P w [.ref v] H Q:=⟨v,d,ep,kvs,ns,rfl,hv,hd,en,hne,h⟩
theorem L1(h:td σ H (S2 P w ty tx σ Q)):OS P w td ty tx σ H Q:=h
end
end L2
namespace MX
open PySem PySem.Spec PyProof.Rows
section
variable {prog:Program}{w:World}{A:Around}{R:Result->Shared->Prop}{I:Addr}{fp wr:List Addr}{n:Nat}{P:Nat->Value->Prop}{St:Nat->Heap->Prop}{kw:List (Str × Value)}
theorem nm:(toString "max" ++ toString ".loop" : String) = "max.loop" := by decide
theorem loop(W:Walks prog w A.in1 I fp wr n P St)(bt:Nat->Nat->Bool)(hcmp:CmpOf prog w A.in1 .Gt P bt)(S:Addr)(hSf:S ∉ fp):
  ∀ (k j:Nat) (s:Shared) (vb:Value) (c:Nat),n - (j + 1)=k->j + 1 <= n->St (j + 1) s.heap->P (argBest bt j) vb ->
  s.heap.get? S=some { cls:=.type "list", dict:=none,data:=.seq #[vb,vb] c,slots:=#[] } ->
  (∀ v h' tk,P (argBest bt (n - 1)) v->(∀ b o,b ∉ wr->b ≠ S->s.heap.get? b=some o->h'.get? b=some o)->R (.ok (.ret v)) { s with heap:=h',toks:=tk }) ->
  codeAny (model prog w) A (.builtin "max.loop" ⟨[.ref I,.none,.ref S],kw⟩) R s:=by
 have JP:S ∉ wr:=λ h=>hSf (W.sub _ h)
 intro k
 induction k with
 | zero =>
  intro j s vb c hk hj hst L3 hS hR
  have hin:j + 1=n:=by omega
  refine codeAny_builtin kE ?_
  rw [fz eB _]
  refine (show wpAny _ A.in1 (seqItems? (.ref S) >>= _) _ _ s from ao (wpAny_seqItems hS rfl ?_))
  refine (show wpAny _ A.in1 (tryCatch (pyNext (.ref I)) _ >>= _) _ _ s from ao (wpAny_tryCatch (W.done s _ _ (hin ▸ hst) λ h' tk hk'=>?_)))
  refine (show wpAny _ A.in1 (updateSeq S (λ _=>#[]) >>= _) _ _ _ from ao (wpAny_updateSeq (hk' S _ JP hS) rfl (ao (wpAny_letGo (aH ?_)))))
  exact hR vb _ tk (by rw [<- hin]; exact L3) λ b o A6 JQ e=>(fB _ _ (bF JQ)).trans (hk' b o A6 e)
 | succ k ih =>
  intro j s vb c hk hj hst L3 hS hR
  have hlt:j + 1 < n:=by omega
  refine codeAny_builtin kE ?_
  rw [fz eB _]
  refine (show wpAny _ A.in1 (seqItems? (.ref S) >>= _) _ _ s from ao (wpAny_seqItems hS rfl ?_))
  refine (show wpAny _ A.in1 (tryCatch (pyNext (.ref I)) _ >>= _) _ _ s from ao (wpAny_tryCatch (W.item (j + 1) s _ _ hlt hst λ v h' tk hP qA hk'=>?_)))
  have hS':=hk' S _ JP hS
  refine (show wpAny _ A.in1 (tryCatch (holding [v,v] (richCompare .Gt v vb >>= _)) _ >>= _) _ _ _ from ao (wpAny_tryCatch (wpAny_holding (ao (hcmp (j + 1) (argBest bt j) v vb _ _ _ hP L3 ?_)))))
  refine ao (wpAny_holding (wpAny_truthy_bool (ao (wpAny_letGo (aH ?_)))))
  cases hb:bt (j + 1) (argBest bt j) with
  | true =>
   simp only [if_true]
   refine ao (wpAny_updateSeq hS' rfl (ao (wpAny_letGo ?_)))
   rw [nm]
   refine aH ⟨plainId_quiet eB _,ih (j + 1) _ v _ (by omega) hlt (W.frame _ _ _ qA λ b Xy o e=>(fB _ _ (λ h:S=b=>hSf (by rw [h]; exact Xy))).trans e) (by simp only [argBest,hb,if_true]; exact hP) (dO _ hS' rfl) λ v' h'' Gd S3 Ge=>?_⟩
   exact hR v' h'' Gd S3 λ b o A6 JQ e=>Ge b o A6 JQ ((fB _ _ (bF JQ)).trans (hk' b o A6 e))
  | false =>
   simp only [bG,if_false]
   refine ao (wpAny_letGo ?_)
   rw [nm]
   exact aH ⟨plainId_quiet eB _,ih (j + 1) _ vb c (by omega) hlt qA (by simp only [argBest,hb,bG,if_false]; exact L3) hS' λ v' h'' Gd S3 Ge=>hR v' h'' Gd S3 λ b o A6 JQ e=>Ge b o A6 JQ (hk' b o A6 e)⟩
theorem first(W:Walks prog w A.in1 I fp wr n P St)(bt:Nat->Nat->Bool)(hcmp:CmpOf prog w A.in1 .Gt P bt)(S:Addr)(hSf:S ∉ fp)(hn:0 < n){s:Shared}{c:Nat}(hst:St 0 s.heap)
  (hS:s.heap.get? S=some { cls:=.type "list", dict:=none,data:=.seq #[] c,slots:=#[] })
  (hR:∀ v h' tk,P (argBest bt (n - 1)) v->(∀ b o,b ∉ wr->b ≠ S->s.heap.get? b=some o->h'.get? b=some o)->R (.ok (.ret v)) { s with heap:=h',toks:=tk }):
  codeAny (model prog w) A (.builtin "max.loop" ⟨[.ref I,.none,.ref S],kw⟩) R s:=by
 have JP:S ∉ wr:=λ h=>hSf (W.sub _ h)
 refine codeAny_builtin kE ?_
 rw [fz eB _]
 refine (show wpAny _ A.in1 (seqItems? (.ref S) >>= _) _ _ s from ao (wpAny_seqItems hS rfl ?_))
 refine (show wpAny _ A.in1 (tryCatch (pyNext (.ref I)) _ >>= _) _ _ s from ao (wpAny_tryCatch (W.item 0 s _ _ hn hst λ v h' tk hP qA hk'=>?_)))
 have hS':=hk' S _ JP hS
 refine (show wpAny _ A.in1 (updateSeq S (λ _=>#[v,v]) >>= _) _ _ _ from ao (wpAny_updateSeq hS' rfl ?_))
 rw [nm]
 refine aH ⟨plainId_quiet eB _,loop W bt hcmp S hSf _ 0 _ v _ rfl hn (W.frame _ _ _ qA λ b Xy o e=>(fB _ _ (λ h:S=b=>hSf (by rw [h]; exact Xy))).trans e) hP (dO _ hS' rfl) λ v' h'' Gd S3 Ge=>?_⟩
 exact hR v' h'' Gd S3 λ b o A6 JQ e=>Ge b o A6 JQ ((fB _ _ (bF JQ)).trans (hk' b o A6 e))
theorem none_{d:Value}{x:Str}(W:Walks prog w A.in1 I fp wr 0 P St)(S:Addr)(hSf:S ∉ fp){s:Shared}{c:Nat}(hst:St 0 s.heap)
  (hS:s.heap.get? S=some { cls:=.type "list", dict:=none,data:=.seq #[] c,slots:=#[] })
  (hR:∀ h' tk,(∀ b o,b ∉ wr->s.heap.get? b=some o->h'.get? b=some o)->R (.ok (.ret d)) { s with heap:=h',toks:=tk }):
  codeAny (model prog w) A (.builtin "max.loop" ⟨[.ref I,.none,.ref S],[(x,d)]⟩) R s:=by
 refine codeAny_builtin kE ?_
 rw [fz eB _]
 refine (show wpAny _ A.in1 (seqItems? (.ref S) >>= _) _ _ s from ao (wpAny_seqItems hS rfl ?_))
 refine (show wpAny _ A.in1 (tryCatch (pyNext (.ref I)) _ >>= _) _ _ s from ao (wpAny_tryCatch (W.done s _ _ hst λ h' tk hk'=>?_)))
 show wpAny _ A.in1 (rule _ >>= _) _ _ _
 exact ao (wpAny_rule (aH (hR h' tk hk')))
end
section
variable {prog:Program}{w:World}{A:Around}{E:Value->Shared->Prop}{s:Shared}
theorem A7{id:String}{b:Builtin}{args:List Value}{kw:List (Str × Value)}{Q:Value->Shared->Prop}(hk:builtinKind id=none)(hp:plainId id=true)(hb:entryFor table id=some b)(ha:argsOk id ⟨args,kw⟩)
  (hc:wpAny (model prog w) A.in1 (b ⟨args,kw⟩) (λ fin s'=>match fin with
   | .done f=>(match (Except.ok f:Result) with | .ok (.ret v)=>Q v s' | .ok _=>False | .error e=>E e s')
   | .again c'=>c'.quiet=true /\ codeAny (model prog w) A c' (λ r s'=>match r with | .ok (.ret v)=>Q v s' | .ok _=>False | .error e=>E e s') s') E s):wpAny (model prog w) A (call (.builtin id) args kw) Q E s:=by
 refine wpAny_call (codeAny_call_builtin hp hb ?_)
 simp only [checkBuiltinCall,hk]
 cases Xz:Manifest.signature? id with
 | none=>exact aH hc
 | some sig =>
  have h2:Bind.checkArgs id sig ⟨args,kw⟩=pure ():=by simpa only [argsOk,Xz] using ha
  refine (show wpAny _ A.in1 (Bind.checkArgs id sig ⟨args,kw⟩) _ _ s from ?_)
  rw [h2]
  exact aH hc
theorem CP(a d:Value):argsOk "max" ⟨[a],[("default", d)]⟩:=by unfold argsOk; kernel_rfl
theorem CQ{x d:Value}{Q:Value->Shared->Prop}
  (h:wpAny (model prog w) A.in1 (pyIter x) (λ it s₂=>∃ I fp wr n P St bt,it=.ref I /\ Walks prog w A.in1 I fp wr n P St /\ St 0 s₂.heap /\ (∀ b∈fp,b < s₂.heap.objs.size) /\ CmpOf prog w A.in1 .Gt P bt /\
   ∀ v h' tk,(if n=0 then v=d else P (argBest bt (n - 1)) v)->(∀ b o,b ∉ wr->s₂.heap.get? b=some o->h'.get? b=some o)->Q v { s₂ with heap:=h',toks:=tk }) E s):
  wpAny (model prog w) A (call (.builtin "max") [x] [("default", d)]) Q E s:=by
 refine A7 F.kind_max F.plain_max F.entry_max (CP _ _) ?_
 refine (show wpAny _ A.in1 (Builtin.Builtins.bindParams "max" ["key", "default"] 0 ⟨[],[("default", d)]⟩ >>= _) _ _ s from ?_)
 refine ao (wpAny_of_eq (show Builtin.Builtins.bindParams "max" ["key", "default"] 0 ⟨[],[("default", d)]⟩=pure [none,some d] by first | rfl | kernel_rfl) ?_)
 refine ao (aH (ao (wpAny_mono h (λ it s₂ h₂=>?_) λ _ _ e=>e)))
 obtain ⟨I,fp,wr,n,P,St,bt,rfl,W,hst,hfp,hcmp,hQ⟩:=h₂
 refine ao (wpAny_newObj_type ?_)
 have hSf:s₂.heap.objs.size ∉ fp:=λ hm=>dH _ (hfp _ hm)
 rw [nm]
 have qA:=W.frame 0 s₂.heap (s₂.heap.push { cls:=.type "list", data:=.seq ([]:List Value).toArray }) hst λ b _ o e=>cB _ e
 rcases Nat.eq_zero_or_pos n with e | hn
 ·subst e
  refine aH ⟨plainId_quiet eB _,none_ W s₂.heap.objs.size hSf qA (fR _ rfl) λ h' tk hk=>?_⟩
  exact hQ d h' tk (by rw [if_pos rfl]) λ b o A6 e=>hk b o A6 (cB _ e)
 ·refine aH ⟨plainId_quiet eB _,first W bt hcmp s₂.heap.objs.size hSf hn qA (fR _ rfl) λ v h' tk hP hk=>?_⟩
  exact hQ v h' tk (by rw [if_neg (by omega)]; exact hP) λ b o A6 e=>hk b o A6 (aT (aF e)) (cB _ e)
end
end MX
namespace L2
open PySem PySem.Spec PyProof.Rows
def A8(K:aA)(vs:List V)(y:V)(H:Hp)(Q:VK):Prop:=∃ p xs d,vs=[.ref p] /\ y=.int d /\ bD K H p (xs.map V.int) /\ ∀ m:Int,(xs=[]->m=d)->(xs ≠ []->m∈xs /\ ∀ x∈xs,x <= m)->Q (.int m) H
def L4(K:aA)(t:TA)(tv:TE):TE:=λ σ H Q=>t σ H λ vs H1=>tv σ H1 λ y H2=>A8 K vs y H2 Q
section
variable {X:Cx}{e v:Expr}{p kp pos:Pos}{t:TA}{tv:TE}
theorem JR{pins:List (Addr × Obj)}{σ:St}{H:Hp}{s:Shared}{vs:List V}{us:List Value}{y:V}{d:Value}{Q:VK}{E:Value->Shared->Prop}(hc:X.calm=true)(I:Inv X pins σ H s)(r:Vals vs us)(ry:RelV y d)(h:A8 X.K vs y H Q):
  wpAny (model X.prog X.w) X.A (call (.builtin "max") us [("default", d)]) (λ u s'=>∃ x H',Inv X pins σ H' s' /\ RelV x u /\ Q x H') E s:=by
 obtain ⟨p,xs,dd,rfl,rfl,hS,q⟩:=h
 obtain ⟨u,rfl,ru⟩:=vals1 r
 cases ru
 obtain ⟨t0,rfl⟩:=ry
 obtain ⟨its,rv,pl,hz⟩:=I.list hS
 obtain ⟨ps,rfl,e⟩:=sD rv
 have hl:s.heap.IsList p (intItems ps.toArray):=by
  have:=pl.isList
  rw [show (ps.map λ p=>Value.int p.1 p.2).toArray=intItems ps.toArray by unfold intItems; simp] at this
  exact this
 have hsz:(intItems ps.toArray).size=ps.length:=by simp [intItems]
 have JS:xs.length=ps.length:=by rw [<- e,au]
 refine MX.CQ (iter_intList hl λ s₂ e2 st hfp hlI=>?_)
 subst e2
 refine ⟨_,_,_,_,_,_,_,rfl,Walks.list (A:=X.A.in1) (I.ok.hd hc) _ p hlI (intItems ps.toArray),st,hfp,CmpOf.ints_gt (numAt ps.toArray) (λ _ _=>intItems_at),λ u h' tk hP hk=>?_⟩
 rw [hsz] at hP
 have kept:=old_kept (s:=s) (l:=p) hk
 by_cases h0:ps.length=0
 ·rw [if_pos h0] at hP
  have ex:xs=[]:=List.eq_nil_of_length_eq_zero (by omega)
  subst hP
  exact ⟨.int dd,H,I.kept kept,⟨t0,rfl⟩,q dd (λ _=>rfl) λ z=>absurd ex z⟩
 ·rw [if_neg h0] at hP
  obtain ⟨t1,rfl⟩:=intItems_at hP
  obtain ⟨b1,b2⟩:=jM (numAt ps.toArray) (ps.length - 1)
  have at_:∀ i,i < ps.length->xs[i]? = some (numAt ps.toArray i):=λ i hi=>by
   rw [<- e]
   simp [numAt,dJ hi]
  refine ⟨.int _,H,I.kept kept,⟨t1,rfl⟩,q _ (λ z=>?_) λ _=>⟨fS (at_ _ (by omega)),λ x hx=>?_⟩⟩
  ·rw [z] at JS
   exact absurd JS.symm h0
  ·obtain ⟨i,hi⟩:=eU.mp hx
   have hil:i < ps.length:=by rw [<- JS]; exact (fu hi).1
   rw [at_ i hil] at hi
   rw [<- Option.some.inj hi]
   exact b2 i (by omega)
theorem JT(hc:X.calm=true)(hg:Gl X "max")(hm:X.mg "max" = none)(ha:PA X [e] t)(hv:PE X v tv)(he:backTo pos (starEach [e] X.env)=(false,eval e X.env) :: backTo pos (starEach [] X.env):=by rfl)
  (hpl:(backTo pos (starEach [e] X.env)).any (·.1)=false:=by rfl)(hal:(backToKw pos (keywordEach [⟨some "default", v,kp⟩] X.env)).all (·.1.isSome)=true:=by rfl)(hkw:(backToKw pos (keywordEach [⟨some "default", v,kp⟩] X.env)).any (·.1.isNone)=false:=by rfl)
  (hfm:(backToKw pos (keywordEach [⟨some "default", v,kp⟩] X.env)).filterMap (·.1)=[("default" : Str)]:=by rfl):PE X (.Call (.Name "max" p) [e] [⟨some "default", v,kp⟩] pos) (L4 X.K t tv):=by
 intro pins s σ H Q I h
 refine wpAny_Call_Name_kw (gO I hg hm BT.E8 ?_)
 refine callWith_kw (kws:=[⟨some "default", v,kp⟩]) ?_ he hpl hal hkw
 refine cL (ha pos pins s σ H _ I h) λ us s1 ⟨vs,H1,I1,r1,q1⟩=>?_
 refine kws_cons (cL (hv pins s1 σ H1 _ I1 q1) λ d s2 ⟨y,H2,I2,ry,q2⟩=>kws_nil ?_)
 rw [hfm]
 exact JR hc I2 r1 ry q2
end
section
variable {K:aA}{σ:St}{H:Hp}{Q:VK}{t:TA}{tv:TE}
theorem JU(h:t σ H λ vs H1=>tv σ H1 λ y H2=>A8 K vs y H2 Q):L4 K t tv σ H Q:=h
theorem OV{p:Addr}{xs:List Int}{d:Int}(hS:bD K H p (xs.map V.int))(h:∀ m:Int,(xs=[]->m=d)->(xs ≠ []->m∈xs /\ ∀ x∈xs,x <= m)->Q (.int m) H):A8 K [.ref p] (.int d) H Q:=⟨p,xs,d,rfl,rfl,hS,h⟩
end
section
variable {prog:Program}{w:World}{κ:Type} [DecidableEq κ] {knd:HeapKind prog w κ}{A:Around}{E:Value->Shared->Prop}{s:Shared}
end
def L5(kvs kvs':dM):Prop:=kvs.length=kvs'.length /\ ∀ x∈kvs,∃ n:Int,x.2.2=.int n /\ g9 kvs' x.1=some (.int n)
theorem L5.raw{kvs kvs':dM}{xs ys:List (HM.bf × Addr × Value)}(l:L5 kvs kvs')(r:jy kvs xs)(r':jy kvs' ys):xs.length=ys.length /\ ∀ x∈xs,∃ (p:Addr × Value) (n:Int) (t t':Tok),atKey ys x.1=some p /\ p.2=.int n t' /\ x.2.2=.int n t:=by
 refine ⟨by rw [<- gu r,<- gu r']; exact l.1,?_⟩
 have h:=l.2
 clear l
 unfold jy at r
 induction r with
 | nil=>intro x hx; exact nomatch hx
 | @cons p q ps qs hq t ih =>
  intro x hx
  rcases aJ.mp hx with e | hx
  ·subst e
   obtain ⟨n,h1,h2⟩:=h p (by simp)
   have h3:=r'.val p.1
   rw [h2] at h3
   obtain ⟨w',hw,rw'⟩:=kM.some_of (v:=.int n) (o:=(atKey ys p.1).map (·.2)) h3
   obtain ⟨z,hz,hz2⟩:=dg.mp hw
   have r1:=hq.2.2
   rw [h1] at r1
   obtain ⟨t1,e1⟩:=r1
   obtain ⟨t2,e2⟩:=rw'
   exact ⟨z,n,t1,t2,by rw [<- hq.1]; exact hz,by rw [hz2]; exact e2,e1⟩
  ·exact ih (λ y hy=>h y (by simp [hy])) x hx
section
variable {X:Cx}{P:Program}{w:World}{H:Hp}{Q:VK}
end
end L2
namespace SN
open PySem PySem.Spec PyProof.Rows
end SN
namespace L2
open PySem PySem.Spec PyProof.Rows
section
variable {X:Cx}{o:Expr}{apos cpos:Pos}{td:TE}
end
section
variable {P:Program}{w:World}{H:Hp}{Q:VK}{σ:St}{td:TE}
end
section
variable {P:Program}{w:World}{K:aA}{mg mb:Str->Option Value}{CX:Ao}{k:Nat}{fa a:Addr}{fd:FuncData}{x:Str}{sp:Sp}{s₁:Shared}{H:Hp}
def Start(h:Heap)(K:aA)(H:Hp):Prop:=∀ b u,H b=some u->K.lookup b=none /\ ((∃ o xs,u=.uZ o (.lst xs)) \/ (u=.mR #[] /\ isCodeTable h b))
theorem Start.noDict(S:Start s₁.heap K H)(hok:jz P w H s₁.heap){b:Addr}{o:Obj}{es:Array DictEntry}{ep:Nat}(e:s₁.heap.get? b=some o)(d:o.data=.dict es ep):H b=none:=by
 cases q:H b with
 | none=>rfl
 | some u =>
  have z:=hok b u q
  rcases (S b u q).2 with ⟨o',xs,rfl⟩ | ⟨rfl,_⟩
  ·obtain ⟨_,_,its,n,_,z2⟩:=z
   have z3:=e.symm.trans z2
   rw [Option.some.inj z3] at d
   cases d
  ·have z3:=e.symm.trans (show s₁.heap.get? b=some _ from z)
   rw [Option.some.inj z3] at d
   cases d
theorem Start.S4(S:Start s₁.heap K H)(hok:jz P w H s₁.heap){b:Addr}{o:Obj}(e:s₁.heap.get? b=some o)(d:o.cls=.type "module"):H b=none:=by
 cases q:H b with
 | none=>rfl
 | some u =>
  have z:=hok b u q
  rcases (S b u q).2 with ⟨o',xs,rfl⟩ | ⟨rfl,_⟩
  ·obtain ⟨_,_,its,n,_,z2⟩:=z
   have z3:=e.symm.trans z2
   rw [Option.some.inj z3] at d
   have d:=Value.type.inj d
   exact absurd d (by decide)
  ·have z3:=e.symm.trans (show s₁.heap.get? b=some _ from z)
   rw [Option.some.inj z3] at d
   cases d
theorem uD{ts:List Addr}(bt:∀ b∈ts,s₁.heap.BuiltinsAt mg b)(KX:K.In s₁.heap)(hns:s₁.heap.Ns mainGlobals mg)(hb:s₁.heap.Ns builtinsNs mb)(WM:∀ y:Str,y ≠ "__name__" -> mb y=bootBuiltins y)(hlim:s₁.heap.NoLimit)(hg:s₁.gens=#[])
  (S:Start s₁.heap K H)(hok:jz P w H s₁.heap)(hr:f6 k callerA)(F:∀ base:Heap,K.In base->base.Ns mainGlobals mg->(∀ b∈ts,base.BuiltinsAt mg b)->bY P w K mg base CX k fa fd [x] sp)
  (hbind:∀ (s:Shared) (u:Value),BindsTo s fd ⟨[u],[]⟩ [(x,u)])(u5:sp [.ref a] H (λ v _=>v=.bl true) λ _ _ _=>False)(Rr:∀ e s',CX [] H s₁ (λ _ _ _=>False) e s'->False):
  codeAny (model P w) callerA (.call (.ref fa) ⟨[.ref a],[]⟩) (λ r s'=>r=.ok (.ret (.bool true)) /\ OldK s₁.heap s'.heap /\ s'.os=s₁.os /\ AllBare s'.gens) s₁:=by
 have ns:∀ {b:Addr} {m:Str->Option Value},s₁.heap.Ns b m->(m8 s₁.heap H).Ns b m:=λ ⟨o,es,ep,e,d,r⟩=>⟨o,es,ep,k9 e (S.noDict hok e d),d,r⟩
 have kb:K.In (m8 s₁.heap H):=λ b o e=>by
  refine k9 (KX b o e) ?_
  cases q:H b with
  | none=>rfl
  | some u=>exact absurd ((S b u q).1.symm.trans e) (by simp)
 have bb:∀ b∈ts,(m8 s₁.heap H).BuiltinsAt mg b:=λ b hb=>by
  obtain ⟨bm,o,h1,h2,h3,h4,h5,h6,h7⟩:=bt b hb
  exact ⟨bm,o,h1,h2,h3,h4,k9 h5 (S.S4 hok h5 h6),h6,h7⟩
 obtain ⟨mc,l1,l2⟩:=hlim
 have env:vf P w K mg (m8 s₁.heap H) callerA [] s₁ H :=
  { frames:=rfl,mod:=⟨kb,ns hns,⟨mb,ns hb,WM⟩,mc,ns l1,l2⟩,bs:=λ b o e=>Ai e,DU:=by rw [r9]; exact az _,m9:=trivial,K9:=(λ b z=>nomatch (show b∈([]:List Addr) from z)),hok:=hok,bare:=.of_eq hg }
 refine codeAny_mono ((F _ kb (ns hns) bb).run callerA [] s₁ H ⟨[.ref a],[]⟩ [.ref a] [.ref a] _ _ hr env (hbind s₁ (.ref a)) (.cons rfl .nil) u5) ?_
 intro r s' h
 match r,h with
 | .error e,h=>exact (Rr e s' h).elim
 | .ok .next,h=>exact False.elim h
 | .ok .brk,h=>exact False.elim h
 | .ok .cont,h=>exact False.elim h
 | .ok (.ret u),⟨v,H',os,bare,un,IM,rv,q⟩ =>
  have q':v=.bl true:=q
  subst q'
  have hu:u=Value.bool true:=rv
  subst hu
  refine ⟨rfl,⟨λ b o e=>?_,λ b o e=>un.there b o e (λ z=>nomatch z)⟩,os,bare⟩
  cases q:H b with
  | none=>exact .inl (un.keep b o e q (λ z=>nomatch z) (λ z=>nomatch z))
  | some y =>
   have z:=hok b y q
   rcases (S b y q).2 with ⟨o',xs,rfl⟩ | ⟨rfl,ct⟩
   ·have z2:=IM b _ (un.k7 b o' _ q)
    have e1:o=o':=Option.some.inj (e.symm.trans z.1)
    subst e1
    exact .inl z2.1
   ·obtain ⟨more,z1⟩:=un.mZ b _ q
    have z2:s'.heap.get? b=some _:=IM b _ z1
    have e1:=Option.some.inj (e.symm.trans (show s₁.heap.get? b=some _ from z))
    subst e1
    exact .inr (.inl ⟨ct,rfl,#[],more,rfl,z2⟩)
end
theorem CS{l:PySem.W.OpenLaw}{n k:Nat}{q:Program}{loose:List Str}{XP:(Str->Option Value)->Heap->Prop}{YP:World->Heap->Prop}{d:DefRec}{K:Params->aA}{sp:aA->Sp}{x:Str}{ts:List Addr}
  (hn:l.most=some n)(hn2:n <= sizeLine)(hdf:d.params.defaults=[])(hr:f6 k callerA)
  (hY:∀ (w:World) (h:Heap),YP w h->(K w.params).In h)(hT:∀ (w:World) (h:Heap),YP w h->∀ b∈ts,h.get? b=some (PySem.W.tabObj #[]) /\ isCodeTable h b)(XA:∀ w:World,∀ b∈ts,(K w.params).lookup b=none)
  (F:∀ (w:World) (mg:Str->Option Value) (fa:Addr) (h:Heap),(K w.params).In h->h.Ns mainGlobals mg->mg d.name=some (.ref fa) ->
   ∃ fd:FuncData,(∀ (s:Shared) (u:Value),BindsTo s fd ⟨[u],[]⟩ [(x,u)]) /\ ∀ base:Heap,(K w.params).In base->base.Ns mainGlobals mg->(∀ b∈ts,base.BuiltinsAt mg b)->bY l.prog w (K w.params) mg base gr k fa fd [x] (sp (K w.params)))
  (u5:∀ (K:aA) (H:Hp) (a:Addr) (ns:List Int),ns.length <= n->bD K H a (ns.map V.int)->(∀ b∈ts,H b=some (.mR #[]))->sp K [.ref a] H (λ v _=>v=.bl true) λ _ _ _=>False):
  PySem.W.WalkO q loose XP YP l.row.toRowW d [] (λ f vs=>PySem.call f vs):=by
 refine WL.nX hn hdf λ w s₀ s₁ mg mb fa o pm cd doc a vs ns G Y ho hd hcd hmg hobj hints hlen hg=>?_
 have KX:=hY w _ Y
 have TT:=hT w _ Y
 obtain ⟨fd,hbd,hF⟩:=F w mg fa _ KX G.T.g hmg
 have hl:ns.length <= sizeLine:=bE hlen hn2
 have na:a ∉ ts:=λ z=>by
  have e:=hobj.symm.trans (TT a z).1
  have e2:=congrArg Obj.cls (Option.some.inj e)
  cases e2
 let H:Hp:=λ b=>if b∈ts then some (.mR #[]) else if b=a /\ (K w.params).lookup a=none then some (.uZ { cls:=.type "list", data:=.seq vs.toArray } (.lst (ns.map V.int))) else none
 have hHt:∀ b∈ts,H b=some (.mR #[]):=λ b hb=>if_pos hb
 have hHa:(K w.params).lookup a=none->H a=some (.uZ { cls:=.type "list", data:=.seq vs.toArray } (.lst (ns.map V.int))):=λ z=>(if_neg na).trans (if_pos ⟨rfl,z⟩)
 have cs:∀ b u,H b=some u->(b∈ts /\ u=.mR #[]) \/ (b=a /\ (K w.params).lookup a=none /\ u=.uZ { cls:=.type "list", data:=.seq vs.toArray } (.lst (ns.map V.int))):=λ b u e=>by
  by_cases h1:b∈ts
  ·exact .inl ⟨h1,Option.some.inj (e.symm.trans (hHt b h1))⟩
  ·have e1:H b=_:=if_neg h1
   by_cases h2:b=a /\ (K w.params).lookup a=none
   ·exact .inr ⟨h2.1,h2.2,Option.some.inj (e.symm.trans (e1.trans (if_pos h2)))⟩
   ·have:=e.symm.trans (e1.trans (if_neg h2))
    cases this
 have bt:∀ b∈ts,s₁.heap.BuiltinsAt mg b:=λ b hb=>by
  obtain ⟨bm,ob,b1,b2,b3,b4,b5,b6⟩:=G.T.bmain
  refine ⟨bm,ob,b1,b2,λ z=>?_,λ z=>?_,b3,b4,b5,b6⟩
  ·obtain ⟨o,es,ep,e,d,_⟩:=G.T.g
   rw [z,e] at b3; cases b3
   rw [d] at b6; cases b6
  ·rw [z,(TT b hb).1] at b3; cases b3
   cases b4
 refine uD (H:=H) bt KX G.T.g G.T.b G.T.builtins G.T.nolimit hg ?_ ?_ hr hF hbd (u5 _ H a ns hlen ?_ hHt) λ e s' z=>z
 ·intro b u e
  rcases cs b u e with ⟨h1,rfl⟩ | ⟨rfl,h2,rfl⟩
  ·exact ⟨XA w b h1,.inr ⟨rfl,(TT b h1).2⟩⟩
  ·exact ⟨h2,.inl ⟨_,_,rfl⟩⟩
 ·intro b u e
  rcases cs b u e with ⟨h1,rfl⟩ | ⟨rfl,h2,rfl⟩
  ·exact (TT b h1).1
  ·exact ⟨hobj,by rw [au]; exact hl,vs,_,jY hints,hobj⟩
 ·cases hk:(K w.params).lookup a with
  | none=>exact .inl (.inr ⟨_,hHa hk⟩)
  | some oa =>
   have e:=Option.some.inj ((KX a oa hk).symm.trans hobj)
   subst e
   exact .inr ⟨_,vs.toArray,_,hk,rfl,rfl,rfl,by rw [aV,hints.length]; exact hl,by simpa using jY hints⟩
end L2
namespace MK
open PySem PySem.Spec PyProof.Rows PySem.W
def lU(kf:Nat->Int):Nat->Nat
 | 0=>0
 | j + 1=>if kf (lU kf j) < kf (j + 1) then j + 1 else lU kf j
theorem Gf(kf:Nat->Int):∀ j,lU kf j <= j /\ ∀ i,i <= j->kf i <= kf (lU kf j) /\ (i < lU kf j->kf i < kf (lU kf j))
 | 0=>by
  refine ⟨az _,λ i hi=>?_⟩
  obtain rfl:i=0:=by omega
  exact ⟨Int.le_refl _,λ h=>absurd h (dH _)⟩
 | j + 1=>by
  obtain ⟨h1,h2⟩:=Gf kf j
  simp only [lU]
  split
  ·rename_i h
   refine ⟨az _,λ i hi=>?_⟩
   by_cases e:i=j + 1
   ·subst e
    exact ⟨Int.le_refl _,λ h=>absurd h (dH _)⟩
   ·have:=(h2 i (by omega)).1
    exact ⟨by omega,λ _=>by omega⟩
  ·rename_i h
   refine ⟨by omega,λ i hi=>?_⟩
   by_cases e:i=j + 1
   ·subst e
    exact ⟨by omega,λ z=>by omega⟩
   ·exact h2 i (by omega)
section
variable {prog:Program}{w:World}{A:Around}{R:Result->Shared->Prop}{I S l q:Addr}{vs:List Value}{kw:List (Str × Value)}{J:Shared->Prop}{kf:Nat->Int}
structure JV (J:Shared->Prop) (I S l:Addr) (vs:List Value):Prop where
 lst:∀ s,J s->s.heap.IsList l vs.toArray
 chg:∀ (s:Shared) (h':Heap) (tk:Nat),J s->(∀ b o,b ≠ I->b ≠ S->s.heap.get? b=some o->h'.get? b=some o)->J { s with heap:=h',toks:=tk }
 lI:l ≠ I
 SI:S ≠ I
def Turn(prog:Program)(w:World)(A:Around)(q:Addr)(J:Shared->Prop)(I S:Addr)(vs:List Value)(kf:Nat->Int):Prop :=
 ∀ i v s oI oS,vs[i]? = some v->J s->s.heap.get? I=some oI->s.heap.get? S=some oS->(∀ u,oI.data ≠ .cell u)->(∀ u,oS.data ≠ .cell u) ->
  wpAny (model prog w) A (call (.ref q) [v]) (λ x s'=>(∃ t,x=.int (kf i) t) /\ J s' /\ s'.heap.get? I=some oI /\ s'.heap.get? S=some oS) (λ _ _=>False) s
theorem loop(hh:A.handled=none)(D:JV J I S l vs)(turn:Turn prog w A.in1 q J I S vs kf):
  ∀ (k j:Nat) (s:Shared) (vb:Value) (tb:Tok) (c:Nat),vs.length - (j + 1)=k->j + 1 <= vs.length->J s->s.heap.IsListIter I l (j + 1)->vs[lU kf j]? = some vb ->
  s.heap.get? S=some { cls:=.type "list", dict:=none,data:=.seq #[vb,.int (kf (lU kf j)) tb] c,slots:=#[] } ->
  (∀ v s',vs[lU kf (vs.length - 1)]? = some v->J s'->R (.ok (.ret v)) s') ->
  codeAny (model prog w) A (.builtin "max.loop" ⟨[.ref I,.ref q,.ref S],kw⟩) R s:=by
 have W:=Walks.list (prog:=prog) (w:=w) (A:=A.in1) hh I l D.lI vs.toArray
 have hsz:vs.toArray.size=vs.length:=aV ..
 have JP:S ∉ [I]:=λ z=>D.SI (aC.mp z)
 intro k
 induction k with
 | zero =>
  intro j s vb tb c hk hj hJ hit L3 hS hR
  have hin:j + 1=vs.length:=by omega
  refine codeAny_builtin kE ?_
  rw [fz eB _]
  refine (show wpAny _ A.in1 (seqItems? (.ref S) >>= _) _ _ s from ao (wpAny_seqItems hS rfl ?_))
  refine (show wpAny _ A.in1 (tryCatch (pyNext (.ref I)) _ >>= _) _ _ s from ao (wpAny_tryCatch (W.done s _ _ ⟨by rw [hsz,<- hin]; exact hit,D.lst s hJ⟩ λ h' tk hk'=>?_)))
  have hS':=hk' S _ JP hS
  refine (show wpAny _ A.in1 (updateSeq S (λ _=>#[]) >>= _) _ _ _ from ao (wpAny_updateSeq hS' rfl (ao (wpAny_letGo (aH ?_)))))
  refine hR vb _ (by rw [<- hin]; exact L3) (D.chg s _ tk hJ (λ b o h1 h2 e=>(fB _ _ (bF h2)).trans (hk' b o (λ z=>h1 (aC.mp z)) e)))
 | succ k ih =>
  intro j s vb tb c hk hj hJ hit L3 hS hR
  have hlt:j + 1 < vs.length:=by omega
  refine codeAny_builtin kE ?_
  rw [fz eB _]
  refine (show wpAny _ A.in1 (seqItems? (.ref S) >>= _) _ _ s from ao (wpAny_seqItems hS rfl ?_))
  refine (show wpAny _ A.in1 (tryCatch (pyNext (.ref I)) _ >>= _) _ _ s from ao (wpAny_tryCatch (W.item (j + 1) s _ _ (by rw [hsz]; exact hlt) ⟨hit,D.lst s hJ⟩ λ v h' tk hP qA hk'=>?_)))
  have hv:vs[j + 1]? = some v:=by simpa using hP
  obtain ⟨oI,XC,hoc,hod⟩:=id qA.1
  have hS':=hk' S _ JP hS
  have J1:=D.chg s h' tk hJ (λ b o h1 _ e=>hk' b o (λ z=>h1 (aC.mp z)) e)
  refine (show wpAny _ A.in1 (tryCatch (holding [v] (call (.ref q) [v])) _ >>= _) _ _ _ from ao (wpAny_tryCatch (wpAny_holding (wpAny_mono (turn (j + 1) v _ oI _ hv J1 XC hS' (λ u z=>by rw [hod] at z; cases z) (λ u z=>by cases z)) (λ x s2 he=>?_) λ _ _ z=>z.elim))))
  obtain ⟨⟨t2,rfl⟩,J2,Vu,HZ⟩:=he
  have XD:s2.heap.IsListIter I l (j + 1 + 1):=⟨oI,Vu,hoc,hod⟩
  refine (show wpAny _ A.in1 (tryCatch (holding [v,.int (kf (j + 1)) t2] (richCompare .Gt (.int (kf (j + 1)) t2) (.int (kf (lU kf j)) tb) >>= _)) _ >>= _) _ _ _ from
   ao (wpAny_tryCatch (wpAny_holding (ao (CmpOf.ints_gt (prog:=prog) (w:=w) (A:=A.in1) (P:=λ i v=>∃ t,v=.int (kf i) t) kf (λ i v h=>h) (j + 1) (lU kf j) _ _ _ _ _ ⟨t2,rfl⟩ ⟨tb,rfl⟩ ?_)))))
  refine ao (wpAny_holding (wpAny_truthy_bool ?_))
  refine ao (wpAny_letGo (aH ?_))
  by_cases hb:kf (j + 1) > kf (lU kf j)
  ·have eb:lU kf (j + 1)=j + 1:=by simp only [lU]; rw [if_pos hb]
   obtain ⟨c2,hc2⟩:∃ c2,(s2.heap.update S (Obj.mapSeq λ _=>#[v,.int (kf (j + 1)) t2])).get? S=some { cls:=.type "list", dict:=none,data:=.seq #[v,.int (kf (j + 1)) t2] c2,slots:=#[] }:=⟨_,get?_update_seq HZ λ _=>#[v,.int (kf (j + 1)) t2]⟩
   have XE:=(fB s2.heap (Obj.mapSeq λ _=>#[v,.int (kf (j + 1)) t2]) D.SI).trans Vu
   simp only [hb,decide_true,if_true]
   refine ao (wpAny_updateSeq HZ rfl (ao (wpAny_letGo ?_)))
   rw [MX.nm]
   refine aH ⟨plainId_quiet eB _,ih (j + 1) _ v t2 c2 (by omega) hlt ?_ ⟨oI,XE,hoc,hod⟩ (by rw [eb]; exact hv) (by rw [eb]; exact hc2) hR⟩
   exact D.chg s2 _ s2.toks J2 (λ b o _ h2 e=>(fB _ _ (bF h2)).trans e)
  ·have eb:lU kf (j + 1)=lU kf j:=by simp only [lU]; rw [if_neg hb]
   simp only [hb,decide_false,bG,if_false]
   refine ao (wpAny_letGo ?_)
   rw [MX.nm]
   exact aH ⟨plainId_quiet eB _,ih (j + 1) _ vb tb c (by omega) hlt J2 XD (by rw [eb]; exact L3) (by rw [eb]; exact HZ) hR⟩
theorem first(hh:A.handled=none)(D:JV J I S l vs)(turn:Turn prog w A.in1 q J I S vs kf)(hn:0 < vs.length){s:Shared}{c:Nat}(hJ:J s)(hit:s.heap.IsListIter I l 0)
  (hS:s.heap.get? S=some { cls:=.type "list", dict:=none,data:=.seq #[] c,slots:=#[] })(hR:∀ v s',vs[lU kf (vs.length - 1)]? = some v->J s'->R (.ok (.ret v)) s'):
  codeAny (model prog w) A (.builtin "max.loop" ⟨[.ref I,.ref q,.ref S],kw⟩) R s:=by
 have W:=Walks.list (prog:=prog) (w:=w) (A:=A.in1) hh I l D.lI vs.toArray
 have hsz:vs.toArray.size=vs.length:=aV ..
 have JP:S ∉ [I]:=λ z=>D.SI (aC.mp z)
 refine codeAny_builtin kE ?_
 rw [fz eB _]
 refine (show wpAny _ A.in1 (seqItems? (.ref S) >>= _) _ _ s from ao (wpAny_seqItems hS rfl ?_))
 refine (show wpAny _ A.in1 (tryCatch (pyNext (.ref I)) _ >>= _) _ _ s from ao (wpAny_tryCatch (W.item 0 s _ _ (by rw [hsz]; exact hn) ⟨hit,D.lst s hJ⟩ λ v h' tk hP qA hk'=>?_)))
 have hv:vs[0]? = some v:=by simpa using hP
 obtain ⟨oI,XC,hoc,hod⟩:=id qA.1
 have hS':=hk' S _ JP hS
 have J1:=D.chg s h' tk hJ (λ b o h1 _ e=>hk' b o (λ z=>h1 (aC.mp z)) e)
 refine (show wpAny _ A.in1 (tryCatch (holding [v] (call (.ref q) [v])) _ >>= _) _ _ _ from ao (wpAny_tryCatch (wpAny_holding (wpAny_mono (turn 0 v _ oI _ hv J1 XC hS' (λ u z=>by rw [hod] at z; cases z) (λ u z=>by cases z)) (λ x s2 he=>?_) λ _ _ z=>z.elim))))
 obtain ⟨⟨t2,rfl⟩,J2,Vu,HZ⟩:=he
 obtain ⟨c2,hc2⟩:∃ c2,(s2.heap.update S (Obj.mapSeq λ _=>#[v,.int (kf 0) t2])).get? S=some { cls:=.type "list", dict:=none,data:=.seq #[v,.int (kf 0) t2] c2,slots:=#[] }:=⟨_,get?_update_seq HZ λ _=>#[v,.int (kf 0) t2]⟩
 have XE:=(fB s2.heap (Obj.mapSeq λ _=>#[v,.int (kf 0) t2]) D.SI).trans Vu
 refine (show wpAny _ A.in1 (updateSeq S (λ _=>#[v,.int (kf 0) t2]) >>= _) _ _ _ from ao (wpAny_updateSeq HZ rfl ?_))
 rw [MX.nm]
 exact aH ⟨plainId_quiet eB _,loop hh D turn _ 0 _ v t2 c2 rfl hn (D.chg s2 _ s2.toks J2 (λ b o _ h2 e=>(fB _ _ (bF h2)).trans e)) ⟨oI,XE,hoc,hod⟩ hv hc2 hR⟩
theorem CU{s:Shared}{E:Value->Shared->Prop}{Q:Value->Shared->Prop}(hh:A.handled=none)(hls:s.heap.IsList l vs.toArray)(hn:0 < vs.length)
  (D:JV J s.heap.objs.size (s.heap.objs.size + 1) l vs)(turn:Turn prog w A.in1 q J s.heap.objs.size (s.heap.objs.size + 1) vs kf)
  (hJ:∀ h',(∀ b o,s.heap.get? b=some o->h'.get? b=some o)->J { s with heap:=h' })(hQ:∀ v s',vs[lU kf (vs.length - 1)]? = some v->J s'->Q v s'):
  wpAny (model prog w) A (call (.builtin "max") [.ref l] [("key", .ref q)]) Q E s:=by
 refine MX.A7 F.kind_max F.plain_max F.entry_max (kmk_max_key _ _) ?_
 refine (show wpAny _ A.in1 (Builtin.Builtins.bindParams "max" ["key", "default"] 0 ⟨[],[("key", .ref q)]⟩ >>= _) _ _ s from ?_)
 refine ao (wpAny_of_eq (show Builtin.Builtins.bindParams "max" ["key", "default"] 0 ⟨[],[("key", .ref q)]⟩=pure [some (.ref q),none] by first | rfl | kernel_rfl) ?_)
 refine ao (aH (ao (wpAny_pyIter_list hls ?_)))
 refine ao (wpAny_newList ?_ (aQ _))
 rw [MX.nm]
 have e1:(s.heap.push { cls:=.type "list_iterator", data:=.fields #[.ref l,.int 0 0] }).objs.size=s.heap.objs.size + 1:=dP ..
 rw [e1]
 refine aH ⟨plainId_quiet eB _,first hh D turn hn (hJ _ λ b o e=>cB _ (cB _ e)) ⟨_,cB _ (fR _ rfl),rfl,rfl⟩ (c:=0) ?_ λ v s' hv j=>hQ v s' hv j⟩
 have:=fR (o:=seqObj "list" #[] 0) (s.heap.push { cls:=.type "list_iterator", data:=.fields #[.ref l,.int 0 0] }) rfl
 rw [e1] at this
 exact this
end
end MK
namespace L2
open PySem PySem.Spec PyProof.Rows
variable {a b q p:Addr}{o:Obj}{y qual name:Str}{fr:List Str}{ix:List Nat}{params:Arguments}{body:Expr}{scope:Scope}{cl:List (Str × Addr)}{pm:Value}{h:Heap}{pos:Pos}{H H':Hp}
section
variable {X:Cx}{pins:List (Addr × Obj)}{σ:St}{H:Hp}{s:Shared}
theorem Inv.change{h':Heap}{tk:Nat}(J:Inv X pins σ H s)(f1:dU X pins H a)(f2:dU X pins H b)(k:∀ c o,c ≠ a->c ≠ b->s.heap.get? c=some o->h'.get? c=some o):
  Inv X pins σ H { s with heap:=h',toks:=tk }:=by
 have fp:∀ c∈[a,b],dU X pins H c:=λ c hc=>by
  rcases aJ.mp hc with e | hc
  ·rw [e]; exact f1
  ·rw [aC.mp hc]; exact f2
 have kp:∀ c o,c ∉ [a,b]->s.heap.get? c=some o->h'.get? c=some o:=λ c o hc e=>k c o (λ z=>hc (by simp [z])) (λ z=>hc (by simp [z])) e
 have tr:∀ c u,H c=some u->c ∉ [a,b]:=λ c u e hc=>by rw [(fp c hc).1] at e; cases e
 have hok:jz X.prog X.w H h':=λ c u e=>(J.hok c u e).stay (λ d v hd q=>kp d v (by
  rcases hd with rfl | hd
  ·exact tr _ _ e
  ·exact tr _ _ hd) q) (λ _ q=>q) λ _ _ q=>q
 refine J.step (H':=H) (h':=h') (g':=s.gens) (t':=tk) (d':=s.drawn) (ch:=[a,b]) (λ c hc=>?_) (λ c o _ _ hc e _=>kp c o hc e) (λ c o _ _ hc e _=>⟨o.slots,kp c o hc e⟩) (λ c o _ e n=>n)
  (λ c o hc e=>⟨o,kp c o hc e⟩) (λ _ _ e=>e) (λ _ _ _ e=>e) (λ _ ps e=>⟨#[],by rw [e]; simp⟩) (λ m hm=>?_) hok J.bare
 ·obtain ⟨_,g2,g3,g4,g5,g6⟩:=fp c hc
  exact ⟨g4,g2,g5,g6⟩
 ·obtain ⟨o,es,ep,e,r⟩:=hm
  exact ⟨o,es,ep,kp _ _ (λ z=>(fp _ z).2.1 rfl) e,r⟩
theorem Inv.S5(J:Inv X pins σ H s)(f:dU X pins H b)(e:s.heap.get? b=some o)(nc:∀ u,o.data ≠ .cell u):Inv X ((b,o) :: pins) σ H s :=
 ⟨J.ok,J.os,J.bare,J.base,J.loc,J.cell,J.free,J.gM,λ p hp=>by
   rcases aO.mp hp with h | h
   ·exact J.pin p (iK _ h)
   ·rcases aJ.mp h with rfl | h
    ·exact ⟨e,f.1,f.2.1,f.2.2.1,nc⟩
    ·exact J.pin p (bI _ h),J.hok,J.len⟩
theorem Inv.zP{p:Addr × Obj}(J:Inv X (p :: pins) σ H s):Inv X pins σ H s :=
 ⟨J.ok,J.os,J.bare,J.base,J.loc,J.cell,J.free,J.gM,λ q hq=>J.pin q (by
   rcases aO.mp hq with h | h
   ·exact iK _ h
   ·exact bI _ (cV _ h)),J.hok,J.len⟩
theorem Inv.A9{p:Addr × Obj}(J:Inv X (p :: pins) σ H s):s.heap.get? p.1=some p.2:=(J.pin p (bI _ (.head _))).1
theorem Gg{l:Addr}{vs:List Value}(f1:dU X pins H a)(f2:dU X pins H b)(hl:∀ s,Inv X pins σ H s->s.heap.IsList l vs.toArray)(h1:l ≠ a)(h2:b ≠ a):MK.JV (Inv X pins σ H) a b l vs :=
 ⟨hl,λ s h' tk J k=>J.change f1 f2 k,h1,h2⟩
theorem Gh{l:Addr}{vs:List Value}{A:Around}{kf:Nat->Int}(f1:dU X pins H a)(f2:dU X pins H b)(h2:b ≠ a)
  (h:∀ i v s pins,vs[i]? = some v->Inv X pins σ H s->wpAny (model X.prog X.w) A (call (.ref q) [v]) (λ x s'=>(∃ t,x=.int (kf i) t) /\ Inv X pins σ H s') (λ _ _=>False) s):
  MK.Turn X.prog X.w A q (Inv X pins σ H) a b vs kf:=by
 intro i v s oI oS hv J e1 e2 n1 n2
 have J1:=J.S5 f1 e1 n1
 have f2':dU X ((a,oI) :: pins) H b:=⟨f2.1,f2.2.1,f2.2.2.1,f2.2.2.2.1,f2.2.2.2.2.1,λ p hp=>by
  rcases aO.mp hp with z | z
  ·exact f2.2.2.2.2.2 p (iK _ z)
  ·rcases aJ.mp z with rfl | z
   ·exact bF h2
   ·exact f2.2.2.2.2.2 p (bI _ z)⟩
 have J2:=J1.S5 f2' e2 n2
 refine wpAny_mono (h i v s _ hv J2) (λ x s' hx=>⟨hx.1,hx.2.zP.zP,hx.2.zP.A9,hx.2.A9⟩) λ _ _ z=>z
end
open PySem.W
def QA(X:Cx)(N:List Str)(env:Env)(s:Shared)(H:Hp):Cx where
 prog:=X.prog
 w:=X.w
 K:=X.K
 mg:=X.mg
 base:=X.base
 A:=X.A.in1.deeper env
 N:=N
 s₀:=s
 H₀:=H
 env:=env
 outer:=X.stack
 stack:=env :: X.stack
 ex:=[]
 fn:=λ _=>false
 calm:=true
 pn:=[]
 xe:=λ e s'=>wpAny (model X.prog X.w) (X.A.in1.deeper env) (leaving env e) (λ _ _=>False) (λ _ _=>False) s'
structure qB (X:Cx) (scope:Scope) (cl:List (Str × Addr)) (y:Str) (fr:List Str) (ix:List Nat):Prop where
 calm:X.calm=true
 cell:∀ z∈scope.names,z.2 ≠ .cell
 kind:scope.kind=.function
 co:scope.isCoroutine=false
 gen:scope.isGenerator=false
 loc:scope.names.lookup y=some .local
 DW:∀ z c,cl.lookup z=some c->X.env.cells.lookup z=some c
 EG:∀ z,(scope.names.lookup z=some .cell \/ scope.names.lookup z=some .free)->∃ c,cl.lookup z=some c
 fx:∀ (j:Nat) z,fr[j]? = some z->∃ i:Nat,ix[j]? = some i /\ X.N[i]? = some z /\ (X.env.kindOf z=some .cell \/ X.env.kindOf z=some .free) /\ scope.names.lookup z=some .free
 len:fr.length=ix.length
section
variable {X:Cx}{pins:List (Addr × Obj)}{σ:St}{H:Hp}{s:Shared}
theorem Gi{ctv u:Value}{c':Addr}{te:TE}{v:V}{Q:VK}
  (O:qB X scope cl y fr ix)(hr:X.A.in1.depth < recursionLimit)(hbind:∀ z:Value,bindArgs (kla_fn name qual params body scope cl pm (.ref c') ctv) ⟨[z],[]⟩=pure [(y,z)])
  (he:∀ L s H,PE (QA X (y :: fr) (envX qual scope L q (.ref c') cl) s H) body te)(I:Inv X pins σ H s)
  (hq:s.heap.get? q=some (kla_obj name qual params body scope cl pm c' ctv))(hc:s.heap.CodeRec (.ref c') qual)(r:RelV v u)(h:te (some v :: cut ix σ) H Q):
  wpAny (model X.prog X.w) X.A.in1 (call (.ref q) [u]) (EP X pins σ Q) (λ _ _=>False) s:=by
 refine wpAny_call (kla_callFunE hr hq rfl O.co O.gen rfl hc ?_)
 refine wpAny_of_eq (hbind u) ?_
 refine wpAny_newFunctionEnv O.cell (λ z hz=>?_) (λ h₁ hns IS=>?_) O.kind
 ·rw [aC.mp hz]
  exact O.loc
 have old:∀ b o,s.heap.get? b=some o->h₁.get? b=some o:=λ b o e=>IS.extBut b o (aT (aF e)) (cB _ e)
 have sA:∀ b∈frs X.stack,b∈X.env.locals :: X.fs:=I.pU
 have ok:(QA X (y :: fr) (envX qual scope s.heap.objs.size q (.ref c') cl) s H).Ok:=by
  refine ⟨I.ok.mod,O.kind,rfl,rfl,az _,λ a b c h1 h2=>I.ok.inj a b c (O.DW a c h1) (O.DW b c h2),λ a ha=>O.EG a ha,λ a c z _=>absurd z ic,λ _=>I.ok.hd O.calm,Around.frames_deeper I.ok.frames,.inr ⟨rfl,rfl⟩,
   (λ b z=>nomatch z),I.bs,bE I.ok.DU I.sz,(λ b o _ z=>nomatch z),(λ b z=>nomatch z),I.stack,I.oK⟩
 have J:Inv (QA X (y :: fr) (envX qual scope s.heap.objs.size q (.ref c') cl) s H) [] (some v :: cut ix σ) H { s with heap:=h₁,toks:=s.toks + [(y,u)].length }:=by
  refine ⟨ok,rfl,I.bare,Un.kept old,⟨_,hns,λ i z x h1 h2 h3=>?_⟩,λ z c e=>?_,I.hok.fresh (az _),λ z c e=>I.gM z c (O.DW z c e),(λ p hp=>nomatch hp),I.hok.kept old,?_⟩
  ·cases i with
   | zero =>
    have h1:some y=some z:=h1
    have h2:some (some v)=some (some x):=h2
    obtain rfl:=Option.some.inj h1
    obtain rfl:=Option.some.inj (Option.some.inj h2)
    refine ⟨u,r,.inl ⟨O.loc,?_⟩⟩
    simp [List.lookup]
   | succ j =>
    have h1:fr[j]? = some z:=h1
    have h2:(cut ix σ)[j]? = some (some x):=h2
    obtain ⟨i,e1,e2,k,kc⟩:=O.fx j z h1
    obtain ⟨c,e3⟩:=O.EG z (.inr kc)
    have e4:σ[i]? = some (some x):=by
     unfold cut at h2
     rw [aY,e1] at h2
     have h2:some ((σ[i]?).join)=some (some x):=h2
     have h2:=Option.some.inj h2
     cases w:σ[i]? with
     | none=>rw [w] at h2; cases h2
     | some t=>rw [w] at h2; exact congrArg some h2
    obtain ⟨m,_,hl⟩:=I.loc
    obtain ⟨u',r',l⟩:=hl i z x e2 e4 (k.elim (λ t=>.inr (.inl t)) λ t=>.inr (.inr t))
    refine ⟨u',r',.inr ⟨.inr kc,c,e3,?_⟩⟩
    rcases l with ⟨l1,_⟩ | ⟨_,c2,l2,l3⟩
    ·rcases k with k | k <;> (rw [k] at l1; cases l1)
    ·have e5:=O.DW z c e3
     rw [l2] at e5; cases e5
     obtain ⟨o,ho,hd⟩:=l3
     exact ⟨o,old _ _ ho,hd⟩
  ·obtain ⟨x,o,ho,hd⟩:=I.cell z c (O.DW z c e)
   exact ⟨x,o,old _ _ ho,hd⟩
  ·show (some v :: cut ix σ).length=(y :: fr).length
   unfold cut
   simp [O.len]
 refine ⟨?_,kla_codeExpr (wpAny_mono (he _ s H [] _ _ H Q J h) (λ x s' hx=>?_) λ e s' hx=>hx)⟩
 ·obtain ⟨mc,⟨o,es,ep,e,z⟩,l2⟩:=I.ok.mod.nolimit
  exact ⟨mc,⟨o,es,ep,old _ _ (I.bs _ _ e).1,z⟩,l2⟩
 ·obtain ⟨v2,H2,J2,r2,q2⟩:=hx
  exact ⟨v2,H2,I.D6 (ch:=[]) J2.os J2.base J2.hok J2.bare (λ b z=>nomatch z),r2,q2⟩
end
def jv(c:Addr)(qual:Str):HO:=.ext λ h=>h.CodeRec (.ref c) qual
def nM(q:Addr)(o:Obj):HO:=.ext λ h=>h.get? q=some o
section
variable {X:Cx}{pins:List (Addr × Obj)}{σ:St}{H:Hp}{s:Shared}{P:Program}{w:World}
theorem Gj{G:Hp}{c:Addr}(x:h.CodeRec (.ref c) qual):cG P w G h c (jv c qual):=by
 refine ⟨x,?_,λ h1 h2 y k=>?_⟩
 ·obtain ⟨c2,oc,vs,t,e,hoc,_⟩:=x
  cases e
  exact ⟨oc,hoc⟩
 ·obtain ⟨c2,oc,vs,t,e,hoc,hr⟩:=y
  cases e
  exact ⟨c,oc,vs,t,rfl,k _ hoc,hr⟩
theorem Ba{G:Hp}(x:h.get? q=some o):cG P w G h q (nM q o):=⟨x,⟨o,x⟩,λ _ _ y k=>k _ y⟩
theorem Inv.grow{c:Addr}{ps more:Array Value}{h':Heap}{tk:Nat}(I:Inv X pins σ H s)(hP:H p=some (.mR ps))(x:Heap.ExtBut p s.heap h')(hge:s.heap.objs.size <= c)(hlt:c < h'.objs.size)
  (hrec:h'.CodeRec (.ref c) qual)(htb:h'.get? p=some (tabObj (ps++more)))(hf:o.isFreed=false):
  Inv X pins σ (upd (upd (upd H p (.mR (ps++more))) c (jv c qual)) h'.objs.size (nM h'.objs.size o)) { s with heap:=h'.push o,toks:=tk }:=by
 have tr:∀ b u,H b=some u->b < s.heap.objs.size:=λ b u e=>I.hok.lt e
 have ne1:∀ b,b < s.heap.objs.size->b ≠ c /\ b ≠ h'.objs.size:=λ b hb=>⟨aT (cg hb hge),aT (Nat.lt_trans (cg hb hge) hlt)⟩
 have at_:∀ b,b < s.heap.objs.size->b ≠ p->upd (upd (upd H p (.mR (ps++more))) c (jv c qual)) h'.objs.size (nM h'.objs.size o) b=H b:=λ b hb hn=>by
  rw [aZ (ne1 b hb).2,aZ (ne1 b hb).1,aZ hn]
 have atp:upd (upd (upd H p (.mR (ps++more))) c (jv c qual)) h'.objs.size (nM h'.objs.size o) p=some (.mR (ps++more)):=by
  rw [aZ (ne1 p (tr p _ hP)).2,aZ (ne1 p (tr p _ hP)).1,cS]
 have Vv:∀ b,H b=none->b ≠ p:=λ b n z=>by rw [z,hP] at n; cases n
 have kp:∀ b ob,b ≠ p->s.heap.get? b=some ob->(h'.push o).get? b=some ob:=λ b ob hn e=>cB _ (x b ob hn e)
 have hok:jz X.prog X.w (upd (upd (upd H p (.mR (ps++more))) c (jv c qual)) h'.objs.size (nM h'.objs.size o)) (h'.push o):=λ b u e=>by
  by_cases h1:b=h'.objs.size
  ·subst h1
   rw [cS] at e; cases e
   exact Ba (fR _ hf)
  rw [aZ h1] at e
  by_cases h2:b=c
  ·subst h2
   rw [cS] at e; cases e
   obtain ⟨c2,oc,vs,t,e2,hoc,hr⟩:=hrec
   cases e2
   exact Gj ⟨b,oc,vs,t,rfl,cB _ hoc,hr⟩
  rw [aZ h2] at e
  by_cases h3:b=p
  ·subst h3
   rw [cS] at e; cases e
   exact cB _ htb
  rw [aZ h3] at e
  refine (I.hok b u e).stay (λ d v hd q=>kp d v ?_ q) (λ d q=>?_) λ d xs q=>?_
  ·rcases hd with rfl | hd
   ·exact h3
   ·rintro rfl
    rw [hP] at hd; cases hd
  ·rw [at_ d (tr d _ q) (by rintro rfl; rw [hP] at q; cases q)]; exact q
  ·rw [at_ d (tr d _ q) (by rintro rfl; rw [hP] at q; cases q)]; exact q
 refine I.step (h':=h'.push o) (g':=s.gens) (t':=tk) (d':=s.drawn) (ch:=[]) (λ b z=>nomatch z) (λ b ob _ _ _ e n=>kp b ob (Vv b n) e) (λ b ob _ _ _ e n=>⟨ob.slots,kp b ob (Vv b n) e⟩) (λ b ob _ e n=>?_) (λ b ob _ e=>?_)
  (λ b xs e=>?_) (λ b ob u e=>?_) (λ b qs e=>?_) (λ m hm=>?_) hok I.bare
 ·rw [at_ b (aF e) (Vv b n)]; exact n
 ·by_cases hb:b=p
  ·subst hb
   exact ⟨_,cB _ htb⟩
  ·exact ⟨ob,kp b ob hb e⟩
 ·rw [at_ b (tr b _ e) (by rintro rfl; rw [hP] at e; cases e)]; exact e
 ·rw [at_ b (tr b _ e) (by rintro rfl; rw [hP] at e; cases e)]; exact e
 ·by_cases hb:b=p
  ·subst hb
   rw [hP] at e; cases e
   exact ⟨more,atp⟩
  ·exact ⟨#[],by rw [at_ b (tr b _ e) hb,e]; simp⟩
 ·obtain ⟨ob,es,ep,e,r⟩:=hm
  exact ⟨ob,es,ep,kp _ _ (Vv _ I.free) e,r⟩
def OW(p:Addr)(qual:Str)(pos:Pos)(mk:Addr->Value->Obj):TE:=λ _ H Q =>
 (H p=some (.mR #[]) /\ ∀ c q ctv,H c=none->H q=none->c ≠ q->Q (.ref q) (upd (upd (upd H p (.mR #[rawInt pos.line,rawInt pos.col,.ref c])) c (jv c qual)) q (nM q (mk c ctv)))) \/
 (∃ c,H p=some (.mR #[rawInt pos.line,rawInt pos.col,.ref c]) /\ ∀ q ctv,H q=none->Q (.ref q) (upd H q (nM q (mk c ctv))))
theorem OX{cc:Addr}{clos:List (Str × Addr)}(hcd:X.env.code=.ref cc)(ch:codeHdIn X.K cc p=true)(XF:X.base.BuiltinsAt X.mg p)
  (hcl:closureFor scope X.env=pure clos)(hdef:defaultsOf params X.env=([],[])):
  PE X (.Lambda params body scope pos) (OW p (X.env.qual ++ "<lambda>") pos λ c ctv=>kla_obj "<lambda>" (X.env.qual ++ "<lambda>") params body scope clos ((X.mg "__name__").getD .none) c ctv):=by
 intro pins s σ H Q I h
 have bk:∀ b o,X.base.get? b=some o->s.heap.get? b=some o:=λ b o e=>(I.bs b o e).1
 have hg:s.heap.Ns mainGlobals X.mg:=by
  obtain ⟨o,es,ep,e,z⟩:=I.ok.mod.glob
  exact ⟨o,es,ep,bk _ _ e,z⟩
 have C:CodeHd X.base cc p:=codeHd_of_K I.ok.mod.Qq ch
 have hb:s.heap.BuiltinsAt X.mg p:=by
  obtain ⟨bm,o,h1,h2,h3,h4,h5,h6⟩:=XF
  exact ⟨bm,o,h1,h2,h3,h4,bk _ _ h5,h6⟩
 refine kla_eval hdef ?_
 rcases h with ⟨hP,q⟩ | ⟨c,hP,q⟩
 ·have hp:s.heap.get? p=some (tabObj #[]):=I.hok p _ hP
  have ng:mainGlobals ≠ p:=λ z=>by
   obtain ⟨o,es,ep,e,d,_⟩:=hg
   rw [z,hp] at e; cases e; cases d
  refine kla_makeFunction hcl I.ok.glob hg hcd (C.keeps bk) hp trivial rfl ng hb λ c' ctv h' tk hx hge hlt hrec htb=>?_
  have I2:=I.grow (more:=#[rawInt pos.line,rawInt pos.col,.ref c']) (tk:=tk) (o:=kla_obj "<lambda>" (X.env.qual ++ "<lambda>") params body scope clos ((X.mg "__name__").getD .none) c' ctv) hP hx hge hlt hrec htb rfl
  exact ⟨.ref h'.objs.size,_,I2,rfl,q c' h'.objs.size ctv (I.hok.fresh hge) (I.hok.fresh (gK (Nat.lt_of_le_of_lt hge hlt))) (aT hlt)⟩
 ·have hp:s.heap.get? p=some (tabObj #[rawInt pos.line,rawInt pos.col,.ref c]):=I.hok p _ hP
  refine kla_makeFunctionHit hcl I.ok.glob hg hcd (C.keeps bk) hp (by simp [TriplesOk,rawInt]) (cv:=.ref c) (by simp [codeAmong,rawInt]) hb λ ctv h' tk hk hsz=>?_
  exact ⟨.ref h'.objs.size,_,I.laid (o:=nM h'.objs.size (kla_obj "<lambda>" (X.env.qual ++ "<lambda>") params body scope clos ((X.mg "__name__").getD .none) c ctv)) (λ b u e=>cB _ (hk b u e)) hsz (Ba (fR _ rfl)),rfl,q h'.objs.size ctv (I.hok.fresh hsz)⟩
end
theorem wo:∀ {as:List Addr} {us:List Value},Vals (as.map V.ref) us->us=as.map Value.ref
 | [],_,.nil=>rfl
 | a :: as,_,.cons r t=>by
  have r:_=Value.ref a:=r
  rw [r,wo t]
  rfl
def Gk(K:aA)(qual:Str)(mk:Addr->Value->Obj)(te:TE)(ix:List Nat)(σ:St)(vs:List V)(y:V)(H:Hp)(Q:VK):Prop :=
 ∃ (l:Addr) (as:List Addr) (q c:Addr) (ctv:Value) (kf:Nat->Int),vs=[.ref l] /\ y=.ref q /\ bD K H l (as.map V.ref) /\ H q=some (nM q (mk c ctv)) /\ H c=some (jv c qual) /\ 0 < as.length /\
  (∀ i a,as[i]? = some a->te (some (.ref a) :: cut ix σ) H λ r H'=>r=.int (kf i) /\ H'=H) /\ ∀ a,as[MK.lU kf (as.length - 1)]? = some a->Q (.ref a) H
def Gm(K:aA)(qual:Str)(mk:Addr->Value->Obj)(te:TE)(ix:List Nat)(t:TA)(tl:TE):TE:=λ σ H Q=>t σ H λ vs H1=>tl σ H1 λ y H2=>Gk K qual mk te ix σ vs y H2 Q
section
variable {X:Cx}{e lam:Expr}{p kp pos:Pos}{t:TA}{tl te:TE}{pins:List (Addr × Obj)}{σ:St}{H:Hp}{s:Shared}
theorem JW{vs:List V}{us:List Value}{z:V}{d:Value}{Q:VK}{E:Value->Shared->Prop}
  (O:qB X scope cl y fr ix)(hr:X.A.in1.depth < recursionLimit)(hbind:∀ (c':Addr) (ctv z:Value),bindArgs (kla_fn name qual params body scope cl pm (.ref c') ctv) ⟨[z],[]⟩=pure [(y,z)])
  (he:∀ q c' L s H,PE (QA X (y :: fr) (envX qual scope L q (.ref c') cl) s H) body te)(I:Inv X pins σ H s)(r:Vals vs us)(rz:RelV z d)
  (h:Gk X.K qual (λ c ctv=>kla_obj name qual params body scope cl pm c ctv) te ix σ vs z H Q):
  wpAny (model X.prog X.w) X.A (call (.builtin "max") us [("key", d)]) (λ u s'=>∃ x H',Inv X pins σ H' s' /\ RelV x u /\ Q x H') E s:=by
 obtain ⟨l,as,q,c,ctv,kf,rfl,rfl,hS,hq,hc,hn,hk,hQ⟩:=h
 obtain ⟨u,rfl,ru⟩:=vals1 r
 cases ru
 have rz:d=Value.ref q:=rz
 subst rz
 have hl:∀ pins s,Inv X pins σ H s->s.heap.IsList l (as.map Value.ref).toArray:=λ pins s J=>by
  obtain ⟨its,rv,pl,_⟩:=J.list hS
  rw [wo rv] at pl
  exact pl.isList
 have hls:=hl pins s I
 have hlt:l < s.heap.objs.size:=by
  obtain ⟨o,ho,_⟩:=id hls
  exact aF ho
 have f1:dU X pins H s.heap.objs.size:=I.kg (az _) (I.hok.fresh (az _))
 have f2:dU X pins H (s.heap.objs.size + 1):=I.kg (kJ _) (I.hok.fresh (kJ _))
 have n2:s.heap.objs.size + 1 ≠ s.heap.objs.size:=Nat.succ_ne_self _
 have at_:∀ i v,(as.map Value.ref)[i]? = some v->∃ a,as[i]? = some a /\ v=Value.ref a:=λ i (v:Value) hv=>by
  rw [aY] at hv
  obtain ⟨a,ha,rfl⟩:=dg.mp hv
  exact ⟨a,ha,rfl⟩
 refine MK.CU (J:=Inv X pins σ H) (kf:=kf) (I.ok.hd O.calm) hls (by rw [au]; exact hn) (Gg f1 f2 (hl pins) (aT hlt) n2) (Gh (l:=l) f1 f2 n2 λ i v s' D5 hv J=>?_) (λ h' kp=>I.kept kp) λ v s' hv J=>?_
 ·obtain ⟨a,ha,rfl⟩:=at_ i v hv
  refine wpAny_mono (Gi (Q:=λ r H'=>r=.int (kf i) /\ H'=H) O hr (hbind c ctv) (λ L s H=>he q c L s H) J (J.hok q _ hq).1 (J.hok c _ hc).1 (show RelV (.ref a) (.ref a) from rfl) (hk i a ha)) (λ x s2 hx=>?_) λ _ _ f=>f
  obtain ⟨v2,H2,J2,r2,rfl,rfl⟩:=hx
  exact ⟨r2,J2⟩
 ·obtain ⟨a,ha,rfl⟩:=at_ _ v hv
  rw [au] at ha
  exact ⟨.ref a,H,J,rfl,hQ a ha⟩
theorem JX(O:qB X scope cl y fr ix)(hr:X.A.in1.depth < recursionLimit)
  (hbind:∀ (c':Addr) (ctv z:Value),bindArgs (kla_fn name qual params body scope cl pm (.ref c') ctv) ⟨[z],[]⟩=pure [(y,z)])(he:∀ q c' L s H,PE (QA X (y :: fr) (envX qual scope L q (.ref c') cl) s H) body te)
  (hg:Gl X "max")(hm:X.mg "max" = none)(ha:PA X [e] t)(hv:PE X lam tl)(hb:backTo pos (starEach [e] X.env)=(false,eval e X.env) :: backTo pos (starEach [] X.env):=by rfl)
  (hpl:(backTo pos (starEach [e] X.env)).any (·.1)=false:=by rfl)(hal:(backToKw pos (keywordEach [⟨some "key", lam,kp⟩] X.env)).all (·.1.isSome)=true:=by rfl)(hkw:(backToKw pos (keywordEach [⟨some "key", lam,kp⟩] X.env)).any (·.1.isNone)=false:=by rfl)
  (hfm:(backToKw pos (keywordEach [⟨some "key", lam,kp⟩] X.env)).filterMap (·.1)=[("key" : Str)]:=by rfl):
  PE X (.Call (.Name "max" p) [e] [⟨some "key", lam,kp⟩] pos) (Gm X.K qual (λ c ctv=>kla_obj name qual params body scope cl pm c ctv) te ix t tl):=by
 intro pins s σ H Q I h
 refine wpAny_Call_Name_kw (gO I hg hm BT.E8 ?_)
 refine callWith_kw (kws:=[⟨some "key", lam,kp⟩]) ?_ hb hpl hal hkw
 refine cL (ha pos pins s σ H _ I h) λ us s1 ⟨vs,H1,I1,r1,q1⟩=>?_
 refine kws_cons (cL (hv pins s1 σ H1 _ I1 q1) λ d s2 ⟨z,H2,I2,rz,q2⟩=>kws_nil ?_)
 rw [hfm]
 exact JW O hr hbind he I2 r1 rz q2
end
theorem qB.caps{X:Cx}{x:Str}{nm:List Str}(calm:X.calm=true)(cell:∀ y∈scope.names,y.2 ≠ .cell)(kind:scope.kind=.function)(co:scope.isCoroutine=false)(gen:scope.isGenerator=false)
  (loc:scope.names.lookup x=some .local)(hcl:vB (λ p=>X.env.cells.lookup p.1=some p.2) cl)(hnm:cl.map (·.1)=nm)(hfree:∀ z∈scope.names,z.2=.free->z.1∈nm)(hlen:fr.length=ix.length)
  (hfx:vB (λ p=>X.N[p.2]? = some p.1 /\ X.env.kindOf p.1=some .cell /\ scope.names.lookup p.1=some .free) (fr.zip ix)):qB X scope cl x fr ix:=by
 refine ⟨calm,cell,kind,co,gen,loc,λ y c h=>hcl.mem (y,c) (fG h),λ y h=>?_,λ j z hz=>?_,hlen⟩
 ·have hy:(y,NameKind.free)∈scope.names:=by
   rcases h with h | h
   ·exact absurd rfl (cell _ (fG h))
   ·exact fG h
  have hm:=hfree _ hy rfl
  rw [<- hnm] at hm
  obtain ⟨p,hp,e⟩:=aG.mp hm
  cases q:cl.lookup y with
  | some c=>exact ⟨c,rfl⟩
  | none =>
   have z:=List.lookup_eq_none_iff.mp q p hp
   have e:p.1=y:=e
   rw [e] at z
   simp at z
 ·have hj:j < fr.length:=(fu hz).1
  have hi:ix[j]? = some (ix[j]'(by omega)):=dJ (by omega)
  have hm:(z,ix[j]'(by omega))∈fr.zip ix:=by
   refine eU.mpr ⟨j,?_⟩
   rw [kG]
   exact ⟨hz,hi⟩
  obtain ⟨h1,h2,h3⟩:=hfx.mem _ hm
  exact ⟨_,hi,h1,.inl h2,h3⟩
section
variable {P:Program}{w:World}{K:aA}{mg:Str->Option Value}{base:Heap}
theorem Ly.okC{x:Str}{st:Stmt}{f:Addr}{fd:FuncData}{N ps:List Str}{k:Nat}{sp:Sp}(F:Ly K x qual st f fd)(S:aP N ps (aB st))(len:∀ vs H Q E,sp vs H Q E->vs.length=ps.length)
  (hbody:∀ (A:Around) (outer:List Env) (s:Shared) (H:Hp) (vs:List V) (Q:VK) (E:XK),f6 k (A.deeper (envOfC qual (aB st) s.heap.objs.size f fd.code))->sp vs H Q E ->
   ∃ t,rM (tW gr P w K mg base N qual (aB st) f fd.code A outer s H E).B4 (fJ st) t /\ t { nx:=λ _ H'=>Q .c6 H',rt:=Q } (start N vs) H):bY P w K mg base gr (k + 1) f fd ps sp:=by
 obtain ⟨oc,od,kV,doc,pm,an,cdv,ct,osl,rfl,lk,hcd⟩:=F.ex
 refine Ej lk hcd S len λ A outer s H vs Q E hr u5=>?_
 obtain ⟨t,h,q⟩:=hbody A outer s H vs Q E hr u5
 exact ⟨t,h.B4,q⟩
theorem Gn{k:Nat}{A:Around}(h:f6 (k + 1) A):A.in1.depth < recursionLimit:=h.in1.depth
end
def gk(p:Addr)(H H':Hp):Prop:=∀ b o,b ≠ p->H b=some o->H' b=some o
theorem gk.trans{H1 H2:Hp}(a:gk p H H1)(b:gk p H1 H2):gk p H H2:=λ c o n h=>b c o n (a c o n h)
theorem aE.S6(s:aE H H'):gk p H H':=λ c o _ h=>s c o h
def nN(p:Addr)(qual:Str)(pos:Pos)(H:Hp):Prop:=H p=some (.mR #[]) \/ ∃ c,H p=some (.mR #[rawInt pos.line,rawInt pos.col,.ref c]) /\ H c=some (jv c qual)
theorem nN.ne{H:Hp}(t:nN p qual pos H){o:HO}(h:H b=some o)(ho:∀ ps,o ≠ .mR ps):b ≠ p:=λ z=>by
 subst z
 rcases t with e | ⟨c,e,_⟩ <;> (rw [e] at h; exact ho _ (Option.some.inj h).symm)
theorem nN.same(t:nN p qual pos H)(s:aE H H'):nN p qual pos H':=t.elim (λ e=>.inl (s _ _ e)) λ ⟨c,e,h⟩=>.inr ⟨c,s _ _ e,s _ _ h⟩
theorem nN.put{f:Addr}{xs:List V}{o:HO}(t:nN p qual pos H)(hf:H f=some (.lst xs))(s:kh H f o H'):nN p qual pos H':=by
 have k:∀ {b:Addr} {u:HO},H b=some u->(∀ ys,u ≠ .lst ys)->H' b=some u:=λ h n=>s.keep (λ z=>by subst z; rw [hf] at h; exact n _ (Option.some.inj h).symm) h
 rcases t with e | ⟨c,e,h⟩
 ·exact .inl (k e λ _ z=>nomatch z)
 ·exact .inr ⟨c,k e (λ _ z=>nomatch z),k h (λ _ z=>nomatch z)⟩
section
variable {σ:St}{H:Hp}{Q:VK}{K:aA}{p:Addr}{qual:Str}{pos:Pos}{mk:Addr->Value->Obj}{te tl:TE}{ix:List Nat}{t:TA}
theorem JY(h:t σ H λ vs H1=>tl σ H1 λ y H2=>Gk K qual mk te ix σ vs y H2 Q):Gm K qual mk te ix t tl σ H Q:=h
theorem OY(ht:nN p qual pos H)(h:∀ c q ctv H',gk p H H'->H' q=some (nM q (mk c ctv))->H' c=some (jv c qual)->nN p qual pos H'->Q (.ref q) H'):OW p qual pos mk σ H Q:=by
 rcases ht with hP | ⟨c,hP,hc⟩
 ·refine .inl ⟨hP,λ c q ctv fc fq ne=>?_⟩
  have np:p ≠ c:=λ z=>by rw [<- z,hP] at fc; cases fc
  have nq:p ≠ q:=λ z=>by rw [<- z,hP] at fq; cases fq
  have IQ:upd (upd (upd H p (.mR #[rawInt pos.line,rawInt pos.col,.ref c])) c (jv c qual)) q (nM q (mk c ctv)) p=some (.mR #[rawInt pos.line,rawInt pos.col,.ref c]):=by rw [aZ nq,aZ np,cS]
  have hc':upd (upd (upd H p (.mR #[rawInt pos.line,rawInt pos.col,.ref c])) c (jv c qual)) q (nM q (mk c ctv)) c=some (jv c qual):=by rw [aZ ne,cS]
  refine h c q ctv _ (λ b o hb e=>?_) cS hc' (.inr ⟨c,IQ,hc'⟩)
  rw [aZ (bx e fq),aZ (bx e fc),aZ hb]
  exact e
 ·refine .inr ⟨c,hP,λ q ctv fq=>?_⟩
  have s:=CV fq (nM q (mk c ctv))
  exact h c q ctv _ (λ b o _ e=>s b o e) cS (s _ _ hc) (.inr ⟨c,s _ _ hP,s _ _ hc⟩)
where
 CV {H:Hp} {q:Addr} (fq:H q=none) (o:HO):aE H (upd H q o):=λ b u e=>by rw [aZ (bx e fq)]; exact e
end
section
variable {X:Cx}{e:Expr}{p kp pos Gp:Pos}{t:TA}{te:TE}
theorem JZ{clos:List (Str × Addr)}{cc pt:Addr}(hcd:X.env.code=.ref cc)(ch:codeHdIn X.K cc pt=true)(XF:X.base.BuiltinsAt X.mg pt)(hcl:closureFor scope X.env=pure clos)(hdef:defaultsOf params X.env=([],[]))
  (O:qB X scope clos y fr ix)(hr:X.A.in1.depth < recursionLimit)(hbind:∀ (c':Addr) (ctv z:Value),bindArgs (kla_fn "<lambda>" (X.env.qual ++ "<lambda>") params body scope clos ((X.mg "__name__").getD .none) (.ref c') ctv) ⟨[z],[]⟩=pure [(y,z)])
  (he:∀ q c' L s H,PE (QA X (y :: fr) (envX (X.env.qual ++ "<lambda>") scope L q (.ref c') clos) s H) body te)(hg:Gl X "max")(hm:X.mg "max" = none)(ha:PA X [e] t)(hb:backTo pos (starEach [e] X.env)=(false,eval e X.env) :: backTo pos (starEach [] X.env):=by rfl)
  (hpl:(backTo pos (starEach [e] X.env)).any (·.1)=false:=by rfl)(hal:(backToKw pos (keywordEach [⟨some "key", .Lambda params body scope Gp,kp⟩] X.env)).all (·.1.isSome)=true:=by rfl)(hkw:(backToKw pos (keywordEach [⟨some "key", .Lambda params body scope Gp,kp⟩] X.env)).any (·.1.isNone)=false:=by rfl)
  (hfm:(backToKw pos (keywordEach [⟨some "key", .Lambda params body scope Gp,kp⟩] X.env)).filterMap (·.1)=[("key" : Str)]:=by rfl):
  PE X (.Call (.Name "max" p) [e] [⟨some "key", .Lambda params body scope Gp,kp⟩] pos) (Gm X.K (X.env.qual ++ "<lambda>") (λ c ctv=>kla_obj "<lambda>" (X.env.qual ++ "<lambda>") params body scope clos ((X.mg "__name__").getD .none) c ctv) te ix t (OW pt (X.env.qual ++ "<lambda>") Gp λ c ctv=>kla_obj "<lambda>" (X.env.qual ++ "<lambda>") params body scope clos ((X.mg "__name__").getD .none) c ctv)) :=
 JX O hr hbind he hg hm ha (OX hcd ch XF hcl hdef) hb hpl hal hkw hfm
end
open Classical in
def OZ(h:Heap)(q:HM.bf)(v:Value):Bool:=decide (∃ a,v=.ref a /\ HM.bH h q a)
open Classical in
theorem Gq{k q:HM.bf}(x:HM.bH h k a):OZ h q (.ref a)=decide (k=q):=by
 unfold OZ
 by_cases e:k=q
 ·subst e
  rw [decide_eq_true (show ∃ b,Value.ref a=.ref b /\ HM.bH h k b from ⟨a,rfl,x⟩),decide_eq_true rfl]
 ·rw [decide_eq_false e,decide_eq_false]
  rintro ⟨b,eb,y⟩
  cases eb
  exact e (HM.bH.inj x y)
section
variable {X:Cx}{pins:List (Addr × Obj)}{σ:St}{H:Hp}{s:Shared}{Q:VK}
theorem Bb(I:Inv X pins σ H s)(q:HM.bf):∀ {xs:List V} {ps:List HM.bf} {us:List Value},aK H xs ps->Vals xs us->us.any (OZ s.heap q)=decide (q∈ps)
 | _,_,_,.nil,.nil=>by simp
 | _,_,_,.cons (b:=p) (l₂:=ps) h r,.cons rv rs=>by
  have h2:=h
  obtain ⟨a,_,rfl,_⟩:=h
  cases rv
  rw [gF,Gq (I.hrm h2),Bb I q r rs]
  by_cases e:p=q
  ·simp [e]
  ·have e':¬ q=p:=λ z=>e z.symm
   simp [e,e']
theorem Gr(I:Inv X pins σ H s){A:Around}(hu:A.units + 2 < cLine){b:Addr}{q:HM.bf}(hb:aM H (.ref b) q):∀ {xs:List V} {ps:List HM.bf} {us:List Value},aK H xs ps->Vals xs us->∀ u∈us,SeqAt.EqAt A s u (.ref b) (OZ s.heap q u)
 | _,_,_,.nil,.nil=>λ u hu=>nomatch hu
 | _,_,_,.cons (b:=p) h r,.cons rv rs=>λ u hm=>by
  rcases aJ.mp hm with z | z
  ·have h2:=h
   obtain ⟨a,_,rfl,_⟩:=h
   cases rv
   subst z
   have:=HM.nG q
   rw [Gq (I.hrm h2),<- HM.A1]
   exact SeqAt.eqAt_reads _ _ A s _ _ _ _ (I.hrm h2).reads (I.hrm hb).reads (HM.lN _) (HM.lN _) (by omega)
  ·exact Gr I hu hb r rs u z
def L6(K:aA):R2:=λ x y H Q=>∃ (b l:Addr) (q:HM.bf) (xs:List V) (ps:List HM.bf),x=.ref b /\ y=.ref l /\ aM H (.ref b) q /\ bD K H l xs /\ aK H xs ps /\ Q (.bl (!decide (q∈ps))) H
theorem qC(hu:X.A.units + 64 < cLine):ju X (compareOp .NotIn) (L6 X.K):=by
 intro pins s σ H x y v u Q I rx ry h
 obtain ⟨b,l,q,xs,ps,rfl,rfl,hb,hl,hp,k⟩:=h
 cases rx
 cases ry
 obtain ⟨its,r,pl,hz⟩:=I.list hl
 refine SeqAt.notIn_listAt (OZ s.heap q) pl.isList (λ w hw=>Gr I (by show X.A.units + 1 + 2 < cLine; omega) hb hp r w (by simpa using hw)) ⟨.bl _,H,I,rfl,?_⟩
 rw [show its.toArray.any (OZ s.heap q)=its.any (OZ s.heap q) by simp,Bb I q hp r]
 exact k
theorem sL{K:aA}{l:Addr}{q:HM.bf}{xs:List V}{ps:List HM.bf}(hb:aM H (.ref b) q)(hl:bD K H l xs)(hp:aK H xs ps)(h:Q (.bl (!decide (q∈ps))) H):L6 K (.ref b) (.ref l) H Q:=⟨b,l,q,xs,ps,rfl,rfl,hb,hl,hp,h⟩
end
end L2
namespace L2
open PySem PySem.Spec PyProof.Rows
set_option genInjectivity false in
set_option genSizeOf false in
set_option genSizeOfSpec false in
structure DD (K:aA) (mg:Str->Option Value) (n:Str) (st:Stmt) (ps:List Str) where
 f:Addr
 d:FuncData
 F:Ly K n n st f d
 b:Binds K d ps []
 m:mg n=some (.ref f)
set_option genInjectivity false in
set_option genSizeOf false in
set_option genSizeOfSpec false in
structure DL (K:aA) (mg:Str->Option Value) (n:Str) (st:Stmt) (ps:List Str) (pp:Addr) extends DD K mg n st ps where
 cc:Addr
 cq:d.code=.ref cc
 ch:PySem.W.codeHdIn K cc pp=true
set_option genInjectivity false in
set_option genSizeOf false in
set_option genSizeOfSpec false in
structure CI (mg:Str->Option Value) (n:Str) (i:Int) where
 t:Tok
 c:mg n=some (.int i t)
set_option genInjectivity false in
set_option genSizeOf false in
set_option genSizeOfSpec false in
structure CT (K:aA) (mg:Str->Option Value) (n:Str) (vs:List V) where
 a:Addr
 c:mg n=some (.ref a)
 q:gj K a vs
section
variable {K:aA}{mg:Str->Option Value}{n:Str}{st:Stmt}{ps:List Str}{h:Heap}{f a:Addr}{oc:Value}{od an:Option Addr}{sl:Array (Option Value)}{kV dc pm cd ct:Value}
abbrev zQ(n:Str)(st:Stmt)(ps:List Str):Prop:=∀ (kV doc pm:Value) (an:Option Addr) (cdv ct:Value) (us:List Value),us.length=ps.length->bindArgs (PySem.W.fnOf n n (iw st) (fJ st) (aB st) .none kV doc pm an cdv ct) ⟨us,[]⟩=pure (ps.zip us)
def L7(X:K.In h)(G:h.Ns mainGlobals mg)(hb:zQ n st ps)(e:PySem.W.nsIn K mainGlobals n=some (some (.ref f)))(l:K.lookup f=some ⟨oc,od,.func (PySem.W.fnOf n n (iw st) (fJ st) (aB st) .none kV dc pm an cd ct),sl⟩)
  (c:PySem.W.codeIn K cd n=true)(k:PySem.W.keepIn K (.ref f)=true):DD K mg n st ps:=⟨f,_,ED l c k,(ED l c k).binds hb,PySem.W.mg_of X G e⟩
def S7{cc pp:Addr}(X:K.In h)(G:h.Ns mainGlobals mg)(hb:zQ n st ps)(e:PySem.W.nsIn K mainGlobals n=some (some (.ref f)))(l:K.lookup f=some ⟨oc,od,.func (PySem.W.fnOf n n (iw st) (fJ st) (aB st) .none kV dc pm an (.ref cc) ct),sl⟩)
  (c:PySem.W.codeIn K (.ref cc) n=true)(k:PySem.W.keepIn K (.ref f)=true)(ch:PySem.W.codeHdIn K cc pp=true):DL K mg n st ps pp:={ L7 X G hb e l c k with cc:=cc,cq:=rfl,ch:=ch }
def S8{i:Int}{t:Tok}(X:K.In h)(G:h.Ns mainGlobals mg)(e:PySem.W.nsIn K mainGlobals n=some (some (.int i t))):CI mg n i:=⟨t,PySem.W.mg_of X G e⟩
def S9{vs:List V}{its:Array Value}{j:Nat}(X:K.In h)(G:h.Ns mainGlobals mg)(e:PySem.W.nsIn K mainGlobals n=some (some (.ref a)))(l:K.lookup a=some ⟨.type "tuple", od,.seq its j,sl⟩)(r:Vals vs its.toList)(hz:its.size <= 1000):CT K mg n vs:=⟨a,PySem.W.mg_of X G e,gj.mk' l r hz⟩
theorem DD.bind1{x:Str}{st:Stmt}(D:DD K mg n st [x])(hb:zQ n st [x])(s:Shared)(v:Value):BindsTo s D.d ⟨[v],[]⟩ [(x,v)]:=by
 obtain ⟨_,_,kV,dc,pm,an,cd,ct,_,e,_,_⟩:=D.F.ex
 rw [e]
 exact .of_eq (hb kV dc pm an cd ct [v] rfl)
end
section
variable {X:Cx}{n:Str}{st:Stmt}{ps:List Str}{sp:Sp}{k j:Nat}{e:Expr}{es:List Expr}{p pos:Pos}{t:TA}
theorem bw(D:DD X.K X.mg n st ps)(F:bY X.prog X.w X.K X.mg X.base gr k D.f D.d ps sp)(r:f6 j X.A)(ha:PA X (e :: es) t)(hk:k <= j:=by first | decide | omega)(hg:Gl X n:=by rfl)(hdb:(n == ("__debug__" : Str))=false:=by decide)
  (he:starEach (e :: es) X.env=(false,eval e X.env) :: starEach es X.env:=by rfl)(hpl:(backTo pos (starEach es X.env)).any (·.1)=false:=by rfl):PE X (.Call (.Name n p) (e :: es) [] pos) (Ei sp [] E0 t) :=
 IE F (r.mono hk) hg D.m D.F.kp D.b .nil Rt ha hdb he hpl
end
end L2
set_option compiler.extract_closed false
local macro_rules | `(tactic| walk_at "look") => `(tactic| first | assumption | exact L2.eE.self (by assumption) | exact L2.eE.keep (by assumption) (by walk_at "look") | exact L2.kh.self (by assumption) | exact L2.kh.keep (by assumption) (by walk_at "neq") (by walk_at "look") | exact (by assumption : L2.aE _ _) _ _ (by walk_at "look"))
local macro_rules | `(tactic| walk_at "neq") => `(tactic| first | assumption | exact bF (by assumption) | exact L2.eE.ne (by assumption) (by walk_at "look") | exact bF (L2.eE.ne (by assumption) (by walk_at "look")) | exact L2.pT (by walk_at "look") (by walk_at "look") (by intro z; cases z))
local macro_rules | `(tactic| walk_at "sq") => `(tactic| first | assumption | exact L2.gj.sq (by assumption) | exact L2.bD.of (by walk_at "look") | exact L2.gm.of (by walk_at "look") | exact L2.aE.seq (by assumption) (by walk_at "sq") | exact L2.aE.seq (L2.eE.same (by assumption)) (by walk_at "sq"))
local macro_rules | `(tactic| walk_at "same") => `(tactic| first | exact L2.aE.refl _ | assumption | (refine L2.aE.trans ?_ (L2.eE.same (by assumption)); walk_at "same") | (refine L2.aE.trans ?_ (by assumption); walk_at "same") | (refine L2.kh.same (by assumption) ?_ ?_ <;> first | walk_at "same" | walk_at "free"))
local macro_rules | `(tactic| walk_at "free") => `(tactic| first | assumption | exact L2.eE.none (by assumption) (by walk_at "free") | exact L2.aE.free (by assumption) (by walk_at "free") | exact (by assumption : L2.eE _ _ _ _).1 | exact L2.aE.free (by walk_at "same") (by assumption : L2.eE _ _ _ _).1)
local macro_rules | `(tactic| walk_at "cond") => `(tactic| first | omega | decide | exact ⟨by omega, by omega⟩ | exact ay ⟨by omega, by omega⟩ | exact bL ⟨by omega, by omega⟩ | exact ⟨by omega, by omega, by decide⟩)
local macro_rules | `(tactic| walk_at "len") => `(tactic| first | omega | (simp only [au, bh, dR, List.length_nil, L2.vC] at *; omega) | exact pS rfl)
local macro_rules | `(tactic| walk_at "fld") => `(tactic| first | exact L2.Vw | exact L2.Vx | exact L2.Vy | exact L2.Vz | exact L2.VA | exact L2.VB | exact L2.VC | exact L2.VD | exact L2.VE | exact L2.VF | exact L2.VG | exact L2.VH)
local macro_rules | `(tactic| walk_at "flp") => `(tactic| first | exact L2.VI | exact L2.VJ | exact L2.VL | exact L2.Tc | exact L2.Td | exact L2.Te | exact L2.Tf | exact L2.VM | exact L2.VN | exact L2.VO | exact L2.VP | exact L2.VQ | exact L2.VR | exact L2.VS | exact L2.VT | exact L2.Tg | exact L2.Th | exact L2.Ti | exact L2.Tj | exact L2.Tn | exact L2.To | exact L2.Tp | exact L2.Tq)
local macro_rules | `(tactic| walk_at "fln") => `(tactic| first | exact L2.VU | exact L2.VV | exact L2.VW | exact L2.VX | exact L2.VY | exact L2.VZ | exact L2.V0 | exact L2.V1 | exact L2.V2 | exact L2.V3 | exact L2.V4 | exact L2.V5 | exact Nat.zero_lt_succ _)
local macro_rules | `(tactic| walk_at "flm") => `(tactic| first | exact L2.XG | exact L2.XH | exact L2.XI | exact L2.XJ | exact L2.XM | exact L2.XN | exact L2.XO | exact L2.XQ | exact L2.XR)
set_option hygiene false in
local macro_rules | `(tactic| walk_at "nx") => `(tactic| first | ((fail_if_success clear qD); intro V6 qD) | ((fail_if_success clear O0); intro nx1 O0) | ((fail_if_success clear O1); intro nx2 O1) | ((fail_if_success clear O2); intro nx3 O2) | intro nx4 Tr)
set_option hygiene false in
local macro_rules | `(tactic| walk_at "ni") => `(tactic| (try clear wu qE Tt Tu); intro Tt Tu wu qE)
set_option hygiene false in
local macro_rules | `(tactic| walk_at "nl") => `(tactic| first | ((fail_if_success clear Gs); intro no0 bk0 ct0 Gs XS XT) | ((fail_if_success clear Tv); intro no1 bk1 ct1 Tv XU XW) | intro no2 bk2 ct2 XX XY XZ)
set_option hygiene false in
local macro_rules | `(tactic| walk_at "sq1") => `(tactic| first | ((with_reducible refine L2.Om ?_); walk_at "nx") | ((with_reducible refine L2.zh (bk := bk2) (ct := ct2) ?_); walk_at "nx") | ((with_reducible refine L2.zh (bk := bk1) (ct := ct1) ?_); walk_at "nx") | ((with_reducible refine L2.zh (bk := bk0) (ct := ct0) ?_); walk_at "nx") | ((with_reducible refine L2.Oo ?_); walk_at "nl"; walk_at "nx"))
set_option hygiene false in
local macro_rules | `(tactic| walk_at "nxd") => `(tactic| first | ((with_reducible refine wu _ ?_); try clear wu qE Tt Tu) | ((with_reducible refine qE _ ?_); try clear wu qE Tt Tu) | ((with_reducible refine qD _ _ ?_); try clear qD V6) | ((with_reducible refine O0 _ _ ?_); try clear O0 nx1) | ((with_reducible refine O1 _ _ ?_); try clear O1 nx2) | ((with_reducible refine O2 _ _ ?_); try clear O2 nx3) | ((with_reducible refine Tr _ _ ?_); try clear Tr nx4) | with_reducible refine Gs _ _ ?_ | with_reducible refine XT _ _ ?_ | with_reducible refine XS _ _ ?_ | with_reducible refine Tv _ _ ?_ | with_reducible refine XW _ _ ?_ | with_reducible refine XU _ _ ?_ | with_reducible refine XX _ _ ?_ | with_reducible refine XZ _ _ ?_ | with_reducible refine XY _ _ ?_)
local macro_rules | `(tactic| walk_at "go1") => `(tactic| first
  | ((with_reducible refine L2.Ol ?_); walk_at "sq1") | with_reducible (first | apply L2.RP | apply L2.WV | apply L2.s_c)
  | ((with_reducible refine L2.LO ?_); walk_at "ni") | with_reducible (first | apply L2.Nl | apply L2.s_b | apply L2.RG | apply L2.NH | apply L2.NI | apply L2.NJ | apply L2.NK | apply L2.NL | apply L2.NN | apply L2.NO | apply L2.NP | apply L2.NQ | apply L2.NR | apply L2.IW | apply L2.IY | apply L2.I0 | apply L2.W4 | apply L2.W5 | apply L2.W6 | apply L2.Sa | apply L2.W7 | apply L2.W8 | apply L2.W9 | apply L2.Xa | apply L2.Xb | apply L2.Xc | apply L2.Sb | apply L2.Sd | apply L2.Se | apply L2.WY)
  | ((with_reducible refine L2.s_i ?hc ?_); (case hc => walk_at "cond")) | with_reducible (first | apply L2.RL | apply L2.RM | apply L2.RN)
  | with_reducible exact ⟨rfl, rfl⟩ | with_reducible exact ⟨rfl, L2.aE.refl _⟩ | (with_reducible refine L2.NF ?_ ?_) | ((with_reducible refine L2.NG ?_ ?_); rotate_left; intro _ _; rotate_left)
  | walk_at "nxd"
  | with_reducible (first | apply L2.RE | apply L2.Nj | apply L2.Nk | apply L2.WW | apply L2.s_u | apply L2.RH | apply L2.WX | apply L2.RI | apply L2.RJ | apply L2.Nm | apply L2.RK | apply L2.s_call | apply L2.RO | apply L2.Nn | apply L2.WZ | apply L2.RW | apply L2.RX)
  | ((with_reducible refine L2.Nt ?hz ?_); (case hz => exact pS rfl); intro _ _ _) | ((with_reducible refine L2.Nu ?hz ?_); (case hz => exact pS rfl); intro _ _ _)
  | ((with_reducible refine L2.dz (xs := ?xs) (v := ?v) ?hS ?hv ?_); (case hS => walk_at "sq"); (case hv => rfl)) | ((with_reducible refine L2.qd (xs := ?xs) (v := ?v) ?hS ?hv ?_); (case hS => walk_at "sq"); (case hv => first | rfl | exact L2.E7 _ _)) | ((with_reducible refine L2.Lz (ch := ?ch) ?hz ?hv ?_); (case hz => exact pS rfl); (case hv => rfl))
  | ((with_reducible refine L2.RY (xs := ?xs) ?hS ?h1 ?h2 ?_); (case hS => first | exact ay (by walk_at "sq") | exact bL (by walk_at "sq")); (case h1 => rfl); (case h2 => rfl)) | ((with_reducible refine L2.RZ (xs := ?xs) ?hS ?h1 ?h2 ?_); (case hS => first | exact ay (by walk_at "sq") | exact bL (by walk_at "sq")); (case h1 => rfl); (case h2 => rfl))
  | with_reducible (first | apply L2.R8 | apply L2.EO | apply L2.Fb)
  | ((with_reducible refine L2.Oh ?hb ?_); (case hb => omega)) | ((with_reducible refine L2.R7 ?ha ?hb ?_); (case ha => omega); (case hb => omega)) | with_reducible (first | apply L2.Nv | apply L2.IT)
  | ((with_reducible refine L2.IV (xs := ?xs) ?hS ?_); (case hS => walk_at "sq")) | ((with_reducible refine L2.ND (xs := ?xs) ?hS ?_); (case hS => walk_at "sq"))
  | ((with_reducible refine L2.NB (xs := ?xs) ?hS ?hn ?_); (case hS => walk_at "sq"); (case hn => rfl)) | with_reducible (first | apply L2.IU | apply L2.NC | apply L2.W3)
  | ((with_reducible refine L2.R5 (ys := ?ys) ?hS ?_); (case hS => first | exact ay (by walk_at "sq") | exact bL (by walk_at "sq"))) | ((with_reducible refine L2.EN (ys := ?ys) ?hS ?_); (case hS => first | exact ay (by walk_at "sq") | exact bL (by walk_at "sq")); intro _ _ _) | with_reducible refine L2.Ny ?_ | ((with_reducible refine L2.LB (ty := ?ty) (b := ?b) ?ht ?e ?_); (case ht => first | exact L2.g7.int _ | exact L2.g7.bl _ | exact L2.g7.c6 | exact L2.g7.str _ | exact L2.g7.tup (by walk_at "look") | exact L2.g7.lst (by walk_at "look")); (case e => rfl))
  | ((with_reducible refine L2.R9 (xs := ?xs) ?hS ?_); (case hS => walk_at "sq")) | ((with_reducible refine L2.EM (xs := ?xs) ?hl ?hz ?_); (case hl => walk_at "look"); (case hz => walk_at "len"); intro _ _)
  | with_reducible (first | apply L2.NW | apply L2.NX | apply L2.NY)
  | ((with_reducible refine L2.NZ (xs := ?xs) ?hS ?hn ?_); (case hS => walk_at "sq"); (case hn => rfl))
  | ((with_reducible refine L2.Sj (xs := ?xs) (zs := ?zs) ?ha ?hb ?hz ?_); (case ha => walk_at "look"); (case hb => walk_at "look"); (case hz => walk_at "len"); intro _ _ _)
  | ((with_reducible refine L2.EW (xs := ?xs) (zs := ?zs) ?ha ?hb ?hz ?_); (case ha => walk_at "look"); (case hb => walk_at "look"); (case hz => walk_at "len"); intro _ _)
  | with_reducible refine L2.Sm ?_ | ((with_reducible refine L2.N1 (xs := ?xs) ?hS ?_); (case hS => walk_at "sq")) | with_reducible refine L2.Xj ?_ | ((with_reducible refine L2.Sn (xs := ?xs) ?hS ?_); (case hS => walk_at "sq"); intro _ _ _) | with_reducible refine L2.N4 ?_ | ((with_reducible refine L2.um (xs := ?xs) (j := ?j) ?hl ?hj ?_); (case hl => walk_at "look"); (case hj => rfl); intro _ _) | with_reducible (first | apply L2.N3 | apply L2.So | apply L2.N5)
  | ((with_reducible refine L2.N2 (v := ?v) ?e ?_); (case e => exact rfl))
  | with_reducible (first | apply L2.NV | apply L2.Jd | apply L2.EV | apply L2.W2 | apply L2.R1 | apply L2.OF)
  | ((with_reducible refine L2.OG ?hn ?_); (case hn => omega)) | with_reducible (first | apply L2.Od | apply L2.Tw)
  | ((with_reducible refine L2.X0 (xs := ?xs) ?hS ?_); (case hS => walk_at "sq")) | ((with_reducible refine L2.s_split ?hy ?hz ?_); (case hy => decide); (case hz => walk_at "len"); intro _ _ _) | with_reducible (first | apply L2.JL | apply L2.JM | apply L2.F6 | apply L2.JU | apply L2.OT | apply L2.L1)
  | ((with_reducible refine L2.JK ?_); intro _ _ _ _) | ((with_reducible refine L2.S0 (ep := ?ep) (kvs := ?kvs) ?hd ?_); (case hd => walk_at "look")) | ((with_reducible refine L2.OR (ep := ?ep) (kvs := ?kvs) ?hd ?_); (case hd => walk_at "look")) | ((with_reducible refine L2.JO (ep := ?ep) (kvs := ?kvs) ?hd ?_); (case hd => walk_at "look"); intro _ _ _)
  | with_reducible refine L2.Oe ?_ | ((with_reducible refine L2.SH (kvs := ?kvs) ?hd ?hz ?_); (case hd => walk_at "look"); (case hz => walk_at "len"); intro _ _)
  | ((with_reducible refine L2.Jz ?_); intro _ _ _) | ((with_reducible refine L2.OE (kvs := ?kvs) ?hd ?_); (case hd => walk_at "look"))
  | ((with_reducible refine L2.Of ?_); intro _ _ _) | ((with_reducible refine L2.Jl (xs := ?xs) ?hl ?_); (case hl => walk_at "look"); intro _ _) | with_reducible (first | apply L2.Og | apply L2.Oc | apply L2.Jj)
  | ((with_reducible refine L2.SA (v := ?v) ?hv ?_); (case hv => rfl)) | ((with_reducible refine L2.Sx (xs := ?xs) ?hS ?hw ?_); (case hS => walk_at "sq"); (case hw => first | exact (λ h => absurd (show (1 : Nat) = 0 from h.1) (by decide)) | (intro h; simp only [L2.HT.fT] at h; omega)); intro _ _ _)
  | with_reducible (first | apply L2.Jh | apply L2.N9 | apply L2.Jg)
  | ((with_reducible refine L2.Sy (xs := ?xs) ?hS ?_); (case hS => walk_at "sq"))
  | ((with_reducible refine L2.AJ (t1 := true) (t2 := true) (xs := ?xs) (ys := ?ys) ?h1 ?h2 ?_); (case h1 => exact (show L2.gm _ _ _ _ from (by walk_at "sq"))); (case h2 => exact (show L2.gm _ _ _ _ from (by walk_at "sq"))))
  | ((with_reducible refine L2.AJ (t1 := true) (t2 := false) (xs := ?xs) (ys := ?ys) ?h1 ?h2 ?_); (case h1 => exact (show L2.gm _ _ _ _ from (by walk_at "sq"))); (case h2 => exact (show L2.bD _ _ _ _ from (by walk_at "sq"))))
  | ((with_reducible refine L2.AJ (t1 := false) (t2 := true) (xs := ?xs) (ys := ?ys) ?h1 ?h2 ?_); (case h1 => exact (show L2.bD _ _ _ _ from (by walk_at "sq"))); (case h2 => exact (show L2.gm _ _ _ _ from (by walk_at "sq"))))
  | ((with_reducible refine L2.AJ (t1 := false) (t2 := false) (xs := ?xs) (ys := ?ys) ?h1 ?h2 ?_); (case h1 => exact (show L2.bD _ _ _ _ from (by walk_at "sq"))); (case h2 => exact (show L2.bD _ _ _ _ from (by walk_at "sq"))))
  | with_reducible (first | apply L2.Rv | apply L2.Ru | apply L2.RQ | apply L2.RS)
  | ((with_reducible refine L2.Np ?hp ?_); (case hp => first | assumption | decide | omega)) | ((with_reducible refine L2.Nq ?hp ?_); (case hp => first | assumption | decide | omega)) | ((with_reducible refine L2.zb ?_ ?_) <;> intro _)
  | ((with_reducible refine L2.Nr ?hp ?_); (case hp => first | assumption | decide | omega)) | ((with_reducible refine L2.EL ?_ ?_) <;> intro _)
  | ((with_reducible refine L2.zc ?hb ?_); (case hb => rfl)) | ((with_reducible refine L2.zd ?hb ?_); (case hb => rfl)) | fail)
local macro_rules | `(tactic| walk_at "go") => `(tactic| repeat' walk_at "go1")
local macro_rules | `(tactic| walk_at "goq") => `(tactic| repeat' (first | with_reducible refine L2.X3 ?_ | with_reducible refine L2.V7 ?_ | with_reducible refine L2.V8 ?_ | walk_at "go1"))
local macro_rules | `(tactic| walk_at "start") => `(tactic| try dsimp only [L2.tW, L2.Cx.B4, L2.Cx.nj])
namespace TG
open PySem L2 PySem.Spec PyProof.Rows
variable {H H':Hp}{n i j k m:Nat}{b s x g:Int}{r:Row}{K:aA}{v:V}{vs ys xs:List V}{rs:List Row}{ps:List (Int × Int)}{p:Int × Int}{o:HO}{ms:List Nat}{t:HM.cX}{ts:List HM.cX}{f a:Addr}{φ:Heap->Prop}{kvs:dM}{ks:List HM.bf}{L:HM.bf->List HM.bf}{qs:List Int}{us:List Value}
set_option maxHeartbeats 4000000
def top(i:Nat):Stmt:=PySem.Challenge.pw_turnguard_k53_a_longest_way.main.body.getD i (.Pass ⟨0,0,0,0⟩)
abbrev sM:Stmt:=top 5
abbrev lV:Stmt:=top 6
abbrev Bc:Stmt:=top 7
abbrev Bd:Stmt:=top 8
abbrev Be:Stmt:=top 9
abbrev Gu:Stmt:=top 10
abbrev oq:Stmt:=top 11
abbrev sN:Stmt:=top 12
abbrev qF:Stmt:=top 16
abbrev sO:Stmt:=top 17
abbrev jw:Stmt:=top 18
abbrev sP:Stmt:=top 19
abbrev wz:Stmt:=top 20
abbrev sQ:Stmt:=top 21
abbrev Bf:Stmt:=top 22
abbrev wA:Stmt:=top 23
abbrev Bg:Stmt:=top 24
abbrev sR:Stmt:=top 25
abbrev qG:Stmt:=top 26
abbrev sS:Stmt:=top 28
abbrev Bh:Stmt:=top 29
abbrev sU:Stmt:=top 30
abbrev wB:Stmt:=top 31
abbrev Gv:Stmt:=top 32
abbrev Gw:Stmt:=top 33
abbrev s_row:Stmt:=top 34
abbrev Gx:Stmt:=top 35
abbrev Bj:Stmt:=top 36
abbrev lW:Stmt:=top 37
abbrev Bk:Stmt:=top 38
abbrev Gy:Stmt:=top 39
abbrev qH:Stmt:=top 40
abbrev Gz:Stmt:=top 41
abbrev wC:Stmt:=top 42
abbrev Bl:Stmt:=top 43
abbrev Bm:Stmt:=top 44
abbrev sV:Stmt:=top 45
abbrev GA:Stmt:=top 46
abbrev L8:Stmt:=top 47
theorem zR:aP ["row"] ["row"] (aB sM):=by walk_at "sc"
theorem rT:aP ["row", "part"] ["row", "part"] (aB lV):=by walk_at "sc"
theorem wD:aP ["row", "boxes"] ["row"] (aB Bc):=by walk_at "sc"
theorem GB:aP ["row"] ["row"] (aB Bd):=by walk_at "sc"
theorem qI:aP ["row", "boxes", "found", "side"] ["row", "boxes"] (aB Be):=by walk_at "sc"
theorem gA:aP ["code", "reading", "giving", "ahead", "found", "spot", "coming", "seen", "place"] ["code"] (aB Gu):=by walk_at "sc"
theorem gB:aP ["lists", "found", "some", "thing"] ["lists"] (aB oq):=by walk_at "sc"
theorem gR:aP ["code", "found", "place", "row", "way"] ["code"] (aB sN):=by walk_at "sc"
theorem iz:aP ["row", "things", "lively", "taken", "given", "onward"] ["row", "things", "lively"] (aB qF):=by walk_at "sc"
theorem kW:aP ["onward", "things", "lively", "found", "way"] ["onward", "things", "lively"] (aB sO):=by walk_at "sc"
theorem iX:aP ["row", "thing", "taken", "given", "found"] ["row", "thing", "taken", "given"] (aB jw):=by walk_at "sc"
theorem dY:aP ["code", "lively", "found", "place", "row", "things", "thing", "later"] ["code"] (aB sP):=by walk_at "sc"
theorem CW:aP ["code"] ["code"] (aB wz):=by walk_at "sc"
theorem qJ:aP ["later", "found"] ["later"] (aB sQ):=by walk_at "sc"
theorem gS:aP ["later", "earlier", "waiting", "ready", "found", "harm", "other"] ["later"] (aB Bf):=by walk_at "sc"
theorem j3:aP ["later", "found", "harm", "other"] ["later"] (aB wA):=by walk_at "sc"
theorem wF:aP ["code", "found"] ["code"] (aB Bg):=by walk_at "sc"
theorem kX:aP ["code", "later", "found"] ["code"] (aB sR):=by walk_at "sc"
theorem iY:aP ["later", "found", "most", "coming", "way", "harm"] ["later", "found", "most"] (aB qG):=by walk_at "sc"
theorem zS:aP ["_law_script", "_law_k"] ["_law_script", "_law_k"] (aB sS):=by walk_at "sc"
theorem wG:aP ["_law_cell", "_law_k", "_law_number"] ["_law_cell", "_law_k"] (aB Bh):=by walk_at "sc"
theorem gT:aP ["_law_script", "_law_many_here", "_law_found", "_law_k", "_law_cell", "_law_number"] ["_law_script", "_law_many_here"] (aB sU):=by walk_at "sc"
theorem j4:aP ["_law_number", "_law_found", "_law_k"] ["_law_number"] (aB wB):=by walk_at "sc"
theorem uE:aP ["_law_script", "_law_most", "_law_cell"] ["_law_script", "_law_most"] (aB Gv):=by walk_at "sc"
theorem J0:aP ["_law_cell", "_law_p", "_law_many_here", "_law_way"] ["_law_cell", "_law_p", "_law_many_here", "_law_way"] (aB Gw):=by walk_at "sc"
theorem jo:aP ["_law_cell", "_law_p", "_law_many_here", "_law_pool_here", "_law_way", "_law_kind", "_law_side", "_law_rest", "_law_k", "_law_i", "_law_j", "_law_q", "_law_value_of"] ["_law_cell", "_law_p", "_law_many_here", "_law_pool_here", "_law_way"] (aB s_row):=by walk_at "sc"
theorem uF:aP ["_law_script", "_law_many_here", "_law_way", "_law_pool_here", "_law_numbers_here"] ["_law_script", "_law_many_here", "_law_way"] (aB Gx):=by walk_at "sc"
theorem GC:aP ["_law_row_here"] ["_law_row_here"] (aB Bj):=by walk_at "sc"
theorem rV:aP ["_law_row_here"] ["_law_row_here"] (aB lW):=by walk_at "sc"
theorem GD:aP ["_law_row_here", "_law_side"] ["_law_row_here", "_law_side"] (aB Bk):=by walk_at "sc"
theorem J3:aP ["_law_row_here", "_law_side"] ["_law_row_here", "_law_side"] (aB Gy):=by walk_at "sc"
theorem bB:aP ["_law_code_here", "_law_found", "_law_side", "_law_alive", "_law_changed", "_law_p", "_law_mask", "_law_q", "_law_given_here", "_law_box", "_law_rows"] ["_law_code_here"] (aB qH):=by walk_at "sc"
theorem lX:aP ["_law_row_here", "_law_thing", "_law_side", "_law_box", "_law_given_here", "_law_found"] ["_law_row_here", "_law_thing"] (aB Gz):=by walk_at "sc"
theorem j5:aP ["_law_code_here", "_law_alive", "_law_harm", "_law_found", "_law_q", "_law_thing"] ["_law_code_here", "_law_alive", "_law_harm"] (aB wC):=by walk_at "sc"
theorem qK:aP ["_law_code_here", "_law_alive", "_law_found", "_law_p"] ["_law_code_here", "_law_alive"] (aB Bl):=by walk_at "sc"
theorem GF:aP ["_law_found"] ["_law_found"] (aB Bm):=by walk_at "sc"
theorem zT:aP ["_law_found"] ["_law_found"] (aB sV):=by walk_at "sc"
theorem J4:aP ["_law_cell"] ["_law_cell"] (aB GA):=by walk_at "sc"
theorem jO:aP ["_law_script", "_law_head", "_law_code_here", "_law_found", "_law_many_here", "_law_alive", "_law_k", "_law_kept"] ["_law_script"] (aB L8):=by walk_at "sc"
abbrev bQ:Addr:=137
set_option genInjectivity false in
set_option genSizeOf false in
set_option genSizeOfSpec false in
structure Bo (w:World) (K:aA) (mg:Str->Option Value) where
 oZ:Addr
 Bp:mg "PARTS" = some (.ref oZ)
 lY:Addr
 wH:gj K lY [.str "side", .str "box", .str "value", .str "place"]
 lZ:Addr
 wI:gj K lZ [.str "side", .str "box", .str "box", .str "place"]
 l0:Addr
 wJ:gj K l0 [.str "side", .str "sign", .str "box", .str "box", .str "box", .str "place"]
 l6:Addr
 wK:gj K l6 [.str "box", .str "place"]
 l7:Addr
 wL:gj K l7 [.str "box", .str "place", .str "place"]
 l8:Addr
 wM:gj K l8 [.str "box", .str "place"]
 l9:Addr
 wN:gj K l9 [.str "place"]
 mh:Addr
 wO:gj K mh [.str "box"]
 Bq:vG w K oZ [(.inr "num", .ref lY),(.inr "copy", .ref lZ),(.inr "op", .ref l0),(.inr "out", .ref l6),(.inr "fork", .ref l7),(.inr "look", .ref l8),(.inr "mark", .ref l9),(.inr "back", .ref mh)]
set_option genInjectivity false in
set_option genSizeOf false in
set_option genSizeOfSpec false in
structure Txt (w:World) (K:aA) (mg:Str->Option Value) where
 mq:DD K mg "ways_of" sM ["row"]
 f9:DD K mg "numbers_of" lV ["row", "part"]
 reads:DD K mg "reads" Bc ["row"]
 gives:DD K mg "gives" Bd ["row"]
 wQ:DD K mg "spots" Be ["row", "boxes"]
 live:DD K mg "live" Gu ["code"]
 j6:DD K mg "each_once" oq ["lists"]
 leading:DD K mg "leading" sN ["code"]
 mw:DD K mg "lasts_by" qF ["row", "things", "lively"]
 o4:DD K mg "at_ways" sO ["onward", "things", "lively"]
 gf:DD K mg "things_behind" jw ["row", "thing", "taken", "given"]
 mz:DD K mg "lasting" sP ["code"]
 uG:DD K mg "delays" wz ["code"]
 mD:DD K mg "lengths" sQ ["later"]
 ended:DD K mg "ended" Bf ["later"]
 turned:DD K mg "turned" wA ["later"]
 delay:DD K mg "delay" Bg ["code"]
 longest:DD K mg "longest" sR ["code"]
 nO:DL K mg "way_of" qG ["later", "found", "most"] bQ
 iA:DD K mg "_law_cell_at" sS ["_law_script", "_law_k"]
 mixed:DD K mg "_law_mixed" Bh ["_law_cell", "_law_k"]
 numbers:DD K mg "_law_numbers" sU ["_law_script", "_law_many_here"]
 spread:DD K mg "_law_spread" wB ["_law_number"]
 pool:DD K mg "_law_pool" Gv ["_law_script", "_law_most"]
 goes:DD K mg "_law_goes" Gw ["_law_cell", "_law_p", "_law_many_here", "_law_way"]
 row:DD K mg "_law_row" s_row ["_law_cell", "_law_p", "_law_many_here", "_law_pool_here", "_law_way"]
 code:DD K mg "_law_code" Gx ["_law_script", "_law_many_here", "_law_way"]
 wR:DD K mg "_law_leads" Bj ["_law_row_here"]
 jq:DD K mg "_law_boxes_read" lW ["_law_row_here"]
 given:DD K mg "_law_given" Bk ["_law_row_here", "_law_side"]
 read:DD K mg "_law_read" Gy ["_law_row_here", "_law_side"]
 mE:DD K mg "_law_live" qH ["_law_code_here"]
 left:DD K mg "_law_left" Gz ["_law_row_here", "_law_thing"]
 behind:DD K mg "_law_behind" wC ["_law_code_here", "_law_alive", "_law_harm"]
 Br:DD K mg "_law_harms" Bl ["_law_code_here", "_law_alive"]
 whole:DD K mg "_law_whole" Bm ["_law_found"]
 o5:DD K mg "_law_is_harm" sV ["_law_found"]
 many:DD K mg "_law_many" GA ["_law_cell"]
 law:DD K mg "law" L8 ["_law_script"]
 Tz:mg "all" = none
 O3:mg "bool" = none
 GG:mg "dict" = none
 iB:mg "enumerate" = none
 Bs:mg "int" = none
 fM:mg "isinstance" = none
 iC:mg "len" = none
 uH:mg "list" = none
 GH:mg "max" = none
 TF:mg "min" = none
 eO:mg "range" = none
 zU:mg "reversed" = none
 GI:mg "set" = none
 jP:mg "sorted" = none
 aal:mg "str" = none
 Bt:mg "tuple" = none
 Ma:mg "zip" = none
 X4:CI mg "BOTH" 2
 mF:CT K mg "DEEDS" [.str "num", .str "copy", .str "op"]
 iO:CT K mg "ENDS_OF_MARKS" [.str "mark", .str "out", .str "back"]
 iP:CT K mg "ENDS_OF_SPOTS" [.str "look", .str "out", .str "back"]
 fN:Bo w K mg
 GJ:CT K mg "SIDES" [.int 0,.int 1]
def fU(H H':Hp):Prop:=∀ b xs,H b=some (.tup xs)->H' b=some (.tup xs)
theorem sT(e:aE H H'):fU H H':=λ b xs h=>e b _ h
theorem fU.refl(H:Hp):fU H H:=λ _ _ h=>h
theorem fU.trans{H1 H2:Hp}(a:fU H H1)(b:fU H1 H2):fU H H2:=λ c o h=>b c o (a c o h)
theorem ck(h:n < 100000):n < sizeLine:=cg h (by decide)
theorem zV{α:Type}{xs:List α}{i:Int}(h0:0 <= i)(h1:i < xs.length):∃ v,rN xs i=some v /\ v∈xs:=by
 have e:i=((i.toNat:Nat):Int):=by omega
 have h2:i.toNat < xs.length:=by omega
 refine ⟨xs[i.toNat],?_,gn h2⟩
 have q:rN xs ((i.toNat:Nat):Int)=some xs[i.toNat]:=cJ (by simp [h2])
 rw [<- e] at q
 exact q
theorem uI{ns:List Int}{i:Int}(h0:0 <= i)(h1:i < ns.length):∃ v,rN (ns.map V.int) i=some (.int v):=by
 obtain ⟨v,e,m⟩:=zV (xs:=ns.map V.int) h0 (by simpa using h1)
 obtain ⟨n,_,rfl⟩:=aG.mp m
 exact ⟨n,e⟩
theorem wU{ns:List Int}{i:Int}(h0:0 <= i)(h1:i < ns.length):∃ v,rN (ns.map V.int) i=some (.int v) /\ v∈ns:=by
 obtain ⟨v,e,m⟩:=zV (xs:=ns.map V.int) h0 (by simpa using h1)
 obtain ⟨n,hn,rfl⟩:=aG.mp m
 exact ⟨n,e,hn⟩
theorem dB{a:Int}(h:0 < b):0 <= a % b /\ a % b < b:=⟨Int.emod_nonneg _ (by omega),Int.emod_lt_of_pos _ h⟩
def TH(K:aA):Sp:=λ vs H Q _=>∃ (a:Addr) (ns:List Int),vs=[.ref a] /\ bD K H a (ns.map V.int) /\ ns.length <= 63 /\ ∀ H',Q (.bl true) H'
inductive Row where
 | num (d k v q:Int) | copy (d k i q:Int) | op (d:Int) (s:Str) (k i j q:Int) | out (i q:Int) | fork (i q p:Int) | look (i q:Int) | mark (q:Int) | back (i:Int)
def Row.key:Row->Str
 | .num .. => "num" | .copy .. => "copy" | .op .. => "op" | .out .. => "out" | .fork .. => "fork" | .look .. => "look" | .mark .. => "mark" | .back .. => "back"
def Row.parts:Row->List Str
 | .num ..=>["side", "box", "value", "place"] | .copy ..=>["side", "box", "box", "place"] | .op ..=>["side", "sign", "box", "box", "box", "place"] | .out ..=>["box", "place"]
 | .fork ..=>["box", "place", "place"] | .look ..=>["box", "place"] | .mark ..=>["place"] | .back ..=>["box"]
def Row.rest:Row->List V
 | .num d k v q=>[.int d,.int k,.int v,.int q] | .copy d k i q=>[.int d,.int k,.int i,.int q] | .op d s k i j q=>[.int d,.str s,.int k,.int i,.int j,.int q]
 | .out i q=>[.int i,.int q] | .fork i q p=>[.int i,.int q,.int p] | .look i q=>[.int i,.int q] | .mark q=>[.int q] | .back i=>[.int i]
def Row.GK:Row->List PyData
 | .num d k v q=>[.int d,.int k,.int v,.int q] | .copy d k i q=>[.int d,.int k,.int i,.int q] | .op d s k i j q=>[.int d,.str s,.int k,.int i,.int j,.int q]
 | .out i q=>[.int i,.int q] | .fork i q p=>[.int i,.int q,.int p] | .look i q=>[.int i,.int q] | .mark q=>[.int q] | .back i=>[.int i]
def Row.vals(r:Row):List V:=.str r.key :: r.rest
def Row.data(r:Row):PyData:=.tuple (.str r.key :: r.GK)
def Row.ways:Row->List Int
 | .num _ _ _ q=>[q] | .copy _ _ _ q=>[q] | .op _ _ _ _ _ q=>[q] | .out _ q=>[q] | .fork _ q p=>[q,p] | .look _ q=>[q] | .mark q=>[q] | .back _=>[]
def signs:List Str:=["+", "-", "*", "/", "<", "=", "&", "|", "^"]
def uJ(d:Int):Prop:=0 <= d /\ d < 3
def iD(d:Int):Prop:=0 <= d /\ d < 8
def isVal(d:Int):Prop:=0 <= d /\ d < 281474976710656
def uK(n d:Int):Prop:=0 <= d /\ d < n
def Row.ok(n:Int):Row->Prop
 | .num d k v q=>uJ d /\ iD k /\ isVal v /\ uK n q
 | .copy d k i q=>uJ d /\ iD k /\ iD i /\ uK n q
 | .op d s k i j q=>uJ d /\ s∈signs /\ iD k /\ iD i /\ iD j /\ uK n q
 | .out i q=>iD i /\ uK n q
 | .fork i q p=>iD i /\ uK n q /\ uK n p
 | .look i q=>iD i /\ uK n q
 | .mark q=>uK n q
 | .back i=>iD i
theorem Row.iE{n:Int}(h:r.ok n):∀ q∈r.ways,0 <= q /\ q < n:=by
 cases r <;> simp only [Row.ok] at h <;> simp only [Row.ways,aJ,fF,or_false] <;> intro q hq
 ·rw [hq]; exact h.2.2.2
 ·rw [hq]; exact h.2.2.2
 ·rw [hq]; exact h.2.2.2.2.2
 ·rw [hq]; exact h.2
 ·rcases hq with e | e <;> rw [e]
  ·exact h.2.1
  ·exact h.2.2
 ·rw [hq]; exact h.2
 ·rw [hq]; exact h
 ·exact hq.elim
theorem Row.iZ(r:Row):r.ways.length <= 2:=by cases r <;> simp [Row.ways]
theorem Row.J5(r:Row):oG K H r.vals (.str r.key :: r.GK):=by
 refine .cons (.str _) ?_
 cases r <;> simp only [Row.rest,Row.GK] <;> repeat (first | exact oG.nil | refine oG.cons (by first | exact .int _ | exact .str _) ?_)
def qL(H:Hp)(v:V)(r:Row):Prop:=∃ a,v=.ref a /\ H a=some (.tup r.vals)
abbrev Rows(H:Hp):List V->List Row->Prop:=Paired (qL H)
theorem qL.same(e:aE H H')(h:qL H v r):qL H' v r:=let ⟨a,e1,e2⟩:=h; ⟨a,e1,e _ _ e2⟩
theorem qL.jQ(e:fU H H')(h:qL H v r):qL H' v r:=let ⟨a,e1,e2⟩:=h; ⟨a,e1,e _ _ e2⟩
theorem Rows.same(e:aE H H')(h:Rows H vs rs):Rows H' vs rs:=cj (λ _ _ q=>q.same e) h
theorem Rows.jQ(e:fU H H')(h:Rows H vs rs):Rows H' vs rs:=cj (λ _ _ q=>q.jQ e) h
theorem aW{α β:Type}{F:α->β->Prop}:∀ {xs:List α} {ys:List β},Paired F xs ys->∀ {i:Nat} {x:α},xs[i]? = some x->∃ y,ys[i]? = some y /\ F x y
 | _,_,.nil,i,x,h=>by simp at h
 | _,_,.cons a t,0,x,h=>by simp at h; subst h; exact ⟨_,rfl,a⟩
 | _,_,.cons a t,i + 1,x,h=>by
  obtain ⟨y,h1,h2⟩:=aW t (i:=i) (x:=x) (by simpa using h)
  exact ⟨y,by simpa using h1,h2⟩
theorem Rows.rd:∀ {vs:List V} {rs:List Row},Rows H vs rs->oG K H vs (rs.map Row.data)
 | _,_,.nil=>.nil
 | _,_,.cons h t=>by
  obtain ⟨a,rfl,e⟩:=h
  exact .cons (.tup (gm.of e) (Row.J5 _)) (Rows.rd t)
theorem sW{α:Type}{xs:List α}(hn:xs.Nodup){a:α}(hi:xs[i]? = some a)(hj:xs[j]? = some a):i=j:=by
 obtain ⟨h1,e1⟩:=fu hi
 obtain ⟨h2,e2⟩:=fu hj
 have q:=jd.mp hn
 rcases Nat.lt_trichotomy i j with h | h | h
 ·exact absurd (e1.trans e2.symm) (q i j h1 h2 h)
 ·exact h
 ·exact absurd (e2.trans e1.symm) (q j i h2 h1 h)
section
variable {P:Program}{w:World}{K:aA}{mg:Str->Option Value}{base:Heap}
def O4(K:aA):Sp:=λ vs H Q _=>∃ (a:Addr) (ns:List Int) (k:Int),vs=[.ref a,.int k] /\ bD K H a (ns.map V.int) /\ 0 <= k /\ ∀ c:Int,Q (.int c) H
theorem gU(T:Txt w K mg):bY P w K mg base gr 1 T.iA.f T.iA.d ["_law_script", "_law_k"] (O4 K):=by
 refine T.iA.F.ok zS (λ vs H Q E h=>?_) (λ cdv A outer s H vs Q E hr h=>?_)
 ·obtain ⟨a,ns,k,rfl,_⟩:=h
  rfl
 obtain ⟨a,ns,k,rfl,hS,h0,q⟩:=h
 refine ⟨_,(ai (bZ (aD lu (pv 1) (bz dG rfl T.iC BT.iy (aa (pv 0) af)) (aU _))
 (aq (aI (aR cK (pv 0) (pv 1) (λ _ _=>rfl))))
 aX)
 (aq (aI ak))),?_⟩
 have hl:(ns.map V.int).length=ns.length:=au _
 show (_:TS) (Ends.mk _ _ _ _) [_,_] H
 walk_at "start"
 walk_at "go"
 ·obtain ⟨v0,hv0⟩:=uI (ns:=ns) (i:=k) (by omega) (by omega)
  refine dz hS hv0 ?_
  exact q _
 ·exact q _
def J6:Sp:=λ vs H Q _=>∃ (n k:Int),vs=[.int n,.int k] /\ ∀ c,0 <= c->c < 2147483587->Q (.int c) H
theorem wV(T:Txt w K mg):bY P w K mg base gr 1 T.mixed.f T.mixed.d ["_law_cell", "_law_k"] J6:=by
 refine T.mixed.F.ok wG (λ vs H Q E h=>?_) (λ cdv A outer s H vs Q E hr h=>?_)
 ·obtain ⟨n,k,rfl,_⟩:=h
  rfl
 obtain ⟨n,k,rfl,q⟩:=h
 refine ⟨_,(ai (aN (i:=2) wG.nd rfl (ay rfl) (aL cz (aL dj (aL dj (aL iM (aL cz (pv 0) ak) (aL dj ak (aL iM ak (pv 1)))) (aL iM ak (pv 1))) ak) ak))
 (aq (aI (aL cz (aL iM (pv 2) (pv 2)) ak)))),?_⟩
 show (_:TS) (Ends.mk _ _ _ _) [_,_,_] H
 walk_at "start"
 walk_at "go"
 exact q _ (dB (by decide)).1 (dB (by decide)).2
def GL:Sp:=λ vs H Q _=>∃ (n:Int),vs=[.int n] /\ ∀ c,Q (.int c) H
theorem CY(T:Txt w K mg):bY P w K mg base gr 2 T.spread.f T.spread.d ["_law_number"] GL:=by
 refine T.spread.F.ok j4 (λ vs H Q E h=>?_) (λ cdv A outer s H vs Q E hr h=>?_)
 ·obtain ⟨n,rfl,_⟩:=h
  rfl
 obtain ⟨n,rfl,q⟩:=h
 refine ⟨_,(ai (aN (i:=1) j4.nd rfl (ay rfl) ak)
 (ai (cM bJ rfl (dF rfl T.eO (aa ak af)) (bg (i:=2) j4.nd rfl (ay rfl))
 (aq (aN (i:=1) j4.nd rfl (ay rfl) (aL dj (aL iM (pv 1) ak) (bw T.mixed (wV T) hr (aa (pv 0) (aa (pv 2) af)))))))
 (aq (aI (pv 1))))),?_⟩
 show (_:TS) (Ends.mk _ _ _ _) [_,_,_] H
 walk_at "start"
 walk_at "go"
 refine lF (λ i σ' H'=>H'=H /\ ∃ (m:Int) (x:Option V),σ'=[some (.int n),some (.int m),x]) ?_ ?_ ?_
 ·exact ⟨rfl,_,_,rfl⟩
 ·rintro i σ' H' hi ⟨rfl,m,x,rfl⟩
  walk_at "go"
  refine ⟨n,_,rfl,λ c c0 c1=>?_⟩
  walk_at "go"
  exact ⟨rfl,_,_,rfl⟩
 ·rintro σ' H' ⟨rfl,m,x,rfl⟩
  walk_at "go"
  exact q _
theorem GN{k:Int}(h0:0 <= k)(h:k < n):Em n k=some k.toNat:=by
 unfold Em
 rw [if_pos h0,if_pos h]
theorem ints_set(ms:List Int)(j:Nat)(v:Int):(ms.map V.int).set j (.int v)=(ms.set j v).map V.int:=by rw [List.map_set]
def O5(K:aA):Sp:=λ vs H Q _=>∃ (a:Addr) (ns:List Int) (n:Nat),vs=[.ref a,.int n] /\ bD K H a (ns.map V.int) /\ ns.length <= 63 /\ 0 < n /\ n <= 1000 /\
 ∀ q H' (ks:List Int),aE H H'->H' q=some (.lst (ks.map V.int))->ks.length=n->Q (.ref q) H'
theorem zW(T:Txt w K mg):bY P w K mg base gr 3 T.numbers.f T.numbers.d ["_law_script", "_law_many_here"] (O5 K):=by
 refine T.numbers.F.ok gT (λ vs H Q E h=>?_) (λ cdv A outer s H vs Q E hr h=>?_)
 ·obtain ⟨a,ns,n,rfl,_⟩:=h
  rfl
 obtain ⟨a,ns,n,rfl,hS,hn,h0,h1,q⟩:=h
 refine ⟨_,(ai (bZ (aD c9 (aL cz (bw T.iA (gU T) hr (aa (pv 0) (aa ak af))) ak) ak (aU _))
 (aq (aI (cT (bN.caps (x := "_law_k") (fr:=["_law_script"]) (ix:=[0]) (nm:=["_law_script"]) rfl rfl (by decide +kernel) rfl (by decide +kernel) rfl (by decide +kernel) ⟨rfl,trivial⟩ rfl (by decide +kernel) rfl ⟨⟨rfl,rfl,rfl⟩,trivial⟩) (dF rfl T.eO (aa (pv 1) af)) (λ _ _ _ _=>dW) (λ _ _ _ _=>(bw T.iA (gU T) hr (aa (pv 1) (aa (aL dj ak (pv 0)) af)))))))
 aX)
 (ai (lE (i:=2) gT.nd rfl (ay rfl) (bN.plain rfl (by decide +kernel) (by decide +kernel) rfl (by decide +kernel) rfl) (dF rfl T.eO (aa (pv 1) af)) (λ _ _ _ _=>dW) (λ _ _ _ _=>(aL dj (aL iM ak (pv 0)) ak)))
 (ai (cM bJ rfl (oU rfl T.iB (aa (lz tZ (pv 0) oM (oN ak)) af)) (nu (n:=2) rfl (cE (bg (i:=3) gT.nd rfl (ay rfl)) (cE (bg (i:=4) gT.nd rfl (ay rfl)) ir)))
 (ai (aN (i:=5) gT.nd rfl (ay rfl) (aL dj (aL iM (aR cK (pv 2) (aL cz (pv 3) (pv 1)) (λ _ _=>rfl)) ak) (aL cz (pv 4) ak)))
 (aq (tV (aL cz (aL dj (pv 5) (aL iM ak (pv 3))) ak) (D9 (pv 2) (aL cz (pv 3) (pv 1)) set_list)))))
 (aq (aI (cT (bN.plain rfl (by decide +kernel) (by decide +kernel) rfl (by decide +kernel) rfl) (bR (pv 2)) (λ _ _ _ _=>dW) (λ _ _ _ _=>(bw T.spread (CY T) hr (aa (pv 0) af))))))))),?_⟩
 show (_:TS) (Ends.mk _ _ _ _) [_,_,_,_,_,_] H
 walk_at "start"
 walk_at "go"
 refine ⟨a,ns,0,rfl,hS,by decide,λ c=>?_⟩
 walk_at "go"
 ·refine jZ (λ i ys H'=>H'=H /\ ∃ ks:List Int,ys=ks.map V.int /\ ks.length=i) ⟨rfl,[],rfl,rfl⟩ ?_ ?_
  ·rintro i ys H' hi ⟨rfl,ks,rfl,hk⟩
   refine ⟨ck (by rw [au]; omega),?_⟩
   walk_at "go"
   refine ⟨a,ns,_,rfl,hS,by omega,λ c3=>?_⟩
   exact ⟨rfl,ks++[_],by rw [bK]; rfl,by simp [hk]⟩
  ·rintro ys H' ⟨rfl,ks,rfl,hk⟩ p H4 n4
   exact q p H4 ks n4.same n4.self (by omega)
 ·refine jZ (λ i ys H'=>H'=H /\ ∃ ks:List Int,ys=ks.map V.int /\ ks.length=i) ⟨rfl,[],rfl,rfl⟩ ?_ ?_
  ·rintro i ys H' hi ⟨rfl,ks,rfl,hk⟩
   refine ⟨ck (by rw [au]; omega),?_⟩
   walk_at "go"
   exact ⟨rfl,ks++[_],by rw [bK]; rfl,by simp [hk]⟩
  rintro ys H' ⟨rfl,ks,rfl,hk⟩ f H4 n4
  have hk:ks.length=n:=by omega
  walk_at "go"
  rename_i c5 H5 n5
  have O6:=jJ (ns.map V.int) none (some 63)
  rw [au] at O6
  have hci:∃ ms:List Int,kO (ns.map V.int) none (some 63)=ms.map V.int:=⟨_,by unfold kO; rw [<- List.map_drop,<- List.map_take]⟩
  obtain ⟨ms,hms⟩:=hci
  rw [hms] at n5 O6 ⊢
  rw [au] at O6
  have hne:c5 ≠ f:=λ e=>by
   have h1:=n5.1
   rw [e,n4.self] at h1
   cases h1
  refine zf (xs:=ms.map V.int) (λ i σ' H6=>aE H' H6 /\ H6 c5=some (.lst (ms.map V.int)) /\ ∃ (ks:List Int) (x y z:Option V),σ'=[some (.ref a),some (.int n),some (.ref f),x,y,z] /\ H6 f=some (.lst (ks.map V.int)) /\ ks.length=n) ?_ ?_ ?_ ?_
  ·exact ⟨n4.same.trans n5.same,n5.self,ks,_,_,_,rfl,n5.keep n4.self,hk⟩
  ·rintro i σ' H6 hi ⟨sm,hc,_⟩
   exact bD.of hc
  ·rintro i x p σ' H6 H7 hx ⟨sm,hc,ks,x1,y1,z1,rfl,hf,hk⟩ n7
   rw [aY] at hx
   obtain ⟨z,hz,rfl⟩:=dg.mp hx
   have CZ:=n7.keep hf
   have b:=dB (a:=(i:Int)) (b:=(n:Int)) (by omega)
   walk_at "go"
   obtain ⟨v,hv⟩:=uI (ns:=ks) (i:=(i:Int) % (n:Int)) b.1 (by omega)
   refine dz (bD.of CZ) hv ?_
   walk_at "go"
   refine um CZ (GN b.1 (by rw [au]; omega)) ?_
   intro H8 p8
   rw [ints_set] at p8
   walk_at "go"
   exact ⟨p8.same (sm.trans n7.same) n4.1,p8.keep hne (n7.keep hc),_,_,_,_,rfl,p8.self,by rw [List.length_set]; exact hk⟩
  ·rintro σ' H6 ⟨sm,hc,ks,x1,y1,z1,rfl,hf,hk⟩
   walk_at "go"
   refine f7 (xs:=ks.map V.int) (λ i ys H7=>H7=H6 /\ ∃ ks:List Int,ys=ks.map V.int /\ ks.length=i) ⟨rfl,[],rfl,rfl⟩ ?_ ?_ ?_
   ·rintro i ys H7 hi ⟨rfl,_⟩
    exact bD.of hf
   ·rintro i x ys H7 hx ⟨rfl,ls,rfl,hl⟩
    rw [aY] at hx
    obtain ⟨z,hz,rfl⟩:=dg.mp hx
    have hi:i < ks.length:=(fu hz).1
    refine ⟨ck (by rw [au]; omega),?_⟩
    walk_at "go"
    refine ⟨z,rfl,λ c=>?_⟩
    exact ⟨rfl,ls++[_],by rw [bK]; rfl,by simp [hl]⟩
   ·rintro ys H7 ⟨rfl,ls,rfl,hl⟩ p H8 n8
    exact q p H8 ls (sm.trans n8.same) n8.self (by rw [hl,au,hk])
def O7(K:aA):Sp:=λ vs H Q _=>∃ (a:Addr) (ns:List Int) (m:Int),vs=[.ref a,.int m] /\ bD K H a (ns.map V.int) /\ 0 < m /\ m <= 1000 /\
 ∀ q H' (ks:List Int),aE H H'->H' q=some (.lst (ks.map V.int))->0 < ks.length->ks.length <= 1000->(∀ k∈ks,iD k)->Q (.ref q) H'
theorem J7(T:Txt w K mg):bY P w K mg base gr 2 T.pool.f T.pool.d ["_law_script", "_law_most"] (O7 K):=by
 refine T.pool.F.ok uE (λ vs H Q E h=>?_) (λ cdv A outer s H vs Q E hr h=>?_)
 ·obtain ⟨a,ns,n,rfl,_⟩:=h
  rfl
 obtain ⟨a,ns,m,rfl,hS,h0,h1,q⟩:=h
 refine ⟨_,(ai (aN (i:=2) uE.nd rfl (bL rfl) (bw T.iA (gU T) hr (aa (pv 0) (aa ak af))))
 (lC (bZ (aD c9 (aL cz (bw T.iA (gU T) hr (aa (pv 0) (aa ak af))) ak) ak (aU _))
 (aq (aN (i:=2) uE.nd rfl (bL rfl) (bw T.mixed (wV T) hr (aa (pv 2) (aa ak af)))))
 aX)
 (aq (aI (cT (bN.caps (x := "_law_k") (fr:=["_law_cell"]) (ix:=[2]) (nm:=["_law_cell"]) rfl rfl (by decide +kernel) rfl (by decide +kernel) rfl (by decide +kernel) ⟨rfl,trivial⟩ rfl (by decide +kernel) rfl ⟨⟨rfl,rfl,rfl⟩,trivial⟩) (dF rfl T.eO (aa (aL dj ak (aL cz (pv 2) (pv 1))) af)) (λ _ _ _ _=>dW) (λ _ _ _ _=>(aL cz (aL dj (aL eK (pv 1) ak) (aL iM ak (pv 0))) ak))))))),?_⟩
 show (_:TS) (Ends.mk _ _ _ _) [_,_,_] H
 walk_at "start"
 walk_at "go"
 refine ⟨a,ns,1,rfl,hS,by decide,λ c=>?_⟩
 walk_at "go"
 refine EK (λ σ' H'=>H'=H /\ ∃ c:Int,σ'=[some (.ref a),some (.int m),some (.int c)]) ?_ ?_
 ·walk_at "go"
  refine ⟨a,ns,0,rfl,hS,by decide,λ c0=>?_⟩
  walk_at "go"
  ·refine ⟨c,_,rfl,λ c2 _ _=>?_⟩
   walk_at "go"
   exact ⟨rfl,_,rfl⟩
  ·exact ⟨rfl,_,rfl⟩
 rintro _ H' ⟨rfl,c,rfl⟩
 have b:=dB (a:=c) h0
 walk_at "go"
 refine jZ (λ i ys H1=>H1=H' /\ ∃ ks:List Int,ys=ks.map V.int /\ ks.length=i /\ ∀ k∈ks,iD k) ⟨rfl,[],rfl,rfl,λ k h=>nomatch h⟩ ?_ ?_
 ·rintro i ys H1 hi ⟨rfl,ks,rfl,hk,hb⟩
  refine ⟨ck (by rw [au]; omega),?_⟩
  walk_at "go"
  refine ⟨rfl,ks++[_],by rw [bK]; rfl,by simp [hk],λ k h=>?_⟩
  rcases aO.mp h with h | h
  ·exact hb k h
  ·rw [aC.mp h]; exact dB (by decide)
 ·rintro ys H1 ⟨rfl,ks,rfl,hk,hb⟩ p H4 n4
  exact q p H4 ks n4.same n4.self (by omega) (by omega) hb
theorem O8(h0:0 <= s)(h1:s < 9):∃ ch,rN ("+-*/<=&|^" : Str).cps.toList s=some ch /\ (⟨#[ch]⟩:Str)∈signs:=by
 obtain ⟨ch,hch,X5⟩:=zV (xs:=("+-*/<=&|^" : Str).cps.toList) (i:=s) h0 (by show s < 9; omega)
 have all:∀ ch∈("+-*/<=&|^" : Str).cps.toList,(⟨#[ch]⟩:Str)∈signs:=by decide
 exact ⟨ch,hch,all ch X5⟩
def O9:Sp:=λ vs H Q _=>∃ (c p m y:Int),vs=[.int c,.int p,.int m,.int y] /\ 0 <= p /\ p < m /\ ∀ q,uK m q->Q (.int q) H
theorem Bu(T:Txt w K mg):bY P w K mg base gr 1 T.goes.f T.goes.d ["_law_cell", "_law_p", "_law_many_here", "_law_way"] O9:=by
 refine T.goes.F.ok J0 (λ vs H Q E h=>?_) (λ cdv A outer s H vs Q E hr h=>?_)
 ·obtain ⟨c,p,m,y,rfl,_⟩:=h
  rfl
 obtain ⟨c,p,m,y,rfl,h0,h1,q⟩:=h
 refine ⟨_,(lC (bZ (PW.pt (ko (aD c9 (aL dj (pv 1) ak) (pv 2) (aU _)) (jh (PW.pt (jG (aD c9 (pv 3) ak (aU _)) (ig (aD c9 (aL cz (pv 0) ak) ak (aU _))))))))
 (aq (aI (aL cz (aL eK (pv 0) ak) (pv 2))))
 aX)
 (qf (bZ (PW.pt (jG (aD c9 (pv 3) ak (aU _)) (ig (aD c9 (aL cz (pv 0) ak) ak (aU _)))))
 (aq (aI (bz (zg rfl) rfl T.TF BT.SD (aa (aL yL (pv 2) ak) (aa (aL dj (aL dj (pv 1) ak) (aL cz (aL eK (pv 0) ak) (pv 2))) af)))))
 aX)
 (aq (aI (aL dj (pv 1) ak))))),?_⟩
 show (_:TS) (Ends.mk _ _ _ _) [_,_,_,_] H
 have b:=dB (a:=c / 4) (b:=m) (by omega)
 walk_at "start"
 refine EK (λ σ' H'=>H'=H /\ σ'=[some (.int c),some (.int p),some (.int m),some (.int y)] /\ p + 1 ≠ m) ?_ ?_
 ·walk_at "go"
  ·exact q _ b
  ·exact q _ b
  all_goals exact ⟨rfl,rfl,by assumption⟩
 ·rintro _ H' ⟨rfl,rfl,hne⟩
  walk_at "go"
  ·refine q _ ?_
   split <;> exact ⟨by omega,by omega⟩
  ·exact q _ ⟨by omega,by omega⟩
def Pa(K:aA):Sp:=λ vs H Q _=>∃ (c p m y:Int) (a:Addr) (ks:List Int),vs=[.int c,.int p,.int m,.ref a,.int y] /\ 0 <= p /\ p < m /\ m <= 1000 /\ H a=some (.lst (ks.map V.int)) /\ 0 < ks.length /\ ks.length <= 1000 /\ (∀ k∈ks,iD k) /\ ∀ q H' r,aE H H'->H' q=some (.tup (Row.vals r))->r.ok m->Q (.ref q) H'
theorem Pb(T:Txt w K mg):bY P w K mg base gr 2 T.row.f T.row.d ["_law_cell", "_law_p", "_law_many_here", "_law_pool_here", "_law_way"] (Pa K):=by
 refine T.row.F.ok jo (λ vs H Q E h=>?_) (λ cdv A outer s H vs Q E hr h=>?_)
 ·obtain ⟨c,p,m,y,a,ks,rfl,_⟩:=h
  rfl
 obtain ⟨c,p,m,y,a,ks,rfl,h0,h1,hm,ha,hk0,hk1,hb,q⟩:=h
 refine ⟨_,(ai (aN (i:=5) jo.nd rfl (ay rfl) (aL cz (pv 0) ak))
 (ai (aN (i:=6) jo.nd rfl (ay rfl) (aR br (cF (aa ak (aa ak (aa ak (aa ak af))))) (aL cz (aL eK (pv 0) ak) ak) (λ _ _=>rfl)))
 (ai (aN (i:=7) jo.nd rfl (bL rfl) (aL eK (pv 0) ak))
 (ai (tV (cT (bN.caps (x := "_law_x") (fr:=["_law_pool_here", "_law_rest"]) (ix:=[3,7]) (nm:=["_law_rest", "_law_pool_here"]) rfl rfl (by decide +kernel) rfl (by decide +kernel) rfl (by decide +kernel) ⟨rfl,⟨rfl,trivial⟩⟩ rfl (by decide +kernel) rfl ⟨⟨rfl,rfl,rfl⟩,⟨⟨rfl,rfl,rfl⟩,trivial⟩⟩) (dF rfl T.eO (aa ak af)) (λ _ _ _ _=>dW) (λ _ _ _ _=>(aR (iU (K:=K) rfl) (pv 1) (aL cz (aL cz (aL vA (pv 2) (aR (uo (K:=K) rfl) (cF (aa ak (aa ak (aa ak af)))) (pv 0) (λ _ _=>rfl))) ak) (bz (qg (K:=K) rfl) rfl T.iC BT.iy (aa (pv 1) af))) (λ _ _=>rfl)))) (Ni rfl (cE (bg (i:=8) jo.nd rfl (ay rfl)) (cE (bg (i:=9) jo.nd rfl (ay rfl)) (cE (bg (i:=10) jo.nd rfl (ay rfl)) ir)))))
 (ai (aN (i:=11) jo.nd rfl (ay rfl) (bw T.goes (Bu T) hr (aa (aL eK (pv 7) ak) (aa (pv 1) (aa (pv 2) (aa (pv 4) af))))))
 (ai (aN (i:=12) jo.nd rfl (ay rfl) (aL vA (pv 7) (aL iM ak ak)))
 (qf (bZ (PW.pt (ko (aD c9 (pv 5) ak (aU _)) (jh (PW.pt (jG (aD lu (pv 4) ak (aU _)) (ig (aD c9 (aL dj (pv 1) ak) (pv 2) (aU _))))))))
 (aq (aI (cF (aa bA (aa (pv 9) af)))))
 aX)
 (ai (bZ (aD lu (pv 5) ak (aU _))
 (aq (aI (cF (aa bA (aa (pv 6) (aa (pv 8) (aa (aL cz (pv 12) (aL MV ak ak)) (aa (pv 11) af))))))))
 aX)
 (ai (bZ (aD lu (pv 5) ak (aU _))
 (aq (aI (cF (aa bA (aa (pv 6) (aa (pv 8) (aa (pv 9) (aa (pv 11) af))))))))
 aX)
 (ai (bZ (aD lu (pv 5) ak (aU _))
 (aq (aI (cF (aa bA (aa (pv 6) (aa (aR Na bA (aL cz (pv 12) ak) (λ _ _=>rfl)) (aa (pv 8) (aa (pv 9) (aa (pv 10) (aa (pv 11) af))))))))))
 aX)
 (ai (bZ (aD lu (pv 5) ak (aU _))
 (aq (aI (cF (aa bA (aa (pv 9) (aa (pv 11) af))))))
 aX)
 (ai (bZ (aD lu (pv 5) ak (aU _))
 (aq (aI (cF (aa bA (aa (pv 9) (aa (pv 11) (aa (bw T.goes (Bu T) hr (aa (pv 12) (aa (pv 1) (aa (pv 2) (aa (pv 4) af))))) af)))))))
 aX)
 (ai (bZ (aD lu (pv 5) ak (aU _))
 (aq (aI (cF (aa bA (aa (pv 9) (aa (pv 11) af))))))
 aX)
 (aq (aI (cF (aa bA (aa (pv 11) af)))))))))))))))))),?_⟩
 have DY:(ks.map V.int).length=ks.length:=au _
 show (_:TS) (Ends.mk _ _ _ _) [_,_,_,_,_,_,_,_,_,_,_,_,_] H
 walk_at "start"
 walk_at "go"
 rename_i t1 H1 n1
 have bs:=dB (a:=c / 24) (b:=4) (by decide)
 obtain ⟨d,hd,md⟩:=wU (ns:=[2,2,0,1]) (i:=c / 24 % 4) bs.1 (by show _ < (4:Int); exact bs.2)
 have sd:uJ d:=by
  simp only [aJ,fF,or_false] at md
  rcases md with rfl | rfl | rfl | rfl <;> exact ⟨by decide,by decide⟩
 refine qd (gm.of n1.self) hd ?_
 walk_at "go"
 refine jZ (λ i ys H'=>aE H1 H' /\ ∃ ls:List Int,ys=ls.map V.int /\ ls.length=i /\ ∀ k∈ls,iD k) ⟨aE.refl _,[],rfl,rfl,λ k h=>nomatch h⟩ ?_ ?_
 ·rintro i ys H' hi ⟨sm,ls,rfl,hl,hlb⟩
  have hi:i < 3:=by omega
  refine ⟨ck (by rw [au]; omega),?_⟩
  have ha':=sm _ _ (n1.keep ha)
  walk_at "go"
  rename_i t2 H2 n2
  have ha2:=n2.keep ha'
  have b3:∃ g:Int,rN [V.int 1,V.int 8,V.int 64] (0 + ((i:Nat):Int))=some (.int g) /\ 0 < g /\ g <= 64:=by
   rcases i with _ | _ | _ | i
   ·exact ⟨1,rfl,by decide,by decide⟩
   ·exact ⟨8,rfl,by decide,by decide⟩
   ·exact ⟨64,rfl,by decide,by decide⟩
   ·omega
  obtain ⟨g,hg,g0,g1⟩:=b3
  refine qd (gm.of n2.self) hg ?_
  walk_at "go"
  rw [DY]
  have bb:=dB (a:=c / 96 / g % 8) (b:=(ks.length:Int)) (by omega)
  obtain ⟨v,hv,mv⟩:=wU (ns:=ks) (i:=c / 96 / g % 8 % (ks.length:Int)) bb.1 bb.2
  refine dz (bD.of ha2) hv ?_
  refine ⟨sm.trans n2.same,ls++[v],by rw [bK]; rfl,by simp [hl],λ k h=>?_⟩
  rcases aO.mp h with h | h
  ·exact hlb k h
  ·rw [aC.mp h]; exact hb v mv
 rintro ys H2 ⟨s2,ls,rfl,hl,hlb⟩ l H3 n3
 have hl3:ls.length=3:=by omega
 match ls,hl3 with
 | [k,i,j],_ =>
 have bk:=hlb k (by simp)
 have bi:=hlb i (by simp)
 have bj:=hlb j (by simp)
 have s3:aE H H3:=(n1.same.trans s2).trans n3.same
 replace n3:eE H2 l (.lst [.int k,.int i,.int j]) H3:=n3
 walk_at "go"
 refine ⟨_,p,m,y,rfl,h0,h1,λ q1 hq1=>?_⟩
 have bv:isVal ((c / 96 / (512 * 256)) % 2 ^ (48:Int).toNat):=dB (by decide)
 have b9:=dB (a:=c / 96 / (512 * 256)) (b:=9) (by decide)
 obtain ⟨ch,hch,X5⟩:=O8 b9.1 b9.2
 clear n1 s2 n3
 walk_at "go"
 all_goals first
  | (rename_i t4 H4 n4; exact q t4 H4 (.back i) (s3.trans n4.same) n4.self bi)
  | (rename_i t4 H4 n4; exact q t4 H4 (.num d k _ q1) (s3.trans n4.same) n4.self ⟨sd,bk,bv,hq1⟩)
  | (rename_i t4 H4 n4; exact q t4 H4 (.copy d k i q1) (s3.trans n4.same) n4.self ⟨sd,bk,bi,hq1⟩)
  | (rename_i t4 H4 n4; exact q t4 H4 (.out i q1) (s3.trans n4.same) n4.self ⟨bi,hq1⟩)
  | (rename_i t4 H4 n4; exact q t4 H4 (.look i q1) (s3.trans n4.same) n4.self ⟨bi,hq1⟩)
  | (rename_i t4 H4 n4; exact q t4 H4 (.mark q1) (s3.trans n4.same) n4.self hq1)
  | skip
 ·refine Lz (by decide) hch ?_
  walk_at "go"
  rename_i t4 H4 n4
  exact q t4 H4 (.op d ⟨#[ch]⟩ k i j q1) (s3.trans n4.same) n4.self ⟨sd,X5,bk,bi,bj,hq1⟩
 ·refine ⟨_,p,m,y,rfl,h0,h1,λ q2 hq2=>?_⟩
  walk_at "go"
  rename_i t4 H4 n4
  exact q t4 H4 (.fork i q1 q2) (s3.trans n4.same) n4.self ⟨bi,hq1,hq2⟩
def J8(K:aA):Sp:=λ vs H Q _=>∃ (a:Addr) (ns:List Int) (n:Nat) (y:Int),vs=[.ref a,.int n,.int y] /\ bD K H a (ns.map V.int) /\ ns.length <= 63 /\ 0 < n /\ n <= 1000 /\
 ∀ q H' us rs,aE H H'->H' q=some (.lst us)->Rows H' us rs->rs.length=n->(∀ r∈rs,Row.ok n r)->Q (.ref q) H'
theorem J9(T:Txt w K mg):bY P w K mg base gr 4 T.code.f T.code.d ["_law_script", "_law_many_here", "_law_way"] (J8 K):=by
 refine T.code.F.ok uF (λ vs H Q E h=>?_) (λ cdv A outer s H vs Q E hr h=>?_)
 ·obtain ⟨a,ns,n,y,rfl,_⟩:=h
  rfl
 obtain ⟨a,ns,n,y,rfl,hS,hn,h0,h1,q⟩:=h
 refine ⟨_,(ai (aN (i:=3) uF.nd rfl (bL rfl) (bw T.pool (J7 T) hr (aa (pv 0) (aa ak af))))
 (ai (aN (i:=4) uF.nd rfl (bL rfl) (bw T.numbers (zW T) hr (aa (pv 0) (aa (pv 1) af))))
 (aq (aI (cT (bN.caps (x := "_law_p") (fr:=["_law_many_here", "_law_way", "_law_pool_here", "_law_numbers_here"]) (ix:=[1,2,3,4]) (nm:=["_law_way", "_law_pool_here", "_law_numbers_here", "_law_many_here"]) rfl rfl (by decide +kernel) rfl (by decide +kernel) rfl (by decide +kernel) ⟨rfl,⟨rfl,⟨rfl,⟨rfl,trivial⟩⟩⟩⟩ rfl (by decide +kernel) rfl ⟨⟨rfl,rfl,rfl⟩,⟨⟨rfl,rfl,rfl⟩,⟨⟨rfl,rfl,rfl⟩,⟨⟨rfl,rfl,rfl⟩,trivial⟩⟩⟩⟩) (dF rfl T.eO (aa (pv 1) af)) (λ _ _ _ _=>dW) (λ _ _ _ _=>(bw T.row (Pb T) hr (aa (aR (iU (K:=K) rfl) (pv 4) (pv 0) (λ _ _=>rfl)) (aa (pv 0) (aa (pv 1) (aa (pv 3) (aa (pv 2) af)))))))))))),?_⟩
 show (_:TS) (Ends.mk _ _ _ _) [_,_,_,_,_] H
 walk_at "start"
 walk_at "go"
 refine ⟨a,ns,8,rfl,hS,by decide,by decide,λ p H1 ks s1 hp hk0 hk1 hkb=>?_⟩
 walk_at "go"
 refine ⟨a,ns,n,rfl,s1.seq hS,hn,h0,h1,λ c H2 cs s2 hc hcl=>?_⟩
 have hp2:=s2 _ _ hp
 walk_at "go"
 refine jZ (λ i ys H'=>aE H2 H' /\ ∃ rs:List Row,Rows H' ys rs /\ rs.length=i /\ ∀ r∈rs,r.ok n) ⟨aE.refl _,[],.nil,rfl,λ r h=>nomatch h⟩ ?_ ?_
 ·rintro i ys H' hi ⟨sm,rs,hrs,hlen,hok⟩
  have hi:i < n:=by omega
  refine ⟨ck (by rw [hrs.length]; omega),?_⟩
  walk_at "go"
  obtain ⟨v,hv⟩:=uI (ns:=cs) (i:=0 + ((i:Nat):Int)) (by omega) (by omega)
  refine dz (bD.of (sm _ _ hc)) hv ?_
  walk_at "go"
  refine ⟨v,_,_,_,p,ks,rfl,by omega,by omega,by omega,sm _ _ hp2,hk0,hk1,hkb,λ t H3 r s3 ht hr=>?_⟩
  refine ⟨sm.trans s3,rs++[r],cA (hrs.same s3) ⟨t,rfl,ht⟩,by simp [hlen],λ r' h=>?_⟩
  rcases aO.mp h with h | h
  ·exact hok r' h
  ·rw [aC.mp h]; exact hr
 ·rintro ys H' ⟨sm,rs,hrs,hlen,hok⟩ g H3 n3
  exact q g H3 ys rs (((s1.trans s2).trans sm).trans n3.same) n3.self (hrs.same n3.same) (by omega) hok
def Pc:Sp:=λ vs H Q _=>∃ (c:Int),vs=[.int c] /\ ∀ n:Nat,2 <= n->n <= 40->Q (.int n) H
theorem Ka(T:Txt w K mg):bY P w K mg base gr 1 T.many.f T.many.d ["_law_cell"] Pc:=by
 refine T.many.F.ok J4 (λ vs H Q E h=>?_) (λ cdv A outer s H vs Q E hr h=>?_)
 ·obtain ⟨c,rfl,_⟩:=h
  rfl
 obtain ⟨c,rfl,q⟩:=h
 refine ⟨_,(ai (bZ (aD c9 (aL cz (aL eK (pv 0) ak) ak) ak (aU _))
 (aq (aI (aL dj ak (aL cz (aL eK (pv 0) ak) ak))))
 aX)
 (aq (aI (aL dj ak (aL cz (aL eK (pv 0) ak) ak))))),?_⟩
 show (_:TS) (Ends.mk _ _ _ _) [_] H
 have b1:=dB (a:=c / 264) (b:=21) (by decide)
 have b2:=dB (a:=c / 3) (b:=11) (by decide)
 have nat:∀ z:Int,2 <= z->z <= 40->Q (.int z) H:=λ z h1 h2=>by
  have:=q z.toNat (by omega) (by omega)
  rwa [show ((z.toNat:Nat):Int)=z by omega] at this
 walk_at "start"
 walk_at "go"
 ·exact nat _ (by omega) (by omega)
 ·exact nat _ (by omega) (by omega)
def picks(part:Str)(xs:List Str)(ys:List V):List V:=((xs.zip ys).filter λ x=>decide (x.1=part)).map (·.2)
theorem zX{part x:Str}{y:V}{xs:List Str}(hx:xs[i]? = some x)(hy:ys[i]? = some y):picks part (xs.take (i + 1)) (ys.take (i + 1))=picks part (xs.take i) (ys.take i)++if x=part then [y] else []:=by
 have h1:i < xs.length:=(fu hx).1
 have h2:i < ys.length:=(fu hy).1
 unfold picks
 rw [bV,bV,hx,hy,List.zip_append (by rw [cu,cu]; omega),gG,bK]
 congr 1
 by_cases e:x=part
 ·simp [e]
 ·simp [e]
theorem wW(r:Row):picks "place" r.parts r.rest=r.ways.map V.int:=by cases r <;> rfl
theorem Kc(r:Row):r.rest.length=r.parts.length:=by cases r <;> rfl
theorem C0(r:Row):r.rest.length <= 6:=by cases r <;> simp [Row.rest]
theorem X6(x:V)(xs:List V):kO (x :: xs) (some 1) none=xs:=by
 unfold kO
 have e:HT.fT (x :: xs).length 0 (some 1)=1:=by
  rw [show (some (1:Int))=some ((1:Nat):Int) from rfl,HT.IF]
  simp
 rw [e,HT.Ek]
 simp
theorem GO(T:Txt w K mg)(r:Row):∃ p,iT [(.inr "num", .ref T.fN.lY),(.inr "copy", .ref T.fN.lZ),(.inr "op", .ref T.fN.l0),(.inr "out", .ref T.fN.l6),(.inr "fork", .ref T.fN.l7),(.inr "look", .ref T.fN.l8),(.inr "mark", .ref T.fN.l9),(.inr "back", .ref T.fN.mh)] (.inr r.key:Key)=some (V.ref p) /\ gj K p (r.parts.map V.str):=by
 cases r
 ·exact ⟨_,rfl,T.fN.wH⟩
 ·exact ⟨_,rfl,T.fN.wI⟩
 ·exact ⟨_,rfl,T.fN.wJ⟩
 ·exact ⟨_,rfl,T.fN.wK⟩
 ·exact ⟨_,rfl,T.fN.wL⟩
 ·exact ⟨_,rfl,T.fN.wM⟩
 ·exact ⟨_,rfl,T.fN.wN⟩
 ·exact ⟨_,rfl,T.fN.wO⟩
def C1(K:aA):Sp:=λ vs H Q _=>∃ (a:Addr) (r:Row) (part:Str),vs=[.ref a,.str part] /\ H a=some (.tup r.vals) /\ ∀ p H',aE H H'->H p=none->H' p=some (.lst (picks part r.parts r.rest))->Q (.ref p) H'
theorem iQ(T:Txt w K mg):bY P w K mg base gr 1 T.f9.f T.f9.d ["row", "part"] (C1 K):=by
 refine T.f9.F.ok rT (λ vs H Q E h=>?_) (λ cdv A outer s H vs Q E hr h=>?_)
 ·obtain ⟨a,r,part,rfl,_⟩:=h
  rfl
 obtain ⟨a,r,part,rfl,ha,q⟩:=h
 refine ⟨_,(aq (aI (EX (jk.of (xs:=["own", "number"]) (bN.caps (x := "own") (fr:=["part"]) (ix:=[1]) (nm:=["part"]) rfl rfl (by decide +kernel) rfl (by decide +kernel) rfl (by decide +kernel) ⟨rfl,trivial⟩ rfl (by decide +kernel) rfl ⟨⟨rfl,rfl,rfl⟩,trivial⟩) (by decide +kernel)) (E1 rfl T.Ma (aa (E6 T.fN.Bq (ie (v:=.ref T.fN.oZ) rfl T.fN.Bp rfl) (aR br (pv 0) ak (λ _ _=>rfl)) (λ _ _=>rfl)) (aa (lz M7 (pv 0) (oN ak) oM) af))) (λ _ _ _ _=>(AK (K:=K) rfl (n:=2) rfl (cE (bg (i:=0) (show (["own", "number", "part"]:List Str).Nodup from by decide +kernel) rfl (ay rfl)) (cE (bg (i:=1) (show (["own", "number", "part"]:List Str).Nodup from by decide +kernel) rfl (ay rfl)) ir)))) (λ _ _ _ _=>(kP (aD c9 (pv 0) (pv 2) (aU _)))) (λ _ _ _ _=>(pv 1))))),?_⟩
 obtain ⟨pp,hpp,cp⟩:=GO T r
 show (_:TS) (Ends.mk _ _ _ _) [_,_] H
 walk_at "start"
 walk_at "go"
 refine SA hpp ?_
 walk_at "go"
 rename_i t H1 n1
 have et:kO r.vals (some 1) none=r.rest:=X6 _ _
 rw [et] at n1 ⊢
 have hlen:=Kc r
 have hsm:=C0 r
 refine Oa (λ i zs τ H'=>aE H1 H' /\ zs=picks part (r.parts.take i) (r.rest.take i) /\ ∃ x y,τ=[x,y,some (.str part)]) ?_ ?_ ?_ ?_ ?_
 ·exact ⟨aE.refl _,by simp [picks],_,_,rfl⟩
 ·rintro i zs τ H' hi ⟨sm,rfl,x,y,rfl⟩
  refine ⟨gj.sq cp,gm.of (sm _ _ n1.self),?_⟩
  unfold picks
  rw [au]
  refine bE (gH _ _) ?_
  rw [List.length_zip,cu]
  omega
 ·rw [au]; omega
 ·rintro i x y p zs τ H' H2 hx hy ⟨sm,rfl,x0,y0,rfl⟩ n2
  rw [aY] at hx
  obtain ⟨x',hx',rfl⟩:=dg.mp hx
  have e:=zX (part:=part) hx' hy
  walk_at "go"
  ·rename_i he
   rw [if_pos he] at e
   exact ⟨by walk_at "same", e.symm,_,_,rfl⟩
  ·rename_i he
   rw [if_neg he,dQ] at e
   exact ⟨by walk_at "same", e.symm,_,_,rfl⟩
 ·rintro zs τ H' ⟨sm,rfl,x,y,rfl⟩ p H2 n2
  refine q p H2 (by walk_at "same") (by walk_at "free") ?_
  rw [n2.self,au,hlen,Nat.min_self,cD,<- hlen,cD]
def Pd(K:aA):Sp:=λ vs H Q _=>∃ (a:Addr) (r:Row),vs=[.ref a] /\ H a=some (.tup r.vals) /\ ∀ p H',aE H H'->H p=none->H' p=some (.lst (r.ways.map V.int))->Q (.ref p) H'
theorem qM(T:Txt w K mg):bY P w K mg base gr 2 T.mq.f T.mq.d ["row"] (Pd K):=by
 refine T.mq.F.ok zR (λ vs H Q E h=>?_) (λ cdv A outer s H vs Q E hr h=>?_)
 ·obtain ⟨a,r,rfl,_⟩:=h
  rfl
 obtain ⟨a,r,rfl,ha,q⟩:=h
 refine ⟨_,(aq (aI (bw T.f9 (iQ T) hr (aa (pv 0) (aa bA af))))),?_⟩
 show (_:TS) (Ends.mk _ _ _ _) [_] H
 walk_at "start"
 walk_at "go"
 refine ⟨a,r, "place", rfl,ha,λ p H' sm hp e=>?_⟩
 rw [wW] at e
 exact q p H' sm hp e
end
def Row.oH:Row->List Int
 | .num _ k _ _=>[k] | .copy _ k i _=>[k,i] | .op _ _ k i j _=>[k,i,j] | .out i _=>[i] | .fork i _ _=>[i] | .look i _=>[i] | .mark _=>[] | .back i=>[i]
def Row.ia:Row->Bool
 | .num ..=>true | .copy ..=>true | .op ..=>true | _=>false
def Row.sd:Row->Int
 | .num d _ _ _=>d | .copy d _ _ _=>d | .op d _ _ _ _ _=>d | _=>2
theorem sX(r:Row):picks "box" r.parts r.rest=r.oH.map V.int:=by cases r <;> rfl
theorem jR{n:Int}(h:r.ok n):∀ b∈r.oH,0 <= b /\ b < 8:=by
 cases r <;> simp only [Row.ok] at h <;> simp only [Row.oH,aJ,fF,or_false] <;> intro b hb
 ·rw [hb]; exact h.2.1
 ·rcases hb with e | e <;> rw [e]
  ·exact h.2.1
  ·exact h.2.2.1
 ·rcases hb with e | e | e <;> rw [e]
  ·exact h.2.2.1
  ·exact h.2.2.2.1
  ·exact h.2.2.2.2.1
 ·rw [hb]; exact h.1
 ·rw [hb]; exact h.1
 ·rw [hb]; exact h.1
 ·exact hb.elim
 ·rw [hb]; exact h
theorem Kd(r:Row):r.oH.length <= 3:=by cases r <;> simp [Row.oH]
abbrev bu(H:Hp):List V->List (Int × Int)->Prop:=Paired λ v p=>∃ a,v=.ref a /\ H a=some (.tup [.int p.1,.int p.2])
theorem bu.same(e:aE H H')(h:bu H vs ps):bu H' vs ps:=cj (λ _ _ ⟨a,h1,h2⟩=>⟨a,h1,e _ _ h2⟩) h
theorem bu.jQ(e:fU H H')(h:bu H vs ps):bu H' vs ps:=cj (λ _ _ ⟨a,h1,h2⟩=>⟨a,h1,e _ _ h2⟩) h
def fO(r:Row)(s:Int):Bool:=!r.ia || decide (r.sd=s) || decide (r.sd=2)
def jr(r:Row)(bs:List Int):List (Int × Int):=[0,1].flatMap λ s=>if fO r s then (SN.d9 bs).map λ b=>(s,b) else []
theorem mG(r:Row):nW (.str r.key) [.str "num", .str "copy", .str "op"]=r.ia:=by
 have k:∀ x∈(["num", "copy", "op"]:List Str),nW (.str x) [.str "num", .str "copy", .str "op"]=true:=by decide +kernel
 have n:∀ x∈(["out", "fork", "look", "mark", "back"]:List Str),nW (.str x) [.str "num", .str "copy", .str "op"]=false:=by decide +kernel
 cases r <;> first | exact k _ (by simp [Row.key]) | exact n _ (by simp [Row.key])
theorem Bv(h:r.ia=true):rN r.vals 1=some (.int r.sd):=by cases r <;> first | rfl | cases h
theorem uL(d s:Int):nW (.int d) [.int s,.int 2]=(decide (d=s) || decide (d=2)):=by
 simp only [nW,gF,List.any_nil,Bool.or_false,II]
 rw [show (s == d)=decide (d=s) from by rw [Bool.beq_comm]; rfl,show ((2:Int) == d)=decide (d=2) from by rw [Bool.beq_comm]; rfl]
theorem zY(r:Row)(bs:List Int)(h:([0,1]:List Int)[i]? = some s):(([0,1]:List Int).take (i + 1)).flatMap (λ s=>if fO r s then (SN.d9 bs).map λ b=>(s,b) else [])=(([0,1]:List Int).take i).flatMap (λ s=>if fO r s then (SN.d9 bs).map λ b=>(s,b) else [])++if fO r s then (SN.d9 bs).map λ b=>(s,b) else []:=by
 rw [bV,h,List.flatMap_append]
 simp
theorem j7(ns:List Int):(SN.d9 ns).length <= 8:=by
 unfold SN.d9
 rw [au]
 exact bE (gH ..) (by simp)
theorem eY{α β:Type}{F:α->β->Prop}:∀ {xs:List α} {ys:List β} {xs':List α} {ys':List β},Paired F xs ys->Paired F xs' ys'->Paired F (xs++xs') (ys++ys')
 | _,_,_,_,.nil,h=>h
 | _,_,_,_,.cons a t,h=>.cons a (eY t h)
section
variable {P:Program}{w:World}{K:aA}{mg:Str->Option Value}{base:Heap}
def Bw:Sp:=λ vs H Q _=>∃ (a b:Addr) (r:Row) (bs:List Int),vs=[.ref a,.ref b] /\ H a=some (.tup r.vals) /\ H b=some (.lst (bs.map V.int)) /\ (∀ n∈bs,0 <= n /\ n < 8) /\ bs.length <= 3 /\
 ∀ (l:Addr) (us:List V) (H':Hp),aE H H'->H l=none->H' l=some (.lst us)->bu H' us (jr r bs)->Q (.ref l) H'
theorem wX(T:Txt w K mg):bY P w K mg base gr 1 T.wQ.f T.wQ.d ["row", "boxes"] Bw:=by
 refine T.wQ.F.ok qI (λ vs H Q E h=>?_) (λ cdv A outer s H vs Q E hr h=>?_)
 ·obtain ⟨a,b,r,bs,rfl,_⟩:=h
  rfl
 obtain ⟨a,b,r,bs,rfl,ha,hb,DZ,Ih,q⟩:=h
 refine ⟨_,(ai (aN (i:=2) qI.nd rfl (ay rfl) (bT af))
 (ai (cM bJ rfl (MQ (ie (v:=.ref T.GJ.a) rfl T.GJ.c rfl)) (bg (i:=3) qI.nd rfl (bL rfl))
 (aq (bZ (PW.pt (ko (aD fH (aR br (pv 0) ak (λ _ _=>rfl)) (ie (v:=.ref T.mF.a) rfl T.mF.c rfl) (by with_unfolding_all rfl)) (jh (aD fh (aR br (pv 0) ak (λ _ _=>rfl)) (cF (aa (pv 3) (aa (ie (v:=.int 2) rfl T.X4.c ⟨_,rfl⟩) af))) (by with_unfolding_all rfl)))))
 (aq (di (iu cQ kZ k6 iS (pv 2) (aa (cT (bN.caps (x := "box") (fr:=["side"]) (ix:=[3]) (nm:=["side"]) rfl rfl (by decide +kernel) rfl (by decide +kernel) rfl (by decide +kernel) ⟨rfl,trivial⟩ rfl (by decide +kernel) rfl ⟨⟨rfl,rfl,rfl⟩,trivial⟩) (bR (bz (ql rfl) rfl T.jP BT.jN (aa (c7 (sH rfl) rfl T.GI BT.AE (aa (pv 1) af)) af))) (λ _ _ _ _=>dW) (λ _ _ _ _=>(cF (aa (pv 1) (aa (pv 0) af))))) af))))
 aX)))
 (aq (aI (pv 2))))),?_⟩
 show (_:TS) (Ends.mk _ _ _ _) [_,_,_,_] H
 have cd:=T.mF.q
 have cs:=T.GJ.q
 walk_at "start"
 walk_at "go"
 rename_i fo H1 n1
 have ffo:=n1.1
 have TJ:=n1.self
 have s1:=n1.same
 clear n1
 refine f_tup (xs:=[.int 0,.int 1]) (λ i σ' H'=>∃ x us,σ'=[some (.ref a),some (.ref b),some (.ref fo),x] /\ aE H H' /\ H' fo=some (.lst us) /\ bu H' us ((([0,1]:List Int).take i).flatMap λ s=>if fO r s then (SN.d9 bs).map λ b=>(s,b) else [])) ?_ ?_ ?_ ?_
 ·exact ⟨none,[],rfl,s1,TJ,.nil⟩
 ·rintro i σ' H' _ ⟨x,us,rfl,s',_⟩
  exact gj.sq cs
 ·rintro i x σ' H2 hx ⟨x0,us,rfl,s2,GP,jj⟩
  obtain ⟨s,hs,rfl⟩:∃ s,([0,1]:List Int)[i]? = some s /\ x=.int s:=by
   match i,hx with
   | 0,hx=>cases hx; exact ⟨0,rfl,rfl⟩
   | 1,hx=>cases hx; exact ⟨1,rfl,rfl⟩
  have step:=zY r bs hs
  have C2:us.length <= 16:=by
   have h1:=jj.length
   rw [h1]
   have h8:=j7 bs
   match i,hs with
   | 0,_=>exact aQ _
   | 1,_ =>
    show (([0]:List Int).flatMap _).length <= 16
    rw [List.flatMap_singleton]
    split
    ·rw [au]; omega
    ·exact aQ _
  clear TJ s1
  refine Sa ?_
  refine LO ?_
  intro Tt Tu wu qE
  have hK:∀ H',aE H2 H'->H' fo=some (.lst us)->fO r s=true->Tt H':=λ H3 s3 GQ Ke=>by
   refine wu _ ?_
   clear wu qE
   rw [Ke,if_pos rfl] at step
   have Pe:=s3 _ _ (s2 _ _ hb)
   have C3:=jj.same s3
   walk_at "go"
   refine Oz (bD.of Pe) DZ (by omega) ?_
   intro p4 H4 n4
   walk_at "go"
   refine Jv n4.self DZ ?_
   intro p5 H5 n5
   walk_at "go"
   refine f7 (xs:=(SN.d9 bs).map V.int) (λ j ys H'=>aE H5 H' /\ bu H' ys (((SN.d9 bs).take j).map λ b=>(s,b))) ⟨aE.refl _,.nil⟩ ?_ ?_ ?_
   ·rintro j ys H' _ ⟨s',_⟩
    exact bD.of (s' _ _ n5.self)
   ·rintro j x ys H6 hx ⟨s6,hys⟩
    rw [aY] at hx
    obtain ⟨y,hy,rfl⟩:=dg.mp hx
    have hyl:=hys.length
    rw [au,cu] at hyl
    have h8:=j7 bs
    refine ⟨ck (by omega),?_⟩
    walk_at "go"
    rename_i t7 H7 n7
    refine ⟨s6.trans n7.same,?_⟩
    rw [bV,hy,bK]
    exact cA (hys.same n7.same) ⟨t7,rfl,n7.self⟩
   rintro ys H6 ⟨s6,hys⟩ p7 H7 n7
   rw [au,cD] at hys
   have hyl:=hys.length
   rw [au] at hyl
   have h8:=j7 bs
   have X7:=n7.keep (s6 _ _ (n5.keep (n4.keep GQ)))
   have X8:=((n4.same.trans n5.same).trans s6).trans n7.same
   have X9:=C3.same X8
   have Pf:=hys.same n7.same
   have V9:=n7.self
   have npf:fo ≠ p7:=bx (s6 _ _ (n5.keep (n4.keep GQ))) n7.1
   have s07:=(s2.trans s3).trans X8
   clear n4 n5 s6 n7 hys C3 GQ Pe X8
   walk_at "go"
   rename_i H8 p8
   have tt:fU H7 H8:=λ b xs e=>p8.keep (pT e X7 (by intro z; cases z)) e
   refine ⟨_,_,rfl,p8.same s07 ffo,p8.self,?_⟩
   rw [step]
   exact eY (X9.jQ tt) (Pf.jQ tt)
  clear wu
  have hN:∀ H',aE H2 H'->H' fo=some (.lst us)->fO r s=false->Tu H':=λ H3 s3 GQ Ke=>by
   refine qE _ ?_
   clear qE
   rw [Ke] at step
   walk_at "go"
   refine ⟨_,_,rfl,s2.trans s3,GQ,?_⟩
   rw [step]
   simpa using jj.same s3
  clear qE jj step
  have ha2:=s2 _ _ ha
  have hdi:=mG r
  walk_at "go"
  rw [hdi]
  cases rH:r.ia with
  | false =>
   simp only [Bool.not_false,if_true]
   exact hK H2 (aE.refl _) GP (by unfold fO; rw [rH]; rfl)
  | true =>
   simp only [eT,bG,if_false]
   walk_at "go"
   refine qd (gm.of ha2) (Bv rH) ?_
   walk_at "go"
   rename_i t4 H4 n4
   have esd:nW (.int r.sd) [.int s,.int 2]=fO r s:=by rw [uL]; unfold fO; rw [rH]; rfl
   rw [esd]
   cases hsr:fO r s with
   | true=>rw [if_pos rfl]; exact hK H4 n4.same (n4.keep GP) hsr
   | false=>rw [if_neg (by decide)]; exact hN H4 n4.same (n4.keep GP) hsr
 ·rintro σ' H2 ⟨x0,us,rfl,s2,GP,jj⟩
  walk_at "go"
  exact q fo us H2 s2 ffo GP jj
def Row.zZ(r:Row):List Int:=if r.ia then r.oH.drop 1 else r.oH
def cP(r:Row):List (Int × Int):=jr r r.zZ
def bC(r:Row):List (Int × Int):=if r.ia then jr r (r.oH.take 1) else []
theorem o6:∀ b∈r.zZ,b∈r.oH:=λ b hb=>by
 unfold Row.zZ at hb
 split at hb
 ·exact List.mem_of_mem_drop hb
 ·exact hb
theorem Kf(r:Row):r.zZ.length <= 3:=by
 have:=Kd r
 unfold Row.zZ
 split
 ·rw [List.length_drop]; omega
 ·exact this
def Kg:Sp:=λ vs H Q _=>∃ (a:Addr) (r:Row) (n:Int),vs=[.ref a] /\ H a=some (.tup r.vals) /\ r.ok n /\ ∀ (l:Addr) (us:List V) (H':Hp),aE H H'->H l=none->H' l=some (.lst us)->bu H' us (cP r)->Q (.ref l) H'
theorem wY(T:Txt w K mg):bY P w K mg base gr 2 T.reads.f T.reads.d ["row"] Kg:=by
 refine T.reads.F.ok wD (λ vs H Q E h=>?_) (λ cdv A outer s H vs Q E hr h=>?_)
 ·obtain ⟨a,r,n,rfl,_⟩:=h
  rfl
 obtain ⟨a,r,n,rfl,ha,hok,q⟩:=h
 refine ⟨_,(ai (aN (i:=1) wD.nd rfl (ay rfl) (bw T.f9 (iQ T) hr (aa (pv 0) (aa bA af))))
 (aq (aI (bw T.wQ (wX T) hr (aa (pv 0) (aa (gP (aD fh (aR br (pv 0) ak (λ _ _=>rfl)) (ie (v:=.ref T.mF.a) rfl T.mF.c rfl) (by with_unfolding_all rfl)) (lz tZ (pv 1) (oN ak) oM) (pv 1)) af)))))),?_⟩
 show (_:TS) (Ends.mk _ _ _ _) [_,_] H
 have cd:=T.mF.q
 have hdi:=mG r
 walk_at "start"
 walk_at "go"
 refine ⟨a,r, "box", rfl,ha,λ p H1 s1 fp hp=>?_⟩
 rw [sX] at hp
 have ha1:=s1 _ _ ha
 have fin:∀ (c:Addr) (H2:Hp),aE H H2->H2 a=some (.tup r.vals)->H2 c=some (.lst (r.zZ.map V.int))->Bw [.ref a,.ref c] H2 Q E0:=λ c H2 s2 ha2 hc=>⟨a,c,r,r.zZ,rfl,ha2,hc,λ b hb=>jR hok b (o6 b hb),Kf r,λ l us H3 s3 fl hl jj=>q l us H3 (s2.trans s3) (s2.free fl) hl jj⟩
 walk_at "go"
 rw [hdi]
 cases rH:r.ia with
 | true =>
  rw [if_pos rfl]
  walk_at "go"
  rename_i c H2 n2
  have ec:kO (r.oH.map V.int) (some 1) none=r.zZ.map V.int:=by
   unfold Row.zZ
   rw [rH,if_pos rfl]
   cases r <;> first | rfl | cases rH
  rw [ec] at n2
  exact fin c H2 (s1.trans n2.same) (n2.keep ha1) n2.self
 | false =>
  rw [if_neg (by decide)]
  walk_at "go"
  exact fin p H1 s1 ha1 (by unfold Row.zZ; rw [rH]; exact hp)
def Kh:Sp:=λ vs H Q _=>∃ (a:Addr) (r:Row) (n:Int),vs=[.ref a] /\ H a=some (.tup r.vals) /\ r.ok n /\ ∀ (l:Addr) (us:List V) (H':Hp),aE H H'->H l=none->H' l=some (.lst us)->bu H' us (bC r)->Q (.ref l) H'
theorem wZ(T:Txt w K mg):bY P w K mg base gr 2 T.gives.f T.gives.d ["row"] Kh:=by
 refine T.gives.F.ok GB (λ vs H Q E h=>?_) (λ cdv A outer s H vs Q E hr h=>?_)
 ·obtain ⟨a,r,n,rfl,_⟩:=h
  rfl
 obtain ⟨a,r,n,rfl,ha,hok,q⟩:=h
 refine ⟨_,(aq (aI (gP (aD fh (aR br (pv 0) ak (λ _ _=>rfl)) (ie (v:=.ref T.mF.a) rfl T.mF.c rfl) (by with_unfolding_all rfl)) (bw T.wQ (wX T) hr (aa (pv 0) (aa (lz tZ (bw T.f9 (iQ T) hr (aa (pv 0) (aa bA af))) oM (oN ak)) af))) (bT af)))),?_⟩
 show (_:TS) (Ends.mk _ _ _ _) [_] H
 have cd:=T.mF.q
 have hdi:=mG r
 walk_at "start"
 walk_at "go"
 rw [hdi]
 cases rH:r.ia with
 | true =>
  rw [if_pos rfl]
  walk_at "go"
  refine ⟨a,r, "box", rfl,ha,λ p H1 s1 fp hp=>?_⟩
  rw [sX] at hp
  have ha1:=s1 _ _ ha
  walk_at "go"
  rename_i c H2 n2
  have ec:kO (r.oH.map V.int) none (some 1)=(r.oH.take 1).map V.int:=by cases r <;> rfl
  rw [ec] at n2
  refine ⟨a,c,r,r.oH.take 1,rfl,n2.keep ha1,n2.self,λ b hb=>jR hok b (List.mem_of_mem_take hb),by rw [cu]; omega,λ l us H3 s3 fl hl jj=>q l us H3 ((s1.trans n2.same).trans s3) ((s1.trans n2.same).free fl) hl ?_⟩
  unfold bC
  rw [rH]
  exact jj
 | false =>
  rw [if_neg (by decide)]
  walk_at "go"
  rename_i l H1 n1
  refine q l [] H1 n1.same n1.1 n1.self ?_
  unfold bC
  rw [rH]
  exact .nil
end
inductive dw (rs:List Row) (p:Int × Int):Nat->Prop
 | here {k:Nat} {r:Row} (h:rs[k]? = some r) (m:p∈cP r):dw rs p k
 | on {k q:Nat} {r:Row} (h:rs[k]? = some r) (m:p ∉ bC r) (w:((q:Nat):Int)∈r.ways) (l:dw rs p q):dw rs p k
theorem dw.lt{rs:List Row}{p:Int × Int}{k:Nat}(h:dw rs p k):k < rs.length:=by
 cases h with
 | here h _=>exact (fu h).1
 | on h _ _ _=>exact (fu h).1
theorem dw.read(h:dw rs p k):∃ r∈rs,p∈cP r:=by
 induction h with
 | here h m=>exact ⟨_,fS h,m⟩
 | on _ _ _ _ ih=>exact ih
theorem ou{S:Nat->Prop}(h1:∀ k r,rs[k]? = some r->p∈cP r->S k)(h2:∀ (k q:Nat) r,rs[k]? = some r->p ∉ bC r->((q:Nat):Int)∈r.ways->S q->S k):∀ k,dw rs p k->S k:=by
 intro k h
 induction h with
 | here h m=>exact h1 _ _ h m
 | on h m w _ ih=>exact h2 _ _ _ h m w ih
def isLive(rs:List Row)(k:Nat)(p:Int × Int):Bool:=@decide (dw rs p k) (Classical.propDecidable _)
theorem gW:isLive rs k p=true ↔ dw rs p k:=by unfold isLive; exact @decide_eq_true_iff _ (Classical.propDecidable _)
def bX:List (Int × Int):=[(0,0),(0,1),(0,2),(0,3),(0,4),(0,5),(0,6),(0,7),(1,0),(1,1),(1,2),(1,3),(1,4),(1,5),(1,6),(1,7)]
def jS(rs:List Row)(k:Nat):List (Int × Int):=bX.filter (isLive rs k)
theorem w4:bX.Pairwise (λ p q=>SN.rk p < SN.rk q):=by decide
theorem w5(h1:p.1=0 \/ p.1=1)(h2:0 <= p.2 /\ p.2 < 8):p∈bX:=by
 obtain ⟨a,b⟩:=p
 dsimp only at h1 h2
 have hb:b=0 \/ b=1 \/ b=2 \/ b=3 \/ b=4 \/ b=5 \/ b=6 \/ b=7:=by omega
 rcases h1 with rfl | rfl <;> rcases hb with rfl | rfl | rfl | rfl | rfl | rfl | rfl | rfl <;> decide
theorem w6{bs:List Int}(hb:∀ b∈bs,0 <= b /\ b < 8)(h:p∈jr r bs):p∈bX:=by
 unfold jr at h
 obtain ⟨s,hs,h⟩:=jD.mp h
 split at h
 ·obtain ⟨b,hb1,rfl⟩:=aG.mp h
  refine w5 ?_ (hb b ((SN.j0 hb b).mp hb1))
  simp only [aJ,fF,or_false] at hs
  exact hs
 ·exact nomatch h
theorem reads_in{n:Int}(h:r.ok n)(hp:p∈cP r):p∈bX:=w6 (λ b hb=>jR h b (o6 b hb)) hp
theorem Bx:∀ {xs ys:List (Int × Int)},xs.Pairwise (λ p q=>SN.rk p < SN.rk q)->ys.Pairwise (λ p q=>SN.rk p < SN.rk q)->(∀ p,p∈xs ↔ p∈ys)->xs=ys
 | [],[],_,_,_=>rfl
 | [],y :: ys,_,_,h=>absurd ((h y).mpr (by simp)) (by simp)
 | x :: xs,[],_,_,h=>absurd ((h x).mp (by simp)) (by simp)
 | x :: xs,y :: ys,hx,hy,h=>by
  rw [mY] at hx hy
  have e:x=y:=by
   rcases aJ.mp ((h x).mp (by simp)) with e | h1
   ·exact e
   rcases aJ.mp ((h y).mpr (by simp)) with e | h2
   ·exact e.symm
   have a1:=hy.1 x h1
   have a2:=hx.1 y h2
   omega
  subst e
  congr 1
  refine Bx hx.2 hy.2 λ p=>⟨λ hp=>?_,λ hp=>?_⟩
  ·rcases aJ.mp ((h p).mp (by simp [hp])) with e | h1
   ·have:=hx.1 p hp
    rw [e] at this
    omega
   ·exact h1
  ·rcases aJ.mp ((h p).mpr (by simp [hp])) with e | h1
   ·have:=hy.1 p hp
    rw [e] at this
    omega
   ·exact h1
theorem Kl{n:Int}(hok:∀ r∈rs,r.ok n){qs:List (Int × Int)}(hup:qs.Pairwise (λ p q=>SN.rk p < SN.rk q))(hm:∀ p,p∈qs ↔ ∃ r∈rs,p∈cP r)(k:Nat):qs.filter (isLive rs k)=jS rs k:=by
 refine Bx (hup.sublist List.filter_sublist) (w4.sublist List.filter_sublist) λ p=>?_
 rw [dS]
 unfold jS
 rw [dS]
 refine ⟨λ ⟨h1,h2⟩=>⟨?_,h2⟩,λ ⟨h1,h2⟩=>⟨(hm p).mpr (gW.mp h2).read,h2⟩⟩
 obtain ⟨r,hr,hp⟩:=(hm p).mp h1
 exact reads_in (hok r hr) hp
theorem qN(rs:List Row)(k:Nat):(jS rs k).length <= 16:=bE (gH _ _) (by decide)
theorem i0{α:Type}[DecidableEq α]:∀ {xs ys:List α},xs.Nodup->(∀ x∈xs,x∈ys)->xs.length <= ys.length
 | [],_,_,_=>aQ _
 | x :: xs,ys,h,q=>by
  rw [fZ] at h
  have hx:=q x (by simp)
  have:=i0 (ys:=ys.erase x) h.2 λ y hy=>(List.mem_erase_of_ne (λ (e:y=x)=>h.1 (by rw [<- e]; exact hy))).mpr (q y (by simp [hy]))
  rw [List.length_erase_of_mem hx] at this
  have hp:=List.length_pos_of_mem hx
  rw [dR]
  omega
theorem TL{q:Int × Int}(h:SN.rk p < SN.rk q):p ≠ q:=λ e=>by rw [e] at h; omega
theorem GR(p:Int × Int):putK (ps.map λ p=>(rJ p,V.bl true)) (rJ p) (.bl true)=(if p∈ps then ps else ps++[p]).map λ p=>(rJ p,V.bl true):=by
 have hany:((ps.map λ p=>(rJ p,V.bl true)).any λ kv=>decide (kv.1=rJ p))=decide (p∈ps):=by
  induction ps with
  | nil=>rfl
  | cons x ps ih =>
   rw [bO,gF,ih]
   by_cases e:x=p
   ·simp [e]
   ·have e1:¬ rJ x=rJ p:=λ z=>e (Jx z)
    have e2:¬ p=x:=λ z=>e z.symm
    simp [e1,e2]
 unfold putK
 rw [hany]
 by_cases h:p∈ps
 ·rw [if_pos (decide_eq_true h),if_pos h,fY]
  refine List.map_congr_left λ x _=>?_
  show (if rJ x=rJ p then (rJ x,V.bl true) else (rJ x,V.bl true))=_
  split <;> rfl
 ·rw [if_neg (by simpa using h),if_neg h,bK]
  rfl
def Led(rs:List Row)(i j:Nat)(x:Int):Prop:=∃ k r,k < i /\ x=((k:Nat):Int) /\ rs[k]? = some r /\ ((j:Nat):Int)∈r.ways
theorem Led.succ(h:rs[i]? = some r):Led rs (i + 1) j x ↔ Led rs i j x \/ (x=((i:Nat):Int) /\ ((j:Nat):Int)∈r.ways):=by
 constructor
 ·rintro ⟨k,r',h1,h2,h3,h4⟩
  by_cases e:k=i
  ·subst e
   rw [h] at h3
   cases h3
   exact .inr ⟨h2,h4⟩
  ·exact .inl ⟨k,r',by omega,h2,h3,h4⟩
 ·rintro (⟨k,r',h1,h2,h3,h4⟩ | ⟨h1,h2⟩)
  ·exact ⟨k,r',by omega,h2,h3,h4⟩
  ·exact ⟨i,r,by omega,h1,h,h2⟩
def uM(H:Hp)(rs:List Row)(as:List Addr):Prop:=∀ (j:Nat) a,as[j]? = some a->∃ l:List Int,H a=some (.lst (l.map V.int)) /\ l.length <= 2 * rs.length /\ ∀ x,x∈l ↔ Led rs rs.length j x
theorem uM.same{as:List Addr}(e:aE H H')(h:uM H rs as):uM H' rs as:=λ j a ha=>by
 obtain ⟨l,h1,h2⟩:=h j a ha
 exact ⟨l,e _ _ h1,h2⟩
section
variable {P:Program}{w:World}{K:aA}{mg:Str->Option Value}{base:Heap}
def Pg(K:aA):Sp:=λ vs H Q _=>∃ (p:Addr) (us:List V) (rs:List Row),vs=[.ref p] /\ H p=some (.lst us) /\ Rows H us rs /\ (∀ r∈rs,r.ok rs.length) /\ rs.length <= 1000 /\
 ∀ f H' (as:List Addr),aE H H'->H' f=some (.lst (as.map V.ref))->as.length=rs.length->uM H' rs as->Q (.ref f) H'
theorem z6(T:Txt w K mg):bY P w K mg base gr 3 T.leading.f T.leading.d ["code"] (Pg K):=by
 refine T.leading.F.ok gR (λ vs H Q E h=>?_) (λ cdv A outer s H vs Q E hr h=>?_)
 ·obtain ⟨p,us,rs,rfl,_⟩:=h
  rfl
 obtain ⟨p,us,rs,rfl,hp,hrs,hok,hl,q⟩:=h
 refine ⟨_,(ai (lE (i:=1) gR.nd rfl (ay rfl) (bN.plain rfl (by decide +kernel) (by decide +kernel) rfl (by decide +kernel) rfl) (bR (pv 0)) (λ _ _ _ _=>dW) (λ _ _ _ _=>(bT af)))
 (ai (cM bJ rfl (oU rfl T.iB (aa (pv 0) af)) (nu (n:=2) rfl (cE (bg (i:=2) gR.nd rfl (ay rfl)) (cE (bg (i:=3) gR.nd rfl (ay rfl)) ir)))
 (aq (cM bJ rfl (bR (bw T.mq (qM T) hr (aa (pv 3) af))) (bg (i:=4) gR.nd rfl (ay rfl))
 (aq (di (iu cQ gw gz dZ (aR cK (pv 1) (pv 4) (λ _ _=>rfl)) (aa (pv 2) af)))))))
 (aq (aI (pv 1))))),?_⟩
 have C2:=hrs.length
 show (_:TS) (Ends.mk _ _ _ _) [_,_,_,_,_] H
 walk_at "start"
 walk_at "go"
 refine f7 (xs:=us) (λ i ys H'=>aE H H' /\ ∃ as:List Addr,ys=as.map V.ref /\ as.length=i /\ as.Nodup /\ ∀ a∈as,H a=none /\ H' a=some (.lst [])) ?_ ?_ ?_ ?_
 ·exact ⟨aE.refl _,[],rfl,rfl,jc,λ a h=>nomatch h⟩
 ·rintro i ys H' hi ⟨sm,as,rfl,_⟩
  exact bD.of (sm _ _ hp)
 ·rintro i x ys H' hx ⟨sm,as,rfl,ha,hn,hh⟩
  have hi:i < us.length:=(fu hx).1
  refine ⟨ck (by rw [au]; omega),?_⟩
  walk_at "go"
  rename_i b H2 n2
  refine ⟨sm.trans n2.same,as++[b],by simp,by simp [ha],?_,λ a h=>?_⟩
  ·rw [eV]
   refine ⟨hn,by simp,λ a h c hc=>?_⟩
   rw [aC.mp hc]
   intro e
   rw [e] at h
   have:=(hh b h).2
   rw [n2.1] at this
   cases this
  ·rcases aO.mp h with h | h
   ·exact ⟨(hh a h).1,n2.keep (hh a h).2⟩
   ·rw [aC.mp h]
    exact ⟨sm.free n2.1,n2.self⟩
 rintro ys H1 ⟨sm1,as,rfl,hal,hnd,has⟩ f H2 n2
 walk_at "go"
 have Yb:f ∉ as:=λ h=>by
  have:=(has f h).2
  rw [n2.1] at this
  cases this
 have hHf:H f=none:=sm1.free n2.1
 refine zf (xs:=us) (λ i σ' H'=>aE H H' /\ H' f=some (.lst (as.map V.ref)) /\ (∃ x y z,σ'=[some (.ref p),some (.ref f),x,y,z]) /\ ∀ (j:Nat) a,as[j]? = some a->∃ l:List Int,H' a=some (.lst (l.map V.int)) /\ l.length <= 2 * i /\ ∀ x,x∈l ↔ Led rs i j x) ?_ ?_ ?_ ?_
 ·refine ⟨sm1.trans n2.same,n2.self,⟨_,_,_,rfl⟩,λ j a h=>⟨[],n2.keep (has a (fS h)).2,aQ _,λ x=>⟨λ h=>(nomatch h),λ ⟨k,_,hk,_⟩=>absurd hk (by omega)⟩⟩⟩
 ·rintro i σ' H' hi ⟨sm,_⟩
  exact bD.of (sm _ _ hp)
 ·rintro i x t σ' H' H3 hx ⟨sm,hf,⟨x0,y0,z0,rfl⟩,hL⟩ n3
  have hi:i < us.length:=(fu hx).1
  obtain ⟨r,hr',⟨ra,rfl,Yc⟩⟩:=aW hrs hx
  have Yd:H3 ra=some (.tup r.vals):=n3.keep (sm _ _ Yc)
  walk_at "go"
  refine ⟨ra,r,rfl,Yd,λ pw H4 s4 hpw e4=>?_⟩
  walk_at "go"
  have TM:=Row.iE (hok r (fS hr'))
  have hwl:=Row.iZ r
  refine f_list (xs:=r.ways.map V.int) (λ k σ' H'=>aE H H' /\ H' pw=some (.lst (r.ways.map V.int)) /\ H' f=some (.lst (as.map V.ref)) /\ (∃ z,σ'=[some (.ref p),some (.ref f),some (.int i),some (.ref ra),z]) /\
   ∀ (j:Nat) a,as[j]? = some a->∃ l:List Int,H' a=some (.lst (l.map V.int)) /\ l.length <= 2 * i + k /\ ∀ x,x∈l ↔ Led rs i j x \/ (x=((i:Nat):Int) /\ ((j:Nat):Int)∈r.ways.take k)) ?_ ?_ ?_ ?_
  ·refine ⟨(sm.trans n3.same).trans s4,e4,s4 _ _ (n3.keep hf),⟨_,rfl⟩,λ j a h=>?_⟩
   obtain ⟨l,e,hl,hm⟩:=hL j a h
   exact ⟨l,s4 _ _ (n3.keep e),by omega,λ x=>by rw [hm x]; simp⟩
  ·rintro k σ' H' hk ⟨_,e,_⟩
   exact bD.of e
  ·rintro k x σ' H5 hx ⟨Ye,hw5,qO,⟨z1,rfl⟩,Wa⟩
   have hk:k < (r.ways.map V.int).length:=(fu hx).1
   rw [au] at hk
   rw [aY] at hx
   obtain ⟨y,hy,rfl⟩:=dg.mp hx
   have Wb:=TM y (fS hy)
   have ey:y=((y.toNat:Nat):Int):=by omega
   have hj:y.toNat < as.length:=by omega
   have z7:as[y.toNat]? = some as[y.toNat]:=by simp [hj]
   generalize as[y.toNat]'hj=a at z7
   obtain ⟨l,el,TN,hm⟩:=Wa _ a z7
   walk_at "go"
   refine dz (bD.of qO) (v:=.ref a) (by rw [ey]; exact cJ (by rw [aY,z7]; rfl)) ?_
   have hml:(l.map V.int).length=l.length:=au _
   walk_at "go"
   rename_i H6 n6
   have Yg:pw ≠ a:=λ e=>by
    rw [e] at hpw
    have h2:H3 a=none:=hpw
    obtain ⟨l',e',_⟩:=hL _ a z7
    rw [n3.keep e'] at h2
    cases h2
   have Ph:f ≠ a:=λ e=>Yb (e ▸ fS z7)
   refine ⟨n6.same Ye (has a (fS z7)).1,n6.keep Yg hw5,n6.keep Ph qO,⟨_,rfl⟩,λ j b hb=>?_⟩
   rw [bV,hy]
   by_cases e:j=y.toNat
   ·subst e
    rw [z7] at hb
    cases hb
    refine ⟨l++[((i:Nat):Int)],by rw [bK]; exact n6.self,by rw [bh]; simp; omega,λ x=>?_⟩
    rw [aO,hm x,aC,aO,<- ey]
    simp only [jV,aC,or_true,and_true]
    constructor
    ·rintro ((h | h) | h)
     ·exact .inl h
     ·exact .inr h.1
     ·exact .inr h
    ·rintro (h | h)
     ·exact .inl (.inl h)
     ·exact .inr h
   ·obtain ⟨l',e',hl',hm'⟩:=Wa j b hb
    have hba:b ≠ a:=λ eb=>by
     subst eb
     exact e (sW hnd hb z7)
    refine ⟨l',n6.keep hba e',by omega,λ x=>?_⟩
    have hne:¬ ((j:Nat):Int)=y:=by omega
    rw [hm' x,aO]
    simp only [jV,aC,hne,or_false]
  ·rintro σ' H5 ⟨Ye,hw5,qO,⟨z1,rfl⟩,Wa⟩
   refine ⟨Ye,qO,⟨_,_,_,rfl⟩,λ j a h=>?_⟩
   obtain ⟨l,e,hl,hm⟩:=Wa j a h
   rw [au] at hl
   refine ⟨l,e,by omega,λ x=>?_⟩
   rw [hm x,Led.succ hr',au,cD]
 ·rintro σ' H' ⟨sm,hf,⟨x0,y0,z0,rfl⟩,hL⟩
  walk_at "go"
  refine q f H' as sm hf (by omega) λ j a h=>?_
  obtain ⟨l,e,hl,hm⟩:=hL j a h
  rw [C2] at hl hm
  exact ⟨l,e,hl,hm⟩
end
abbrev jT(H:Hp):List V->List (List (Int × Int))->Prop:=Paired λ v ps=>∃ a us,v=.ref a /\ H a=some (.lst us) /\ bu H us ps
theorem jT.same{Ii:List (List (Int × Int))}(e:aE H H')(h:jT H vs Ii):jT H' vs Ii:=cj (λ _ _ ⟨a,us,h1,h2,h3⟩=>⟨a,us,h1,e _ _ h2,h3.same e⟩) h
section
variable {P:Program}{w:World}{K:aA}{mg:Str->Option Value}{base:Heap}
def Pj:Sp:=λ vs H Q _=>∃ (p:Addr) (zs:List V) (Ii:List (List (Int × Int))),vs=[.ref p] /\ H p=some (.lst zs) /\ jT H zs Ii /\ (∀ ps∈Ii,∀ q∈ps,q∈bX) /\
 ∀ (l:Addr) (us:List V) (qs:List (Int × Int)) (H':Hp),aE H H'->H l=none->H' l=some (.lst us)->bu H' us qs->qs.Pairwise (λ p q=>SN.rk p < SN.rk q)->(∀ q,q∈qs ↔ ∃ ps∈Ii,q∈ps)->Q (.ref l) H'
theorem uN(T:Txt w K mg):bY P w K mg base gr 1 T.j6.f T.j6.d ["lists"] Pj:=by
 refine T.j6.F.ok gB (λ vs H Q E h=>?_) (λ cdv A outer s H vs Q E hr h=>?_)
 ·obtain ⟨p,zs,Ii,rfl,_⟩:=h
  rfl
 obtain ⟨p,zs,Ii,rfl,hp,hzs,hin,q⟩:=h
 refine ⟨_,(ai (aN (i:=1) gB.nd rfl (ay rfl) EB)
 (ai (cM bJ rfl (bR (pv 0)) (bg (i:=2) gB.nd rfl (ay rfl))
 (aq (cM bJ rfl (bR (pv 2)) (bg (i:=3) gB.nd rfl (ay rfl))
 (aq (Az (EE hr) (pv 1) (pv 3) kj rfl)))))
 (aq (aI (bz (zw rfl) rfl T.jP BT.jN (aa (pv 1) af)))))),?_⟩
 show (_:TS) (Ends.mk _ _ _ _) [_,_,_,_] H
 walk_at "start"
 walk_at "go"
 rename_i d H1 n1
 have fd:=n1.1
 have s1:=n1.same
 have hd1:=n1.self
 clear n1
 refine f_list (xs:=zs) (λ i σ' H'=>(∃ x y,σ'=[some (.ref p),some (.ref d),x,y]) /\ aE H H' /\ ∃ ps:List (Int × Int),H' d=some (.dT (ps.map λ p=>(rJ p,V.bl true))) /\ ps.Nodup /\ (∀ q∈ps,q∈bX) /\ ∀ q,q∈ps ↔ ∃ qs∈Ii.take i,q∈qs) ?_ ?_ ?_ ?_
 ·exact ⟨⟨_,_,rfl⟩,s1,[],hd1,jc,(λ q h=>nomatch h),λ q=>by simp⟩
 ·rintro i σ' H' _ ⟨_,s',_⟩
  exact bD.of (s' _ _ hp)
 ·rintro i x σ' H2 hx ⟨⟨x0,y0,rfl⟩,s2,ps,hd2,nd,hall,hmem⟩
  obtain ⟨qs,Ij,a,us,rfl,ha,jj⟩:=aW hzs hx
  have ha2:=s2 _ _ ha
  have Km:=jj.same s2
  have hqa:=hin qs (fS Ij)
  walk_at "go"
  refine f_list (xs:=us) (λ j σ' H'=>(∃ y,σ'=[some (.ref p),some (.ref d),some (.ref a),y]) /\ aE H H' /\ ∃ ps:List (Int × Int),H' d=some (.dT (ps.map λ p=>(rJ p,V.bl true))) /\ ps.Nodup /\ (∀ q∈ps,q∈bX) /\ ∀ q,q∈ps ↔ (∃ qs∈Ii.take i,q∈qs) \/ q∈qs.take j) ?_ ?_ ?_ ?_
  ·exact ⟨⟨_,rfl⟩,s2,ps,hd2,nd,hall,λ q=>by rw [hmem q]; simp⟩
  ·rintro j σ' H' _ ⟨_,s',_⟩
   exact bD.of (s' _ _ ha)
  ·rintro j x σ' H3 hx ⟨⟨y0,rfl⟩,s3,ps,Ig,nd,hall,hmem⟩
   obtain ⟨t,htj,b,rfl,hb⟩:=aW jj hx
   have Pe:=s3 _ _ hb
   have hpl:ps.length <= 16:=i0 nd hall
   walk_at "go"
   refine SV (k:=rJ t) Ig Pe (by rw [au]; omega) ?_
   intro H4 p4
   rw [GR] at p4
   walk_at "go"
   refine ⟨⟨_,rfl⟩,p4.same s3 fd,_,p4.self,?_,?_,λ q=>?_⟩
   ·by_cases h:t∈ps
    ·rw [if_pos h]; exact nd
    ·rw [if_neg h,eV]
     exact ⟨nd,by simp,λ x hx y hy e=>h (by rw [<- aC.mp hy,<- e]; exact hx)⟩
   ·intro q hq
    by_cases h:t∈ps
    ·rw [if_pos h] at hq; exact hall q hq
    ·rw [if_neg h] at hq
     rcases aO.mp hq with hq | hq
     ·exact hall q hq
     ·rw [aC.mp hq]; exact hqa t (fS htj)
   ·rw [bV,htj,aO]
    simp only [jV,aC]
    by_cases h:t∈ps
    ·rw [if_pos h,hmem q]
     constructor
     ·rintro (h1 | h1)
      ·exact .inl h1
      ·exact .inr (.inl h1)
     ·rintro (h1 | h1 | h1)
      ·exact .inl h1
      ·exact .inr h1
      ·rw [h1]; exact (hmem t).mp h
    ·rw [if_neg h,aO,hmem q,aC,or_assoc]
  ·rintro σ' H3 ⟨⟨y0,rfl⟩,s3,ps,Ig,nd,hall,hmem⟩
   refine ⟨⟨_,_,rfl⟩,s3,ps,Ig,nd,hall,λ q=>?_⟩
   rw [hmem q,jj.length,cD,bV,Ij]
   simp only [aO,jV,aC]
   constructor
   ·rintro (⟨Yh,h1,h2⟩ | h1)
    ·exact ⟨Yh,.inl h1,h2⟩
    ·exact ⟨qs,.inr rfl,h1⟩
   ·rintro ⟨Yh,h1 | h1,h2⟩
    ·exact .inl ⟨Yh,h1,h2⟩
    ·subst h1; exact .inr h2
 ·rintro σ' H2 ⟨⟨x0,y0,rfl⟩,s2,ps,hd2,nd,hall,hmem⟩
  have hpl:ps.length <= 16:=i0 nd hall
  walk_at "go"
  refine Jy (f:=λ _=>.bl true) hd2 (λ q hq=>?_) (by omega) λ l us qs H3 n3 jj AR hup=>?_
  ·have all:∀ q∈bX,0 <= q.2 /\ q.2 < 1000:=by decide
   exact all q (hall q hq)
  ·refine q l us qs H3 (s2.trans n3.same) (s2.free n3.1) n3.self (bu.same n3.same jj) hup λ q=>?_
   rw [AR.mem_iff,hmem q,hzs.length,cD]
end
theorem qP(x:Int):∀ ss:List Int,(iT (ss.map λ k=>((.inl k:Key),V.bl true)) (.inl x)).isSome=decide (x∈ss):=λ ss=>by
 rw [<- lB]
 induction ss with
 | nil=>rfl
 | cons y ss ih =>
  rw [bO,gF,ih]
  by_cases e:y=x
  ·simp [e]
  ·have e1:¬ (Sum.inl y:Key)=Sum.inl x:=λ z=>e (Sum.inl.inj z)
   have e2:¬ x=y:=λ z=>e z.symm
   simp [e1,e2]
theorem GS{ss:List Int}(h:x ∉ ss):putK (ss.map λ k=>((.inl k:Key),V.bl true)) (.inl x) (.bl true)=(ss++[x]).map λ k=>((.inl k:Key),V.bl true):=by
 unfold putK
 rw [lB,qP,decide_eq_false h,if_neg (by decide),bK]
 rfl
structure Apart (H5:Hp) (f l cm sn:Addr) (as:List Addr):Prop where
 c5:H5 cm=none
 n5:H5 sn=none
 a5:∀ a∈as,H5 a=none
 fc:f ≠ cm
 fs:f ≠ sn
 lc:l ≠ cm
 ls:l ≠ sn
 cs:cm ≠ sn
 ca:cm ∉ as
 sa:sn ∉ as
 fa:f ∉ as
 la:l ∉ as
 nd:as.Nodup
structure u7 (H5 H6:Hp) (f l cm sn:Addr) (as:List Addr) (us:List V) (cs ss:List Int) (g:Nat->List (Int × Int)) (H:Hp):Prop where
 s5:aE H5 H
 t6:fU H6 H
 hf:H f=some (.lst (as.map V.ref))
 hl:H l=some (.lst us)
 hc:H cm=some (.lst (cs.map V.int))
 hs:H sn=some (.dK (ss.map λ k=>(.inl k,.bl true)))
 ha:∀ (k:Nat) a,as[k]? = some a->∃ vs,H a=some (.lst vs) /\ bu H vs (g k)
section
variable {H5 H6 H H':Hp}{f l cm sn:Addr}{as:List Addr}{us:List V}{cs cs' ss:List Int}{g g':Nat->List (Int × Int)}
theorem u7.new{p:Addr}(x:u7 H5 H6 f l cm sn as us cs ss g H)(n:eE H p o H'):u7 H5 H6 f l cm sn as us cs ss g H' :=
 ⟨x.s5.trans n.same,x.t6.trans (sT n.same),n.keep x.hf,n.keep x.hl,n.keep x.hc,n.keep x.hs,λ k a e=>let ⟨vs,h1,h2⟩:=x.ha k a e; ⟨vs,n.keep h1,h2.same n.same⟩⟩
theorem u7.same(x:u7 H5 H6 f l cm sn as us cs ss g H)(n:aE H H'):u7 H5 H6 f l cm sn as us cs ss g H' :=
 ⟨x.s5.trans n,x.t6.trans (sT n),n _ _ x.hf,n _ _ x.hl,n _ _ x.hc,n _ _ x.hs,λ k a e=>let ⟨vs,h1,h2⟩:=x.ha k a e; ⟨vs,n _ _ h1,h2.same n⟩⟩
theorem u7.TQ(A:Apart H5 f l cm sn as)(x:u7 H5 H6 f l cm sn as us cs ss g H)(p:kh H cm (.lst (cs'.map V.int)) H'):u7 H5 H6 f l cm sn as us cs' ss g H':=by
 have tt:fU H H':=λ b xs e=>p.keep (pT e x.hc (by intro z; cases z)) e
 exact ⟨p.same x.s5 A.c5,x.t6.trans tt,p.keep A.fc x.hf,p.keep A.lc x.hl,p.self,p.keep A.cs.symm x.hs,λ k a e=>let ⟨vs,h1,h2⟩:=x.ha k a e; ⟨vs,p.keep (λ z=>A.ca (by rw [<- z]; exact fS e)) h1,h2.jQ tt⟩⟩
theorem u7.Yi(A:Apart H5 f l cm sn as){ss':List Int}(x:u7 H5 H6 f l cm sn as us cs ss g H)(p:kh H sn (.dK (ss'.map λ k=>(.inl k,.bl true))) H'):u7 H5 H6 f l cm sn as us cs ss' g H':=by
 have tt:fU H H':=λ b xs e=>p.keep (pT e x.hs (by intro z; cases z)) e
 exact ⟨p.same x.s5 A.n5,x.t6.trans tt,p.keep A.fs x.hf,p.keep A.ls x.hl,p.keep A.cs x.hc,p.self,λ k a e=>let ⟨vs,h1,h2⟩:=x.ha k a e; ⟨vs,p.keep (λ z=>A.sa (by rw [<- z]; exact fS e)) h1,h2.jQ tt⟩⟩
theorem u7.Yj(A:Apart H5 f l cm sn as){aj:Addr}{vj:List V}(x:u7 H5 H6 f l cm sn as us cs ss g H)(hj:as[j]? = some aj){w:List V}(hold:H aj=some (.lst w))(p:kh H aj (.lst vj) H')(hv:bu H vj (g' j))(hg:∀ k,k ≠ j->k < as.length->g' k=g k):u7 H5 H6 f l cm sn as us cs ss g' H':=by
 have mj:=fS hj
 have tt:fU H H':=λ b xs e=>p.keep (pT e hold (by intro z; cases z)) e
 refine ⟨p.same x.s5 (A.a5 aj mj),x.t6.trans tt,p.keep (λ z=>A.fa (by rw [z]; exact mj)) x.hf,p.keep (λ z=>A.la (by rw [z]; exact mj)) x.hl,p.keep (λ z=>A.ca (by rw [z]; exact mj)) x.hc,p.keep (λ z=>A.sa (by rw [z]; exact mj)) x.hs,λ k a e=>?_⟩
 by_cases ek:k=j
 ·subst ek
  rw [hj] at e
  cases e
  exact ⟨vj,p.self,hv.jQ tt⟩
 ·obtain ⟨vs,h1,h2⟩:=x.ha k a e
  refine ⟨vs,p.keep (λ z=>ek (sW A.nd e (by rw [z]; exact hj))) h1,?_⟩
  rw [hg k ek (fu e).1]
  exact h2.jQ tt
end
structure By (rs:List Row) (t:Int × Int) (cs ss:List Int):Prop where
 c1:∀ x∈cs,∃ k:Nat,x=((k:Nat):Int) /\ dw rs t k
 s1:∀ x∈ss,∃ k:Nat,x=((k:Nat):Int) /\ dw rs t k
 nd:ss.Nodup
 rd:∀ (k:Nat) r,rs[k]? = some r->t∈cP r->((k:Nat):Int)∈ss \/ ((k:Nat):Int)∈cs
 cl:∀ (k q:Nat) r,rs[k]? = some r->t ∉ bC r->((q:Nat):Int)∈r.ways->((q:Nat):Int)∈ss->((k:Nat):Int)∈ss \/ ((k:Nat):Int)∈cs
 ln:cs.length <= rs.length + ss.length * (2 * rs.length)
section
variable {rs:List Row}{t:Int × Int}{cs ss:List Int}
theorem C4{ss:List Int}(nd:ss.Nodup)(h:∀ x∈ss,∃ k:Nat,x=((k:Nat):Int) /\ k < n):ss.length <= n:=by
 have:=i0 nd (ys:=(List.range n).map λ k:Nat=>(k:Int)) λ x hx=>by
  obtain ⟨k,rfl,hk⟩:=h x hx
  exact aG.mpr ⟨k,fE.mpr hk,rfl⟩
 rw [au,List.length_range] at this
 exact this
theorem By.few(d:By rs t cs ss):ss.length <= rs.length:=C4 d.nd λ x hx=>by
 obtain ⟨k,e,h⟩:=d.s1 x hx
 exact ⟨k,e,h.lt⟩
theorem By.short(d:By rs t cs ss)(h:rs.length <= 200):cs.length <= 81000:=by
 have h1:=d.few
 have h2:=d.ln
 have h3:ss.length * (2 * rs.length) <= 200 * 400:=Nat.mul_le_mul (by omega) (by omega)
 omega
theorem By.skip(d:By rs t (cs++[x]) ss)(h:x∈ss):By rs t cs ss where
 c1:=λ y hy=>d.c1 y (by simp [hy])
 s1:=d.s1
 nd:=d.nd
 rd:=λ k r h1 h2=>by
  rcases d.rd k r h1 h2 with a | a
  ·exact .inl a
  ·rcases aO.mp a with a | a
   ·exact .inr a
   ·rw [aC.mp a]; exact .inl h
 cl:=λ k q r h1 h2 h3 h4=>by
  rcases d.cl k q r h1 h2 h3 h4 with a | a
  ·exact .inl a
  ·rcases aO.mp a with a | a
   ·exact .inr a
   ·rw [aC.mp a]; exact .inl h
 ln:=by have:=d.ln; rw [bh] at this; simp at this; omega
theorem By.step{es:List Int}(d:By rs t (cs++[x]) ss)(h:x ∉ ss)(h1:∀ y,y∈es ↔ ∃ (k j:Nat) (r:Row),y=((k:Nat):Int) /\ x=((j:Nat):Int) /\ rs[k]? = some r /\ ((j:Nat):Int)∈r.ways /\ t ∉ bC r)(h2:es.length <= 2 * rs.length):By rs t (cs++es) (ss++[x]) where
 c1:=λ y hy=>by
  rcases aO.mp hy with a | a
  ·exact d.c1 y (by simp [a])
  ·obtain ⟨k,j,r,rfl,ej,hr,hw,hg⟩:=(h1 y).mp a
   obtain ⟨j',ej',hj⟩:=d.c1 x (by simp)
   have e:j=j':=by omega
   subst e
   exact ⟨k,rfl,.on hr hg hw hj⟩
 s1:=λ y hy=>by
  rcases aO.mp hy with a | a
  ·exact d.s1 y a
  ·rw [aC.mp a]; exact d.c1 x (by simp)
 nd:=by
  rw [eV]
  exact ⟨d.nd,by simp,λ a ha b hb e=>h (by rw [<- aC.mp hb,<- e]; exact ha)⟩
 rd:=λ k r a b=>by
  rcases d.rd k r a b with c | c
  ·exact .inl (by simp [c])
  ·rcases aO.mp c with c | c
   ·exact .inr (by simp [c])
   ·exact .inl (by simp [aC.mp c])
 cl:=λ k q r a b c e=>by
  rcases aO.mp e with e | e
  ·rcases d.cl k q r a b c e with z | z
   ·exact .inl (by simp [z])
   ·rcases aO.mp z with z | z
    ·exact .inr (by simp [z])
    ·exact .inl (by simp [aC.mp z])
  ·have e:=aC.mp e
   exact .inr (aO.mpr (.inr ((h1 _).mpr ⟨k,q,r,rfl,e.symm,a,c,b⟩)))
 ln:=by
  have:=d.ln
  rw [bh] at this
  simp only [bh,fX] at this ⊢
  rw [Nat.add_mul]
  omega
theorem By.done(d:By rs t [] ss)(k:Nat):((k:Nat):Int)∈ss ↔ dw rs t k:=by
 constructor
 ·intro h
  obtain ⟨j,e,hj⟩:=d.s1 _ h
  have:k=j:=by omega
  rw [this]
  exact hj
 ·intro h
  refine ou (S:=λ k=>((k:Nat):Int)∈ss) (λ k r a b=>?_) (λ k q r a b c e=>?_) k h
  ·rcases d.rd k r a b with z | z
   ·exact z
   ·exact nomatch z
  ·rcases d.cl k q r a b c e with z | z
   ·exact z
   ·exact nomatch z
def TR(n s c:Nat):Nat:=(n - s) * (2 * n + 1) + c
theorem Pk{s c e:Nat}(hs:s < n)(he:e <= 2 * n):TR n (s + 1) (c + e) < TR n s (c + 1):=by
 unfold TR
 obtain ⟨d,hd⟩:∃ d,n - s=d + 1:=⟨n - s - 1,by omega⟩
 have h2:n - (s + 1)=d:=by omega
 rw [hd,h2,Nat.add_mul]
 omega
theorem C5{qs:List (Int × Int)}{t:Int × Int}(hi:qs[i]? = some t){ss:List Int}(h:((k:Nat):Int)∈ss ↔ dw rs t k):(qs.take (i + 1)).filter (isLive rs k)=(qs.take i).filter (isLive rs k)++if ((k:Nat):Int)∈ss then [t] else []:=by
 rw [bV,hi,gG]
 congr 1
 show [t].filter (isLive rs k)=_
 by_cases e:dw rs t k
 ·rw [if_pos (h.mpr e),mV (gW.mpr e)]
  rfl
 ·rw [if_neg (λ z=>e (h.mp z)),mU (λ z=>e (gW.mp z))]
  rfl
end
def mH(H:Hp)(as:List Addr)(rs:List Row):Prop:=∀ (k:Nat) a,as[k]? = some a->∃ us,H a=some (.lst us) /\ bu H us (jS rs k)
theorem jT.at{H:Hp}{vs:List V}{rs:List Row}{f:Row->List (Int × Int)}(h:jT H vs (rs.map f)){k:Nat}{r:Row}(e:rs[k]? = some r):∃ a us,vs[k]? = some (.ref a) /\ H a=some (.lst us) /\ bu H us (f r):=by
 have hl:=h.length
 rw [au] at hl
 have hk:k < vs.length:=by rw [hl]; exact (fu e).1
 have hv:vs[k]? = some vs[k]:=dJ hk
 obtain ⟨ps,h1,a,us,h2,h3,h4⟩:=aW h hv
 rw [aY,e] at h1
 cases h1
 exact ⟨a,us,by rw [hv,h2],h3,h4⟩
section
variable {P:Program}{w:World}{K:aA}{mg:Str->Option Value}{base:Heap}
def Pn:Sp:=λ vs H Q _=>∃ (p:Addr) (us:List V) (rs:List Row),vs=[.ref p] /\ H p=some (.lst us) /\ Rows H us rs /\ (∀ r∈rs,r.ok rs.length) /\ rs.length <= 200 /\
 ∀ (f:Addr) (as:List Addr) (H':Hp),aE H H'->H f=none->H' f=some (.lst (as.map V.ref))->as.length=rs.length->as.Nodup->(∀ a∈as,H a=none)->f ∉ as->mH H' as rs->Q (.ref f) H'
theorem Kn(T:Txt w K mg):bY P w K mg base gr 4 T.live.f T.live.d ["code"] Pn:=by
 refine T.live.F.ok gA (λ vs H Q E h=>?_) (λ cdv A outer s H vs Q E hr h=>?_)
 ·obtain ⟨p,us,rs,rfl,_⟩:=h
  rfl
 obtain ⟨p,us,rs,rfl,hp,hrs,hok,hn,q⟩:=h
 refine ⟨_,(ai (lE (i:=1) gA.nd rfl (ay rfl) (bN.plain rfl (by decide +kernel) (by decide +kernel) rfl (by decide +kernel) rfl) (bR (pv 0)) (λ _ _ _ _=>dW) (λ _ _ _ _=>(bw T.reads (wY T) hr (aa (pv 0) af))))
 (ai (aN (i:=2) gA.nd rfl (bL rfl) (cT (bN.plain rfl (by decide +kernel) (by decide +kernel) rfl (by decide +kernel) rfl) (bR (pv 0)) (λ _ _ _ _=>dW) (λ _ _ _ _=>(bw T.gives (wZ T) hr (aa (pv 0) af)))))
 (ai (aN (i:=3) gA.nd rfl (ay rfl) (bw T.leading (z6 T) hr (aa (pv 0) af)))
 (ai (lE (i:=4) gA.nd rfl (ay rfl) (bN.plain rfl (by decide +kernel) (by decide +kernel) rfl (by decide +kernel) rfl) (bR (pv 0)) (λ _ _ _ _=>dW) (λ _ _ _ _=>(bT af)))
 (ai (cM bJ rfl (bR (bw T.j6 (uN T) hr (aa (pv 1) af))) (bg (i:=5) gA.nd rfl (bL rfl))
 (ai (E9 (i:=6) gA.nd rfl (ay rfl) (jk.of (xs:=["place", "some"]) (bN.caps (x := "place") (fr:=["spot"]) (ix:=[5]) (nm:=["spot"]) rfl rfl (by decide +kernel) rfl (by decide +kernel) rfl (by decide +kernel) ⟨rfl,trivial⟩ rfl (by decide +kernel) rfl ⟨⟨rfl,rfl,rfl⟩,trivial⟩) (by decide +kernel)) (oU rfl T.iB (aa (pv 1) af)) (λ _ _ _ _=>(AK (K:=K) rfl (n:=2) rfl (cE (bg (i:=0) (show (["place", "some", "spot"]:List Str).Nodup from by decide +kernel) rfl (ay rfl)) (cE (bg (i:=1) (show (["place", "some", "spot"]:List Str).Nodup from by decide +kernel) rfl (ay rfl)) ir)))) (λ _ _ _ _=>(kP (aD ((A0 (K:=K) rfl) hr.units) (pv 2) (pv 1) (by with_unfolding_all rfl)))) (λ _ _ _ _=>(pv 0)))
 (ai (aN (i:=7) gA.nd rfl (ay rfl) EA)
 (aq (lq bJ (nC (pv 6) (λ _=>rfl))
 (ai (aN (i:=8) gA.nd rfl (ay rfl) (yR cQ PySem.F.slot_list_pop PySem.F.type_list_pop Er (pv 6)))
 (aq (bZ (ML (Cf (EE hr) (pv 8) (pv 7)))
 (ai (Az (EE hr) (pv 7) (pv 8) kj rfl)
 (ai (di (iu cQ gw gz dZ (aR cK (pv 4) (pv 8) (λ _ _=>rfl)) (aa (pv 5) af)))
 (aq (di (iu cQ kZ k6 iS (pv 6) (aa (cT (bN.caps (x := "other") (fr:=["giving", "spot"]) (ix:=[2,5]) (nm:=["spot", "giving"]) rfl rfl (by decide +kernel) rfl (by decide +kernel) rfl (by decide +kernel) ⟨rfl,⟨rfl,trivial⟩⟩ rfl (by decide +kernel) rfl ⟨⟨rfl,rfl,rfl⟩,⟨⟨rfl,rfl,rfl⟩,trivial⟩⟩) (bR (aR cK (pv 3) (pv 8) (λ _ _=>rfl))) (λ _ _ _ _=>(kP (aD ((zv (K:=K) rfl) hr.units) (pv 2) (aR (iU (K:=K) rfl) (pv 1) (pv 0) (λ _ _=>rfl)) (by with_unfolding_all rfl)))) (λ _ _ _ _=>(pv 0))) af))))))
 aX))))))))
 (aq (aI (pv 4)))))))),?_⟩
 have C2:=hrs.length
 show (_:TS) (Ends.mk _ _ _ _) [_,_,_,_,_,_,_,_,_] H
 walk_at "start"
 walk_at "go"
 refine f7 (xs:=us) (λ i ys H'=>aE H H' /\ jT H' ys ((rs.take i).map cP)) ⟨aE.refl _,.nil⟩ ?_ ?_ ?_
 ·rintro i ys H' _ ⟨s',_⟩
  exact bD.of (s' _ _ hp)
 ·rintro i x ys H1 hx ⟨s1,hys⟩
  obtain ⟨r,Ko,a,rfl,ha⟩:=aW hrs hx
  have hyl:=hys.length
  rw [au,cu] at hyl
  refine ⟨ck (by omega),?_⟩
  walk_at "go"
  refine ⟨a,r,rs.length,rfl,s1 _ _ ha,hok r (fS Ko),λ l ws H2 s2 _ hl hws=>⟨s1.trans s2,?_⟩⟩
  rw [bV,Ko,bK]
  exact cA (hys.same s2) ⟨l,ws,rfl,hl,hws⟩
 rintro rzs H1 ⟨s1,Yk⟩ rd H2 n2
 rw [C2,cD] at Yk
 have TU:=n2.self
 have TV:=Yk.same n2.same
 have s2:=s1.trans n2.same
 clear n2 s1 Yk
 have hp2:=s2 _ _ hp
 have Po:=hrs.same s2
 walk_at "go"
 refine f7 (xs:=us) (λ i ys H'=>aE H2 H' /\ jT H' ys ((rs.take i).map bC)) ⟨aE.refl _,.nil⟩ ?_ ?_ ?_
 ·rintro i ys H' _ ⟨s',_⟩
  exact bD.of (s' _ _ hp2)
 ·rintro i x ys H3 hx ⟨s3,hys⟩
  obtain ⟨r,Ko,a,rfl,ha⟩:=aW Po hx
  have hyl:=hys.length
  rw [au,cu] at hyl
  refine ⟨ck (by omega),?_⟩
  walk_at "go"
  refine ⟨a,r,rs.length,rfl,s3 _ _ ha,hok r (fS Ko),λ l ws H4 s4 _ hl hws=>⟨s3.trans s4,?_⟩⟩
  rw [bV,Ko,bK]
  exact cA (hys.same s4) ⟨l,ws,rfl,hl,hws⟩
 rintro gzs H3 ⟨s3,Yl⟩ gv H4 n4
 rw [C2,cD] at Yl
 have TX:=n4.self
 have TY:=Yl.same n4.same
 have D3:=s3.trans n4.same
 clear n4 s3 Yl
 have Ym:=D3 _ _ hp2
 have TZ:=Po.same D3
 have T3:=D3 _ _ TU
 have T4:=TV.same D3
 have s4:=s2.trans D3
 clear D3 hp2 Po TU TV s2
 walk_at "go"
 refine ⟨p,us,rs,rfl,Ym,TZ,hok,by omega,λ ah H5 Wc Pp Pq hal Yn=>?_⟩
 have hp5:=Pp _ _ Ym
 have T5:=Pp _ _ T3
 have T6:=T4.same Pp
 have Yo:=Pp _ _ TX
 have Yp:=TY.same Pp
 have s5:=s4.trans Pp
 clear Pp Ym TZ T3 T4 TX TY s4
 walk_at "go"
 refine f7 (xs:=us) (λ i ys H'=>aE H5 H' /\ ∃ as:List Addr,ys=as.map V.ref /\ as.length=i /\ as.Nodup /\ ∀ a∈as,H5 a=none /\ H' a=some (.lst [])) ⟨aE.refl _,[],rfl,rfl,jc,λ a h=>nomatch h⟩ ?_ ?_ ?_
 ·rintro i ys H' _ ⟨s',_⟩
  exact bD.of (s' _ _ hp5)
 ·rintro i x ys H6 hx ⟨s6,as,rfl,ha,nd,hh⟩
  have hi:i < us.length:=(fu hx).1
  refine ⟨ck (by rw [au]; omega),?_⟩
  walk_at "go"
  rename_i b H7 n7
  refine ⟨s6.trans n7.same,as++[b],by simp,by simp [ha],?_,λ a h=>?_⟩
  ·rw [eV]
   refine ⟨nd,by simp,λ a h c hc e=>?_⟩
   rw [aC.mp hc] at e
   subst e
   have:=(hh a h).2
   rw [n7.1] at this
   cases this
  ·rcases aO.mp h with h | h
   ·exact ⟨(hh a h).1,n7.keep (hh a h).2⟩
   ·rw [aC.mp h]
    exact ⟨s6.free n7.1,n7.self⟩
 rintro ys H6 ⟨Mb,as,rfl,lM,nd,has⟩ f H7 n7
 have CZ:=n7.self
 have f5:H5 f=none:=Mb.free n7.1
 have fa:f ∉ as:=λ h=>by
  have:=(has f h).2
  rw [n7.1] at this
  cases this
 have Kp:∀ a∈as,H5 a=none /\ H7 a=some (.lst []):=λ a h=>⟨(has a h).1,n7.keep (has a h).2⟩
 have Wd:=Mb.trans n7.same
 clear n7 Mb has
 have Kq:=Wd _ _ T5
 have T7:=T6.same Wd
 walk_at "go"
 refine ⟨rd,rzs,rs.map cP,rfl,Kq,T7,?_,λ l ws qs H8 We fl hl8 T8 hup hmem=>?_⟩
 ·intro ps hps t ht
  obtain ⟨r,hr,rfl⟩:=aG.mp hps
  exact reads_in (hok r hr) ht
 have Kr:=We _ _ CZ
 have s58:=Wd.trans We
 have la:l ∉ as:=λ h=>by
  have:=(Kp l h).2
  rw [fl] at this
  cases this
 have lf:l ≠ f:=λ e=>by rw [e,CZ] at fl; cases fl
 have Xs:qs.length <= 16:=i0 (hup.imp λ h=>TL h) (ys:=bX) λ t ht=>by
  obtain ⟨ps,hps,hq⟩:=(hmem t).mp ht
  obtain ⟨r,hr,rfl⟩:=aG.mp hps
  exact reads_in (hok r hr) hq
 have Pr:∀ a∈as,H5 a=none /\ H8 a=some (.lst []):=λ a h=>⟨(Kp a h).1,We _ _ (Kp a h).2⟩
 clear We CZ Kq T7 Kp fl Wd
 walk_at "go"
 refine f_list (xs:=ws) (λ i σ' H'=>(∃ x y z u,σ'=[some (.ref p),some (.ref rd),some (.ref gv),some (.ref ah),some (.ref f),x,y,z,u]) /\ aE H5 H' /\ fU H8 H' /\ H' f=some (.lst (as.map V.ref)) /\ H' l=some (.lst ws) /\ ∀ (k:Nat) a,as[k]? = some a->∃ vs,H' a=some (.lst vs) /\ bu H' vs ((qs.take i).filter (isLive rs k))) ?_ ?_ ?_ ?_
 ·exact ⟨⟨_,_,_,_,rfl⟩,s58,fU.refl _,Kr,hl8,λ k a e=>⟨[],(Pr a (fS e)).2,.nil⟩⟩
 ·rintro i σ' H' _ ⟨_,_,_,_,h,_⟩
  exact bD.of h
 ·rintro i x σ' H9 hx ⟨⟨x5,x6,x7,x8,rfl⟩,s9,t9,Ik,T9,Pu⟩
  obtain ⟨t,hti,b,rfl,DZ⟩:=aW T8 hx
  have Ks:=t9 _ _ DZ
  have GU:=s9 _ _ T5
  have Pw:=T6.same s9
  walk_at "go"
  have hrl:=Pw.length
  rw [au] at hrl
  refine Ji (λ j zs τ H'=>aE H9 H' /\ (∃ ns:List Int,zs=ns.map V.int /\ ns.length <= j /\ ∀ y,y∈ns ↔ ∃ (k:Nat) (r:Row),k < j /\ y=((k:Nat):Int) /\ rs[k]? = some r /\ t∈cP r) /\ ∃ x y,τ=[x,y,some (.ref b)]) ?_ ?_ ?_ ?_ ?_
  ·exact ⟨aE.refl _,⟨[],rfl,aQ _,λ y=>⟨λ h=>(nomatch h),λ ⟨k,_,h,_⟩=>absurd h (by omega)⟩⟩,_,_,rfl⟩
  ·rintro j zs τ H' _ ⟨s',⟨ns,rfl,hl,_⟩,_⟩
   exact ⟨bD.of (s' _ _ GU),by rw [au]; exact hl⟩
  ·omega
  ·rintro j x pp zs τ GV QB hx ⟨oz,⟨ns,rfl,hnl,hns⟩,x0,y0,rfl⟩ rK
   obtain ⟨ps,hps,a,vs,rfl,ha,hvs⟩:=aW Pw hx
   rw [aY] at hps
   obtain ⟨r,hrj,rfl⟩:=dg.mp hps
   have Mc:=oz.trans rK.same
   have Yq:=Mc _ _ ha
   have sY:=hvs.same Mc
   have Yr:=Mc _ _ Ks
   have hpp:=rK.self
   clear rK oz
   walk_at "go"
   refine vS Yr (bD.of Yq) sY ?_
   have split:∀ y,(∃ (k:Nat) (r:Row),k < j + 1 /\ y=((k:Nat):Int) /\ rs[k]? = some r /\ t∈cP r) ↔ (∃ (k:Nat) (r:Row),k < j /\ y=((k:Nat):Int) /\ rs[k]? = some r /\ t∈cP r) \/ (y=((j:Nat):Int) /\ t∈cP r):=λ y=>by
    constructor
    ·rintro ⟨k,r',h1,h2,h3,h4⟩
     by_cases e:k=j
     ·subst e
      rw [hrj] at h3
      cases h3
      exact .inr ⟨h2,h4⟩
     ·exact .inl ⟨k,r',by omega,h2,h3,h4⟩
    ·rintro (⟨k,r',h1,h2,h3,h4⟩ | ⟨h1,h2⟩)
     ·exact ⟨k,r',by omega,h2,h3,h4⟩
     ·exact ⟨j,r,by omega,h1,hrj,h2⟩
   by_cases hm:t∈cP r
   ·rw [decide_eq_true hm]
    walk_at "go"
    refine ⟨Mc,⟨ns++[((j:Nat):Int)],by simp,by simp; omega,λ y=>?_⟩,_,_,rfl⟩
    rw [aO,hns y,aC,split y]
    simp only [hm,and_true]
   ·rw [decide_eq_false hm]
    walk_at "go"
    refine ⟨Mc,⟨ns,rfl,by omega,λ y=>?_⟩,_,_,rfl⟩
    rw [hns y,split y]
    simp only [hm,and_false,or_false]
  rintro zs τ GV ⟨oz,⟨ns,rfl,hnl,hns⟩,x0,y0,rfl⟩ cm QB rK
  rw [hrl] at hnl hns
  walk_at "go"
  rename_i sn Px GW
  have Py:∀ (k:Nat) a,as[k]? = some a->∃ vs,Px a=some (.lst vs) /\ bu Px vs ((qs.take i).filter (isLive rs k)) /\ GV a=some (.lst vs) /\ QB a=some (.lst vs):=λ k a e=>by
   obtain ⟨vs,h1,h2⟩:=Pu k a e
   exact ⟨vs,GW.keep (rK.keep (oz _ _ h1)),h2.same ((oz.trans rK.same).trans GW.same),oz _ _ h1,rK.keep (oz _ _ h1)⟩
  have s12:=(oz.trans rK.same).trans GW.same
  have AP:Apart H5 f l cm sn as:=by
   have Wf:∀ a∈as,∃ vs,GV a=some (HO.lst vs) /\ QB a=some (HO.lst vs):=λ a h=>by
    obtain ⟨k,hk⟩:=eU.mp h
    obtain ⟨vs,_,_,h1,h2⟩:=Py k a hk
    exact ⟨vs,h1,h2⟩
   refine ⟨s9.free (oz.free rK.1),s9.free (oz.free (rK.same.free GW.1)),λ a h=>(Pr a h).1,bx (oz _ _ Ik) rK.1,bx (rK.keep (oz _ _ Ik)) GW.1,bx (oz _ _ T9) rK.1,bx (rK.keep (oz _ _ T9)) GW.1,bx rK.self GW.1,λ h=>?_,λ h=>?_,fa,la,nd⟩
   ·obtain ⟨vs,h1,_⟩:=Wf cm h
    rw [rK.1] at h1
    cases h1
   ·obtain ⟨vs,_,h1⟩:=Wf sn h
    rw [GW.1] at h1
    cases h1
  have L0:u7 H5 H8 f l cm sn as ws ns [] (λ k=>(qs.take i).filter (isLive rs k)++if ((k:Nat):Int)∈([]:List Int) then [t] else []) Px :=
   ⟨s9.trans s12,t9.trans (sT s12),s12 _ _ Ik,s12 _ _ T9,GW.keep rK.self,GW.self,λ k a e=>by
    obtain ⟨vs,h1,h2,_⟩:=Py k a e
    exact ⟨vs,h1,by simpa using h2⟩⟩
  have D0:By rs t ns []:=by
   refine ⟨λ x hx=>?_,(λ x h=>nomatch h),jc,λ k r h1 h2=>.inr ((hns _).mpr ⟨k,r,(fu h1).1,rfl,h1,h2⟩),(λ k q r _ _ _ h=>nomatch h),by simp; omega⟩
   obtain ⟨k,r,_,rfl,h1,h2⟩:=(hns x).mp hx
   exact ⟨k,rfl,.here h1 h2⟩
  clear rK GW oz s12 hns hnl Pu Py Ik T9 s9 t9 GU Pw Ks
  refine oO (λ m σ' H'=>∃ (cs ss:List Int) (x:Option V),σ'=[some (.ref p),some (.ref rd),some (.ref gv),some (.ref ah),some (.ref f),some (.ref b),some (.ref cm),some (.ref sn),x] /\ u7 H5 H8 f l cm sn as ws cs ss (λ k=>(qs.take i).filter (isLive rs k)++if ((k:Nat):Int)∈ss then [t] else []) H' /\ By rs t cs ss /\ m=TR rs.length ss.length cs.length) ⟨_,ns,[],_,rfl,L0,D0,rfl⟩ ?_
  clear L0 D0
  rintro m σ' H13 ⟨cs,ss,x,rfl,L,D,rfl⟩
  have Ua:=L.hc
  walk_at "go"
  rcases List.eq_nil_or_concat cs with e | ⟨cs',y,e⟩
  ·subst e
   rw [if_neg (by decide)]
   walk_at "nxd"
   refine ⟨⟨_,_,_,_,rfl⟩,L.s5,L.t6,L.hf,L.hl,λ k a e=>?_⟩
   obtain ⟨vs,h1,h2⟩:=L.ha k a e
   refine ⟨vs,h1,?_⟩
   rw [C5 hti (D.done k)]
   exact h2
  rw [List.concat_eq_append] at e
  subst e
  rw [if_pos (by simp)]
  obtain ⟨ky,QC,lky⟩:=D.c1 y (by simp)
  have hss:=D.few
  have hsh:=D.short hn
  rw [bh,fX] at hsh
  walk_at "go"
  refine s_pop Ua (y:=.int y) (by simp) ?_
  intro H14 Il
  have ed:(List.map V.int (cs'++[y])).dropLast=cs'.map V.int:=by simp
  rw [ed] at Il
  have Ub:=L.TQ AP Il
  clear Il Ua L ed
  have Ys:=Ub.hs
  by_cases hy:y∈ss
  ·have hv:(!(iT (ss.map λ k=>((.inl k:Key),V.bl true)) (.inl y)).isSome)=false:=by rw [qP,decide_eq_true hy]; rfl
   walk_at "go"
   rw [hv,if_neg (by decide)]
   walk_at "go"
   refine ⟨_,?_,cs',ss,_,rfl,Ub,D.skip hy,rfl⟩
   rw [bh,fX]
   unfold TR
   omega
  have hv:(!(iT (ss.map λ k=>((.inl k:Key),V.bl true)) (.inl y)).isSome)=true:=by rw [qP,decide_eq_false hy]; rfl
  have hsl:(ss.map λ k=>((.inl k:Key),V.bl true)).length <= 200:=by rw [au]; omega
  have ey:=GS hy
  have Ku:=Ub.hf
  have RA:=AP.fs
  walk_at "go"
  rw [hv,if_pos rfl]
  walk_at "go"
  rename_i H15 Kv
  rw [ey] at Kv
  have Pz:=Ub.Yi AP Kv
  clear Kv Ub Ys ey hv Ku RA
  have DY:ky < as.length:=by have:=lky.lt; omega
  have z7:as[ky]? = some as[ky]:=dJ DY
  generalize as[ky]'DY=a at z7
  obtain ⟨vs,hvs,hps⟩:=Pz.ha ky a z7
  have Uc:¬ ((ky:Nat):Int)∈ss:=by rw [<- QC]; exact hy
  rw [if_neg Uc,dQ] at hps
  have hvl:vs.length <= 16:=by
   rw [hps.length]
   refine bE (gH _ _) ?_
   rw [cu]
   omega
  have Yt:=Pz.hc
  have hca:cm ≠ a:=λ z=>AP.ca (by rw [z]; exact fS z7)
  have Ud:=Pz.s5 _ _ Pq
  have haa:ah ≠ a:=bx Pq (AP.a5 a (fS z7))
  refine dz (bD.of Pz.hf) (v:=.ref a) (by rw [QC]; exact cJ (by rw [aY,z7]; rfl)) ?_
  walk_at "go"
  rename_i H16 p16
  have PB:u7 H5 H8 f l cm sn as ws cs' (ss++[y]) (λ k=>(qs.take i).filter (isLive rs k)++if ((k:Nat):Int)∈ss++[y] then [t] else []) H16:=by
   have x:=Pz.Yj AP (g':=λ k=>(qs.take i).filter (isLive rs k)++if ((k:Nat):Int)∈ss++[y] then [t] else []) z7 hvs p16 ?_ λ k hk _=>?_
   ·exact x
   ·show bu H15 _ ((qs.take i).filter (isLive rs ky)++if ((ky:Nat):Int)∈ss++[y] then [t] else [])
    rw [if_pos (by rw [<- QC]; simp)]
    exact cA hps ⟨b,rfl,Pz.t6 _ _ DZ⟩
   ·have hne:¬ ((k:Nat):Int)=y:=by omega
    simp only [aO,aC,hne,or_false]
  clear p16 Pz hvs hps Yt Ud
  have Me:=PB.s5 _ _ Pq
  have Mf:=PB.s5 _ _ Yo
  have Mg:=Yp.same PB.s5
  have Ue:=PB.t6 _ _ DZ
  have Ug:ky < Wc.length:=by have:=lky.lt; omega
  have PD:Wc[ky]? = some Wc[ky]:=dJ Ug
  generalize Wc[ky]'Ug=al at PD
  obtain ⟨le,hle,ack,GX⟩:=Yn.same PB.s5 ky al PD
  refine dz (bD.of Me) (v:=.ref al) (by rw [QC]; exact cJ (by rw [aY,PD]; rfl)) ?_
  walk_at "go"
  refine f7 (xs:=le.map V.int) (λ j ys H'=>aE H16 H' /\ ∃ es:List Int,ys=es.map V.int /\ es.length <= j /\ ∀ z,z∈es ↔ ∃ (k:Nat) (r:Row),z=((k:Nat):Int) /\ z∈le.take j /\ rs[k]? = some r /\ t ∉ bC r) ⟨aE.refl _,[],rfl,aQ _,λ z=>⟨λ h=>(nomatch h),λ ⟨k,r,_,h,_⟩=>by simp at h⟩⟩ ?_ ?_ ?_
  ·rintro j ys H' _ ⟨s',_⟩
   exact bD.of (s' _ _ hle)
  ·rintro j x ys H17 hx ⟨Mh,es,rfl,hel,hes⟩
   have hjl:j < (le.map V.int).length:=(fu hx).1
   rw [au] at hjl
   rw [aY] at hx
   obtain ⟨z,hz,rfl⟩:=dg.mp hx
   obtain ⟨k,r,hk,ez,hr,hw⟩:=(GX z).mp (fS hz)
   obtain ⟨ga,gus,hga,PJ,hgp⟩:=(Mg.same Mh).at hr
   refine ⟨ck (by rw [au]; omega),?_⟩
   have Uh:=Mh _ _ Mf
   have Yu:=Mh _ _ Ue
   walk_at "go"
   refine dz (bD.of Uh) (v:=.ref ga) (by rw [ez]; exact cJ hga) ?_
   walk_at "go"
   refine Fz Yu (bD.of PJ) hgp ?_
   have split:∀ y,(∃ (k:Nat) (r:Row),y=((k:Nat):Int) /\ y∈le.take (j + 1) /\ rs[k]? = some r /\ t ∉ bC r) ↔ (∃ (k:Nat) (r:Row),y=((k:Nat):Int) /\ y∈le.take j /\ rs[k]? = some r /\ t ∉ bC r) \/ (y=z /\ t ∉ bC r):=λ y=>by
    rw [bV,hz]
    simp only [jV,aO,aC]
    constructor
    ·rintro ⟨k',r',h1,h2 | h2,h3,h4⟩
     ·exact .inl ⟨k',r',h1,h2,h3,h4⟩
     ·have e:k'=k:=by omega
      subst e
      rw [hr] at h3
      cases h3
      exact .inr ⟨h2,h4⟩
    ·rintro (⟨k',r',h1,h2,h3,h4⟩ | ⟨h1,h2⟩)
     ·exact ⟨k',r',h1,.inl h2,h3,h4⟩
     ·exact ⟨k,r,by rw [h1,ez],.inr h1,hr,h2⟩
   by_cases hm:t∈bC r
   ·rw [decide_eq_true hm]
    walk_at "go"
    refine ⟨Mh,es,rfl,by omega,λ y=>?_⟩
    rw [hes y,split y]
    simp only [hm,not_true,and_false,or_false]
   ·rw [decide_eq_false hm]
    walk_at "go"
    refine ⟨Mh,es++[z],by simp,by simp; omega,λ y=>?_⟩
    rw [aO,hes y,aC,split y]
    simp only [hm,not_false_eq_true,and_true]
  rintro ys H17 ⟨Mh,es,rfl,hel,hes⟩ ex H18 Yv
  rw [au] at hel hes
  rw [cD] at hes
  have L18:=(PB.same Mh).new Yv
  have hex:=Yv.self
  have aco:=L18.hc
  have hcl:(cs'.map V.int).length <= 81000:=by rw [au]; omega
  have acp:(es.map V.int).length <= 400:=by rw [au]; omega
  clear Yv Mh PB Me Mf Mg Ue hle
  walk_at "go"
  rename_i H19 p19
  rw [<- bK] at p19
  have L19:=L18.TQ AP p19
  refine ⟨_,?_,cs'++es,ss++[y],_,rfl,L19,D.step hy (λ z=>?_) (by omega),rfl⟩
  ·have hlt:ss.length < rs.length:=by
    have d2:=(D.step (es:=es) hy (λ z=>?_) (by omega)).few
    ·rw [bh] at d2
     simp at d2
     omega
    ·rw [hes z]
     constructor
     ·rintro ⟨k,r,h1,h2,h3,h4⟩
      obtain ⟨k',r',_,e1,e2,e3⟩:=(GX z).mp h2
      have e:k'=k:=by omega
      subst e
      rw [h3] at e2
      cases e2
      exact ⟨k',ky,r,h1,QC,h3,e3,h4⟩
     ·rintro ⟨k,j,r,h1,h2,h3,h4,h5⟩
      have e:j=ky:=by omega
      subst e
      exact ⟨k,r,h1,(GX z).mpr ⟨k,r,(fu h3).1,h1,h3,h4⟩,h3,h5⟩
   rw [bh,bh,bh,fX]
   exact Pk hlt (by omega)
  ·rw [hes z]
   constructor
   ·rintro ⟨k,r,h1,h2,h3,h4⟩
    obtain ⟨k',r',_,e1,e2,e3⟩:=(GX z).mp h2
    have e:k'=k:=by omega
    subst e
    rw [h3] at e2
    cases e2
    exact ⟨k',ky,r,h1,QC,h3,e3,h4⟩
   ·rintro ⟨k,j,r,h1,h2,h3,h4,h5⟩
    have e:j=ky:=by omega
    subst e
    exact ⟨k,r,h1,(GX z).mpr ⟨k,r,(fu h3).1,h1,h3,h4⟩,h3,h5⟩
 ·rintro σ' H9 ⟨⟨x5,x6,x7,x8,rfl⟩,s9,t9,Ik,T9,Pu⟩
  walk_at "go"
  refine q f as H9 (s5.trans s9) (s5.free f5) Ik (by omega) nd (λ a h=>s5.free (Pr a h).1) fa λ k a e=>?_
  obtain ⟨vs,h1,h2⟩:=Pu k a e
  refine ⟨vs,h1,?_⟩
  rw [T8.length,cD,Kl hok hup (λ q=>?_) k] at h2
  ·exact h2
  ·rw [hmem q]
   constructor
   ·rintro ⟨ps,hps,hq⟩
    obtain ⟨r,hr,rfl⟩:=aG.mp hps
    exact ⟨r,hr,hq⟩
   ·rintro ⟨r,hr,hq⟩
    exact ⟨_,aG.mpr ⟨r,hr,rfl⟩,hq⟩
end
def Row.gv(r:Row)(s:Int):Int:=if r.ia && (decide (r.sd=s) || decide (r.sd=2)) then r.oH.headD 0 else -1
def Row.rd(r:Row)(s:Int):List Int:=if r.ia && !(decide (r.sd=s) || decide (r.sd=2)) then [] else r.zZ
theorem sZ{bs:List Int}(hb:∀ b∈bs,0 <= b /\ b < 8)(hs:s=0 \/ s=1):(s,b)∈jr r bs ↔ fO r s=true /\ b∈bs:=by
 unfold jr
 rw [jD]
 constructor
 ·rintro ⟨s',_,h⟩
  split at h
  ·rename_i Ke
   obtain ⟨b',hb1,e⟩:=aG.mp h
   cases e
   exact ⟨Ke,(SN.j0 hb b).mp hb1⟩
  ·exact nomatch h
 ·rintro ⟨h1,h2⟩
  refine ⟨s,by simpa using hs,?_⟩
  rw [if_pos h1]
  exact aG.mpr ⟨b,(SN.j0 hb b).mpr h2,rfl⟩
theorem nP{n:Int}(h:r.ok n)(hs:s=0 \/ s=1):(s,b)∈cP r ↔ b∈r.rd s:=by
 unfold cP Row.rd
 rw [sZ (λ b hb=>jR h b (o6 b hb)) hs]
 unfold fO
 cases r.ia <;> cases decide (r.sd=s) <;> cases decide (r.sd=2) <;> simp
theorem qQ(h:r.ia=true):r.oH.take 1=[r.oH.headD 0]:=by cases r <;> first | rfl | cases h
theorem i6{n:Int}(h:r.ok n)(hs:s=0 \/ s=1)(hb:0 <= b):(s,b)∈bC r ↔ r.gv s=b:=by
 unfold bC Row.gv
 by_cases hd:r.ia=true
 ·rw [if_pos hd,sZ (λ b hb=>jR h b (List.take_subset _ _ hb)) hs,qQ hd,aC]
  unfold fO
  rw [hd]
  cases decide (r.sd=s) <;> cases decide (r.sd=2) <;> simp <;> first | omega | exact ⟨λ e=>e.symm,λ e=>e.symm⟩
 ·rw [if_neg hd]
  have:r.ia=false:=by simpa using hd
  rw [this]
  simp
  omega
theorem xg{n:Int}(h:r.ok n)(s:Int):r.gv s < 8:=by
 unfold Row.gv
 split
 ·rename_i e
  have hd:r.ia=true:=by cases hr:r.ia <;> simp [hr] at e ⊢
  exact (jR h (r.oH.headD 0) (List.take_subset 1 _ (by rw [qQ hd]; simp))).2
 ·omega
theorem GY{n:Int}(h:r.ok n)(s:Int):∀ b∈r.rd s,0 <= b /\ b < 8:=λ b hb=>by
 unfold Row.rd at hb
 split at hb
 ·exact nomatch hb
 ·exact jR h b (o6 b hb)
def Kw(ms:List Nat)(r:Row):Nat:=r.ways.foldl (λ m q=>m ||| ms.getD q.toNat 0) 0
def nQ(m:Nat)(g:Int):Nat:=if 0 <= g then m &&& (255 - 2 ^ g.toNat) else m
def ef(ms:List Nat)(r:Row)(s:Int):Nat:=(r.rd s).foldl (λ m b=>m ||| 2 ^ b.toNat) (nQ (Kw ms r) (r.gv s))
theorem o7{α:Type}(f:α->Nat)(b:Nat):∀ (l:List α) (m0:Nat),(l.foldl (λ m x=>m ||| f x) m0).testBit b=(m0.testBit b || l.any λ x=>(f x).testBit b)
 | [],m0=>by simp
 | x :: l,m0=>by
  rw [List.foldl_cons,o7 f b l,Nat.testBit_or,gF,Bool.or_assoc]
theorem BA(ms:List Nat)(r:Row)(b:Nat):(Kw ms r).testBit b=r.ways.any λ q=>(ms.getD q.toNat 0).testBit b:=by
 unfold Kw
 rw [o7]
 simp
theorem GZ:∀ (g b:Fin 8),(255 - 2 ^ g.val:Nat).testBit b.val = !decide (b=g):=by decide
theorem G0(hg:g < 8){b:Nat}(hb:b < 8):(nQ m g).testBit b=(m.testBit b && !decide ((b:Int)=g)):=by
 unfold nQ
 split
 ·rename_i h0
  have:=GZ ⟨g.toNat,by omega⟩ ⟨b,hb⟩
  rw [Nat.testBit_and]
  dsimp only at this
  rw [this]
  congr 2
  simp only [Fin.mk.injEq,decide_eq_decide]
  omega
 ·rw [decide_eq_false (show ¬ (b:Int)=g by omega)]
  simp
theorem Kx(m:Nat)(g:Int)(b:Nat)(h:(nQ m g).testBit b=true):m.testBit b=true:=by
 unfold nQ at h
 split at h
 ·rw [Nat.testBit_and] at h
  simp only [nU] at h
  exact h.1
 ·exact h
theorem gD{n:Int}(h:r.ok n){b:Nat}(hb:b < 8):(ef ms r s).testBit b=true ↔ (b:Int)∈r.rd s \/ (¬ r.gv s=b /\ ∃ q∈r.ways,(ms.getD q.toNat 0).testBit b=true):=by
 unfold ef
 rw [o7,G0 (xg h s) hb,BA]
 simp only [Bool.or_eq_true,nU,List.any_eq_true,Bool.not_eq_true',decide_eq_false_iff_not]
 constructor
 ·rintro (⟨h1,h2⟩ | ⟨x,hx,h3⟩)
  ·exact .inr ⟨λ e=>h2 e.symm,h1⟩
  ·rw [Nat.testBit_two_pow] at h3
   have:=GY h s x hx
   have e:(b:Int)=x:=by
    have:=of_decide_eq_true h3
    omega
   rw [e]
   exact .inl hx
 ·rintro (h1 | ⟨h1,h2⟩)
  ·exact .inr ⟨_,h1,by rw [Nat.testBit_two_pow]; exact decide_eq_true (by omega)⟩
  ·exact .inl ⟨h2,λ e=>h1 e.symm⟩
theorem G1(hm:∀ m∈ms,m < 256){n:Int}(h:r.ok n)(s:Int):ef ms r s < 256:=by
 refine Nat.lt_pow_two_of_testBit (n:=8) _ λ i hi=>?_
 unfold ef
 rw [o7]
 have e1:(nQ (Kw ms r) (r.gv s)).testBit i=false:=by
  cases e:(nQ (Kw ms r) (r.gv s)).testBit i with
  | false=>rfl
  | true =>
   have:=Kx _ _ _ e
   rw [BA,List.any_eq_true] at this
   obtain ⟨q,_,hq⟩:=this
   have hl:ms.getD q.toNat 0 < 2 ^ 8:=by
    rw [ki]
    cases e2:ms[q.toNat]? with
    | none=>simp
    | some m=>exact hm m (fS e2)
   rw [Nat.testBit_lt_two_pow (cg hl (Nat.pow_le_pow_right (by decide) hi))] at hq
   cases hq
 rw [e1,Bool.false_or,List.any_eq_false]
 intro x hx
 have:=GY h s x hx
 rw [Nat.testBit_two_pow]
 simp
 omega
structure mJ (rs:List Row) (s:Int) (ms:List Nat):Prop where
 len:ms.length=rs.length
 lt:∀ m∈ms,m < 256
 snd:∀ (k:Nat) (m:Nat) (b:Nat),ms[k]? = some m->b < 8->m.testBit b=true->dw rs (s,(b:Int)) k
 inc:∀ (k:Nat) (m:Nat) (r:Row),ms[k]? = some m->rs[k]? = some r->∀ b,b < 8->m.testBit b=true->(ef ms r s).testBit b=true
theorem mJ.zero(rs:List Row)(s:Int):mJ rs s (List.replicate rs.length 0) where
 len:=by simp
 lt:=λ m hm=>by rw [(List.mem_replicate.mp hm).2]; decide
 snd:=λ k m b e _ h=>by
  rw [(List.mem_replicate.mp (fS e)).2] at h
  simp at h
 inc:=λ k m r e _ b _ h=>by
  rw [(List.mem_replicate.mp (fS e)).2] at h
  simp at h
theorem getD_at{α:Type}{l:List α}{x d:α}(h:l[k]? = some x):l.getD k d=x:=by rw [ki,h]; rfl
section
variable {rs:List Row}{s:Int}{ms:List Nat}(hs:s=0 \/ s=1)(hok:∀ r∈rs,r.ok rs.length)
include hs hok
theorem mJ.sound(I:mJ rs s ms)(hr:rs[k]? = some r){b:Nat}(hb:b < 8)(h:(ef ms r s).testBit b=true):dw rs (s,(b:Int)) k:=by
 have ho:=hok r (fS hr)
 rcases (gD ho hb).mp h with h1 | ⟨h1,q,hq,h2⟩
 ·exact .here hr ((nP ho hs).mpr h1)
 ·have Ui:=Row.iE ho q hq
  have hqn:q.toNat < ms.length:=by rw [I.len]; omega
  have e1:ms[q.toNat]? = some ms[q.toNat]:=dJ hqn
  rw [getD_at e1] at h2
  have hl:=I.snd q.toNat _ b e1 hb h2
  refine .on (q:=q.toNat) hr (λ hg=>h1 ((i6 ho hs (by omega)).mp hg)) ?_ hl
  rw [Int.toNat_of_nonneg Ui.1]
  exact hq
theorem mJ.set(I:mJ rs s ms){m:Nat}(hm:ms[k]? = some m)(hr:rs[k]? = some r):mJ rs s (ms.set k (ef ms r s)):=by
 have hk:k < ms.length:=(fu hm).1
 have get:∀ (j:Nat) (x:Nat),(ms.set k (ef ms r s))[j]? = some x->(j=k /\ x=ef ms r s) \/ (j ≠ k /\ ms[j]? = some x):=λ j x e=>by
  rw [List.getElem?_set] at e
  split at e
  ·rename_i e1
   exact .inl ⟨e1.symm,(Option.some.inj e).symm⟩
  ·rename_i e1
   exact .inr ⟨λ z=>e1 z.symm,e⟩
 have mono:∀ (r':Row),r'∈rs->∀ b,b < 8->(ef ms r' s).testBit b=true->(ef (ms.set k (ef ms r s)) r' s).testBit b=true:=λ r' hr' b hb h=>by
  have ho:=hok r' hr'
  rcases (gD ho hb).mp h with h1 | ⟨h1,q,hq,h2⟩
  ·exact (gD ho hb).mpr (.inl h1)
  ·refine (gD ho hb).mpr (.inr ⟨h1,q,hq,?_⟩)
   have Ui:=Row.iE ho q hq
   by_cases e:k=q.toNat
   ·rw [ki,List.getElem?_set,if_pos e,if_pos hk]
    rw [<- e,getD_at hm] at h2
    exact I.inc k m r hm hr b hb h2
   ·rw [ki,List.getElem?_set,if_neg e,<- ki]
    exact h2
 refine ⟨by rw [List.length_set]; exact I.len,λ x hx=>?_,λ j x b e hb h=>?_,λ j x r' e hr' b hb h=>?_⟩
 ·obtain ⟨j,hj⟩:=eU.mp hx
  rcases get j x hj with ⟨_,rfl⟩ | ⟨_,e⟩
  ·exact G1 I.lt (hok r (fS hr)) s
  ·exact I.lt x (fS e)
 ·rcases get j x e with ⟨rfl,rfl⟩ | ⟨_,e⟩
  ·exact I.sound hs hok hr hb h
  ·exact I.snd j x b e hb h
 ·rcases get j x e with ⟨rfl,rfl⟩ | ⟨_,e⟩
  ·rw [hr] at hr'
   cases hr'
   exact mono r (fS hr) b hb h
  ·exact mono r' (fS hr') b hb (I.inc j x r' e hr' b hb h)
theorem mJ.up(I:mJ rs s ms)(hm:ms[k]? = some m)(hr:rs[k]? = some r):m <= ef ms r s:=by
 have e:m ||| ef ms r s=ef ms r s:=by
  refine Nat.eq_of_testBit_eq λ i=>?_
  rw [Nat.testBit_or]
  cases h:m.testBit i with
  | false=>rw [Bool.false_or]
  | true =>
   have hi:i < 8:=by
    rcases cH i 8 with hl | hg
    ·exact hl
    ·rw [Nat.testBit_lt_two_pow (cg (show m < 2 ^ 8 from I.lt m (fS hm)) (Nat.pow_le_pow_right (by decide) hg))] at h
     cases h
   rw [I.inc k m r hm hr i hi h]
   rfl
 rw [<- e]
 exact Nat.left_le_or
theorem mJ.done(I:mJ rs s ms)(fx:∀ (k:Nat) (r:Row) (m:Nat),rs[k]? = some r->ms[k]? = some m->ef ms r s=m){b:Nat}(hm:ms[k]? = some m)(hb:b < 8):m.testBit b=true ↔ dw rs (s,(b:Int)) k:=by
 refine ⟨I.snd k m b hm hb,λ h=>?_⟩
 have all:=ou (rs:=rs) (p:=(s,(b:Int))) (S:=λ k=>∀ m,ms[k]? = some m->m.testBit b=true) (λ k r hr hp m hm=>?_) (λ k q r hr hg hw ih m hm=>?_) k h
 ·exact all m hm
 ·have ho:=hok r (fS hr)
  rw [<- fx k r m hr hm]
  exact (gD ho hb).mpr (.inl ((nP ho hs).mp hp))
 ·have ho:=hok r (fS hr)
  rw [<- fx k r m hr hm]
  refine (gD ho hb).mpr (.inr ⟨λ e=>hg ((i6 ho hs (by omega)).mpr e),_,hw,?_⟩)
  have Ui:=Row.iE ho _ hw
  have hqn:q < ms.length:=by rw [I.len]; omega
  have e1:ms[q]? = some ms[q]:=dJ hqn
  rw [gE,getD_at e1]
  exact ih _ e1
end
theorem sum_set:∀ (ms:List Nat) (k m m':Nat),ms[k]? = some m->(ms.set k m').sum + m=ms.sum + m'
 | [],k,m,m',h=>by simp at h
 | x :: ms,0,m,m',h=>by
  simp at h
  subst h
  simp
  omega
 | x :: ms,k + 1,m,m',h=>by
  have:=sum_set ms k m m' (by simpa using h)
  simp only [List.set_cons_succ,List.sum_cons]
  omega
theorem z8:∀ (ms:List Nat),(∀ m∈ms,m < 256)->ms.sum <= 255 * ms.length
 | [],_=>by simp
 | x :: ms,h=>by
  have:=z8 ms λ m hm=>h m (by simp [hm])
  have hx:=h x (by simp)
  simp only [List.sum_cons,dR]
  omega
theorem xh:∀ (ms:List Nat) (k m:Nat),ms[k]? = some m->ms.set k m=ms
 | [],k,m,h=>by simp at h
 | x :: ms,0,m,h=>by simp at h; subst h; rfl
 | x :: ms,k + 1,m,h=>by rw [List.set_cons_succ,xh ms k m (by simpa using h)]
section
variable {P:Program}{w:World}{K:aA}{mg:Str->Option Value}{base:Heap}
def Ky:Sp:=λ vs H Q _=>∃ (a:Addr) (r:Row),vs=[.ref a] /\ H a=some (.tup r.vals) /\ ∀ (l:Addr) (H':Hp),eE H l (.lst (r.ways.map V.int)) H'->Q (.ref l) H'
theorem xj(T:Txt w K mg):bY P w K mg base gr 1 T.wR.f T.wR.d ["_law_row_here"] Ky:=by
 refine T.wR.F.ok GC (λ vs H Q E h=>?_) (λ cdv A outer s H vs Q E hr h=>?_)
 ·obtain ⟨a,r,rfl,_⟩:=h
  rfl
 obtain ⟨a,r,rfl,ha,q⟩:=h
 refine ⟨_,(ai (bZ (aD c9 (aR br (pv 0) ak (λ _ _=>rfl)) bA (aU _))
 (aq (aI (bT af)))
 aX)
 (ai (bZ (aD c9 (aR br (pv 0) ak (λ _ _=>rfl)) bA (aU _))
 (aq (aI (bT (aa (aR br (pv 0) ak (λ _ _=>rfl)) (aa (aR br (pv 0) ak (λ _ _=>rfl)) af)))))
 aX)
 (aq (aI (bT (aa (aR br (pv 0) (Lk Ef ak) (λ _ _=>rfl)) af)))))),?_⟩
 show (_:TS) (Ends.mk _ _ _ _) [_] H
 walk_at "start"
 cases r <;> simp only [Row.vals,Row.key,Row.rest] at ha <;> walk_at "go" <;> (rename_i l1 H1 n1; exact q l1 H1 n1)
def xm:Sp:=λ vs H Q _=>∃ (a:Addr) (r:Row),vs=[.ref a] /\ H a=some (.tup r.vals) /\ ∀ (l:Addr) (H':Hp),eE H l (.lst (r.zZ.map V.int)) H'->Q (.ref l) H'
theorem rW(T:Txt w K mg):bY P w K mg base gr 1 T.jq.f T.jq.d ["_law_row_here"] xm:=by
 refine T.jq.F.ok rV (λ vs H Q E h=>?_) (λ cdv A outer s H vs Q E hr h=>?_)
 ·obtain ⟨a,r,rfl,_⟩:=h
  rfl
 obtain ⟨a,r,rfl,ha,q⟩:=h
 refine ⟨_,(ai (bZ (PW.pt (ko (aD c9 (aR br (pv 0) ak (λ _ _=>rfl)) bA (aU _)) (jh (aD c9 (aR br (pv 0) ak (λ _ _=>rfl)) bA (aU _)))))
 (aq (aI (bT af)))
 aX)
 (ai (bZ (aD c9 (aR br (pv 0) ak (λ _ _=>rfl)) bA (aU _))
 (aq (aI (bT (aa (aR br (pv 0) ak (λ _ _=>rfl)) af))))
 aX)
 (ai (bZ (aD c9 (aR br (pv 0) ak (λ _ _=>rfl)) bA (aU _))
 (aq (aI (bT (aa (aR br (pv 0) ak (λ _ _=>rfl)) (aa (aR br (pv 0) ak (λ _ _=>rfl)) af)))))
 aX)
 (aq (aI (bT (aa (aR br (pv 0) ak (λ _ _=>rfl)) af))))))),?_⟩
 show (_:TS) (Ends.mk _ _ _ _) [_] H
 walk_at "start"
 cases r <;> simp only [Row.vals,Row.key,Row.rest] at ha <;> walk_at "go" <;> (rename_i l1 H1 n1; exact q l1 H1 n1)
def G2:Sp:=λ vs H Q _=>∃ (a:Addr) (r:Row) (s:Int),vs=[.ref a,.int s] /\ H a=some (.tup r.vals) /\ ∀ (H':Hp),aE H H'->Q (.int (r.gv s)) H'
theorem Kz(h:r.ia=true):r.gv s=if nW (.int r.sd) [.int s,.int 2] then r.oH.headD 0 else -1:=by
 unfold Row.gv
 rw [h,uL]
 rfl
theorem xo(T:Txt w K mg):bY P w K mg base gr 1 T.given.f T.given.d ["_law_row_here", "_law_side"] G2:=by
 refine T.given.F.ok GD (λ vs H Q E h=>?_) (λ cdv A outer s H vs Q E hr h=>?_)
 ·obtain ⟨a,r,s,rfl,_⟩:=h
  rfl
 obtain ⟨a,r,s,rfl,ha,q⟩:=h
 refine ⟨_,(ai (bZ (PW.pt (ko (aD fH (aR br (pv 0) ak (λ _ _=>rfl)) (cF (aa bA (aa bA (aa bA af)))) (by with_unfolding_all rfl)) (jh (aD fH (aR br (pv 0) ak (λ _ _=>rfl)) (cF (aa (pv 1) (aa ak af))) (by with_unfolding_all rfl)))))
 (aq (aI (Lk Ef ak)))
 aX)
 (aq (aI (aR br (pv 0) (aL dj ak (c7 nB rfl T.Bs BT.AB (aa (ji c9 (aR br (pv 0) ak (λ _ _=>rfl)) bA (aU _)) af))) (λ _ _=>rfl))))),?_⟩
 show (_:TS) (Ends.mk _ _ _ _) [_,_] H
 walk_at "start"
 by_cases hd:r.ia=true
 ·rw [Kz hd] at q
  cases hb:nW (.int r.sd) [.int s,.int 2] <;> rw [hb] at q <;> cases r <;> (first | cases hd | skip)
  all_goals
   simp only [Row.vals,Row.key,Row.rest,Row.sd,Row.oH] at ha q hb
   walk_at "go"
   rename_i p1 H1 n1 p2 H2 n2
   have s2:=n1.same.trans n2.same
   have ha2:=s2 _ _ ha
   clear n1 n2 ha
   rw [hb]
   first | rw [if_pos (show (!false)=true from rfl)] | rw [if_neg (show ¬ (!true)=true from by decide)]
   walk_at "go"
   exact q _ s2
 ·have e:r.gv s = -1:=by
   unfold Row.gv
   rw [show r.ia=false by simpa using hd]
   rfl
  rw [e] at q
  cases r <;> first | exact absurd rfl hd | skip
  all_goals
   simp only [Row.vals,Row.key,Row.rest] at ha
   walk_at "go"
   rename_i p1 H1 n1
   exact q _ n1.same
def KA:Sp:=λ vs H Q _=>∃ (a:Addr) (r:Row) (s:Int),vs=[.ref a,.int s] /\ H a=some (.tup r.vals) /\ ∀ (l:Addr) (H':Hp),aE H H'->H l=none->H' l=some (.lst ((r.rd s).map V.int))->Q (.ref l) H'
theorem BB(T:Txt w K mg):bY P w K mg base gr 2 T.read.f T.read.d ["_law_row_here", "_law_side"] KA:=by
 refine T.read.F.ok J3 (λ vs H Q E h=>?_) (λ cdv A outer s H vs Q E hr h=>?_)
 ·obtain ⟨a,r,s,rfl,_⟩:=h
  rfl
 obtain ⟨a,r,s,rfl,ha,q⟩:=h
 refine ⟨_,(ai (bZ (PW.pt (jG (aD fh (aR br (pv 0) ak (λ _ _=>rfl)) (cF (aa bA (aa bA (aa bA af)))) (by with_unfolding_all rfl)) (ig (aD fH (aR br (pv 0) ak (λ _ _=>rfl)) (cF (aa (pv 1) (aa ak af))) (by with_unfolding_all rfl)))))
 (aq (aI (bT af)))
 aX)
 (aq (aI (bw T.jq (rW T) hr (aa (pv 0) af))))),?_⟩
 show (_:TS) (Ends.mk _ _ _ _) [_,_] H
 walk_at "start"
 by_cases hd:r.ia=true
 ·have e:r.rd s=if nW (.int r.sd) [.int s,.int 2] then r.zZ else []:=by
   unfold Row.rd
   rw [hd,uL]
   cases (decide (r.sd=s) || decide (r.sd=2)) <;> rfl
  rw [e] at q
  have ha0:=ha
  have fin:∀ H2,aE H H2->(∀ (l:Addr) (H':Hp),aE H H'->H l=none->H' l=some (.lst (r.zZ.map V.int))->Q (.ref l) H')->xm [.ref a] H2 Q E:=λ H2 s2 q=>⟨a,r,rfl,s2 _ _ ha0,λ l H3 n3=>q l H3 (s2.trans n3.same) (s2.free n3.1) n3.self⟩
  clear ha0 e
  have hdi:=mG r
  walk_at "go"
  rename_i p1 H1 n1
  have s1:=n1.same
  have ha1:=n1.keep ha
  clear n1 ha
  rw [hdi,hd,if_pos rfl]
  walk_at "go"
  refine qd (gm.of ha1) (Bv hd) ?_
  walk_at "go"
  rename_i p2 H2 n2
  have s2:=s1.trans n2.same
  clear n2
  cases hb:nW (.int r.sd) [.int s,.int 2] <;> rw [hb] at q
  ·rw [if_pos (by decide)]
   walk_at "go"
   rename_i l H3 n3
   exact q l H3 (s2.trans n3.same) (s2.free n3.1) n3.self
  ·rw [if_neg (by decide)]
   walk_at "go"
   exact fin _ s2 q
 ·have e:r.rd s=r.zZ:=by
   unfold Row.rd
   rw [show r.ia=false by simpa using hd]
   rfl
  rw [e] at q
  have ha0:=ha
  have hdi:=mG r
  walk_at "go"
  rename_i p1 H1 n1
  have s1:=n1.same
  clear n1 ha
  rw [hdi,show r.ia=false by simpa using hd,if_neg (by decide)]
  walk_at "go"
  exact ⟨a,r,rfl,s1 _ _ ha0,λ l H3 n3=>q l H3 (s1.trans n3.same) (s1.free n3.1) n3.self⟩
end
theorem G3(a b:Nat):Builtin.bitOr (a:Int) (b:Int)=((a ||| b:Nat):Int):=by
 have ha:¬ 0 <= Builtin.bitNot (a:Int):=by rw [PyProof.Rows.bitNot_nonneg]; omega
 have hb:¬ 0 <= Builtin.bitNot (b:Int):=by rw [PyProof.Rows.bitNot_nonneg]; omega
 show Builtin.bitNot (Builtin.bitAnd _ _)=_
 rw [PyProof.Rows.bitAnd_nn ha hb,PyProof.Rows.bitNot_bitNot,PyProof.Rows.bitNot_bitNot,PyProof.Rows.bitNot_bitNot]
 rfl
theorem BC(a b:Nat):Builtin.bitAnd (a:Int) (b:Int)=((a &&& b:Nat):Int):=by
 rw [PyProof.Rows.bitAnd_pp (by omega) (by omega)]
 rfl
theorem BD(h:0 <= g):(1:Int) * 2 ^ g.toNat=((2 ^ g.toNat:Nat):Int):=by rw [Int.one_mul,Int.natCast_pow]; rfl
theorem KC(m:Nat)(h0:0 <= g)(h:g < 8):Builtin.bitAnd (m:Int) (255 - 1 * 2 ^ g.toNat)=((nQ m g:Nat):Int):=by
 have hp:∀ u:Fin 8,(2 ^ u.val:Nat) <= 255:=by decide
 have IQ:=hp ⟨g.toNat,by omega⟩
 dsimp only at IQ
 rw [BD h0,show (255:Int) - ((2 ^ g.toNat:Nat):Int)=((255 - 2 ^ g.toNat:Nat):Int) by omega,BC]
 unfold nQ
 rw [if_pos h0]
theorem KD(m b:Nat):Builtin.bitAnd ((m:Int) / 2 ^ b) 1=if m.testBit b then 1 else 0:=by
 have e:(m:Int) / 2 ^ b=((m / 2 ^ b:Nat):Int):=by rw [Int.natCast_ediv,Int.natCast_pow]; rfl
 rw [e,show (1:Int)=((1:Nat):Int) from rfl,BC,Nat.and_one_is_mod,Nat.testBit_eq_decide_div_mod_eq]
 rcases Nat.mod_two_eq_zero_or_one (m / 2 ^ b) with h | h <;> rw [h] <;> rfl
def qR(H:Hp)(a:Addr)(ms:List Nat):Prop:=H a=some (.lst (ms.map λ m:Nat=>V.int m))
def Done(rs:List Row)(s:Int)(ms:List Nat):Prop:=ms.length=rs.length /\ ∀ (k m b:Nat),ms[k]? = some m->b < 8->(m.testBit b=true ↔ dw rs (s,(b:Int)) k)
theorem qS(h:ms[k]? = some m):rN (ms.map λ m:Nat=>V.int m) (k:Int)=some (.int m):=cJ (by rw [aY,h]; rfl)
theorem xq(ms:List Nat)(k m:Nat):(ms.map λ m:Nat=>V.int m).set k (.int m)=(ms.set k m).map λ m:Nat=>V.int m:=by rw [List.map_set]
section
variable {P:Program}{w:World}{K:aA}{mg:Str->Option Value}{base:Heap}
def C6:Sp:=λ vs H Q _=>∃ (p:Addr) (us:List V) (rs:List Row),vs=[.ref p] /\ H p=some (.lst us) /\ Rows H us rs /\ (∀ r∈rs,r.ok rs.length) /\ rs.length <= 200 /\
 ∀ (f:Addr) (as:List Addr) (H':Hp),aE H H'->H f=none->H' f=some (.lst (as.map V.ref))->as.length=rs.length->mH H' as rs->Q (.ref f) H'
theorem xr(T:Txt w K mg):bY P w K mg base gr 4 T.mE.f T.mE.d ["_law_code_here"] C6:=by
 refine T.mE.F.ok bB (λ vs H Q E h=>?_) (λ cdv A outer s H vs Q E hr h=>?_)
 ·obtain ⟨p,us,rs,rfl,_⟩:=h
  rfl
 obtain ⟨p,us,rs,rfl,hp,hrs,hok,hn,q⟩:=h
 refine ⟨_,(ai (aN (i:=1) bB.nd rfl (bL rfl) (bT af))
 (ai (cM bJ rfl (dF rfl T.eO (aa ak af)) (bg (i:=2) bB.nd rfl (ay rfl))
 (ai (aN (i:=3) bB.nd rfl (ay rfl) (aL yT (bT (aa ak af)) (bz dG rfl T.iC BT.iy (aa (pv 0) af))))
 (ai (aN (i:=4) bB.nd rfl (ay rfl) kj)
 (ai (lq bJ (pW (pv 4))
 (ai (aN (i:=4) bB.nd rfl (ay rfl) kj)
 (aq (cM bJ rfl (vV rfl T.zU rfl T.eO (aa (bz dG rfl T.iC BT.iy (aa (pv 0) af)) af)) (bg (i:=5) bB.nd rfl (bL rfl))
 (ai (aN (i:=6) bB.nd rfl (ay rfl) ak)
 (ai (cM bJ rfl (bR (bw T.wR (xj T) hr (aa (aR cK (pv 0) (pv 5) (λ _ _=>rfl)) af))) (bg (i:=7) bB.nd rfl (ay rfl))
 (aq (aN (i:=6) bB.nd rfl (ay rfl) (aL Ll (pv 6) (aR cK (pv 3) (pv 7) (λ _ _=>rfl))))))
 (ai (aN (i:=8) bB.nd rfl (ay rfl) (bw T.given (xo T) hr (aa (aR cK (pv 0) (pv 5) (λ _ _=>rfl)) (aa (pv 2) af))))
 (lC (bZ (aD Lm (pv 8) ak (aU _))
 (aq (aN (i:=6) bB.nd rfl (ay rfl) (aL Ed (pv 6) (aL yL ak (aL Ec ak (pv 8))))))
 aX)
 (ai (cM bJ rfl (bR (bw T.read (BB T) hr (aa (aR cK (pv 0) (pv 5) (λ _ _=>rfl)) (aa (pv 2) af)))) (bg (i:=9) bB.nd rfl (ay rfl))
 (aq (aN (i:=6) bB.nd rfl (ay rfl) (aL Ll (pv 6) (aL Ec ak (pv 9))))))
 (ai (aN (i:=4) bB.nd rfl (ay rfl) (QU (pv 4) (yG (ji An (pv 6) (aR cK (pv 3) (pv 5) (λ _ _=>rfl)) (aU _)))))
 (aq (tV (pv 6) (D9 (pv 3) (pv 5) set_list)))))))))))))
 (aq (di (iu cQ gw gz dZ (pv 1) (aa (pv 3) af))))))))
 (ai (aN (i:=10) bB.nd rfl (ay rfl) (bT af))
 (ai (cM bJ rfl (dF rfl T.eO (aa (bz dG rfl T.iC BT.iy (aa (pv 0) af)) af)) (bg (i:=5) bB.nd rfl (bL rfl))
 (aq (di (iu cQ gw gz dZ (pv 10) (aa (cT (bN.caps (x := "_law_n") (fr:=["_law_found", "_law_p"]) (ix:=[1,5]) (nm:=["_law_p", "_law_found"]) rfl rfl (by decide +kernel) rfl (by decide +kernel) rfl (by decide +kernel) ⟨rfl,⟨rfl,trivial⟩⟩ rfl (by decide +kernel) rfl ⟨⟨rfl,rfl,rfl⟩,⟨⟨rfl,rfl,rfl⟩,trivial⟩⟩) (dF rfl T.eO (aa ak af)) (λ _ _ _ _=>(kP (aD c9 (aL Ed (aL MW (aR (iU (K:=K) rfl) (aR (iU (K:=K) rfl) (pv 1) (aL eK (pv 0) ak) (λ _ _=>rfl)) (pv 2) (λ _ _=>rfl)) (aL cz (pv 0) ak)) ak) ak (aU _)))) (λ _ _ _ _=>(cF (aa (aL eK (pv 0) ak) (aa (aL cz (pv 0) ak) af))))) af)))))
 (aq (aI (pv 10))))))),?_⟩
 have C2:=hrs.length
 show (_:TS) (Ends.mk _ _ _ _) [_,_,_,_,_,_,_,_,_,_,_] H
 walk_at "start"
 walk_at "go"
 rename_i f H1 n1
 have ff:=n1.1
 have s1:=n1.same
 have hf1:=n1.self
 clear n1
 refine lF (λ i σ' H'=>(∃ x2 x3 x4 x5 x6 x7 x8 x9,σ'=[some (.ref p),some (.ref f),x2,x3,x4,x5,x6,x7,x8,x9,none]) /\ aE H H' /\ ∃ as:List Addr,as.length=i /\ f ∉ as /\ H' f=some (.lst (as.map V.ref)) /\ ∀ (j:Nat) a,as[j]? = some a->∃ ms,qR H' a ms /\ Done rs (j:Int) ms) ?_ ?_ ?_
 ·exact ⟨⟨_,_,_,_,_,_,_,_,rfl⟩,s1,[],rfl,(λ h=>nomatch h),hf1,λ j a h=>by simp at h⟩
 ·rintro i σ' H2 hi ⟨⟨x2,x3,x4,x5,x6,x7,x8,x9,rfl⟩,s2,as,hal,Ph,hf2,has⟩
  have hi2:i < 2:=by omega
  have Ke:(0 + (i:Int))=0 \/ (0 + (i:Int))=1:=by omega
  have hp2:=s2 _ _ hp
  walk_at "go"
  rename_i z H3 n3
  refine vF n3.self (by omega) (by omega) (by simp; omega) ?_
  intro al H4 n4
  have PK:H2 al=none:=n3.same.free n4.1
  have s4:=n3.same.trans n4.same
  have hm4:qR H4 al (List.replicate rs.length 0):=by
   have:=n4.self
   rw [gE,List.flatten_replicate_singleton,C2] at this
   unfold qR
   rw [this,List.map_replicate]
   rfl
  clear n3 n4
  walk_at "go"
  refine oO (λ m σ' H'=>∃ (ms:List Nat) (c:Bool) (x5 x6 x7 x8 x9:Option V),σ'=[some (.ref p),some (.ref f),some (.int (0 + (i:Int))),some (.ref al),some (.bl c),x5,x6,x7,x8,x9,none] /\ aE H2 H' /\ qR H' al ms /\ mJ rs (0 + (i:Int)) ms /\
   (c=false->∀ (k:Nat) (r:Row) (m:Nat),rs[k]? = some r->ms[k]? = some m->ef ms r (0 + (i:Int))=m) /\ m=2 * (255 * rs.length - ms.sum) + (if c=true then 1 else 0)) ⟨_,_,true,_,_,_,_,_,rfl,s4,hm4,mJ.zero rs _,(λ h=>nomatch h),rfl⟩ ?_
  clear s4 hm4
  rintro m σ' H5 ⟨ms,c,x5,x6,x7,x8,x9,rfl,s5,Wg,I5,fx,rfl⟩
  walk_at "go"
  cases c with
  | false =>
   rw [if_neg (by decide)]
   have qO:=s5 _ _ hf2
   have lM:(as.map V.ref).length=i:=by rw [au,hal]
   have Uj:al ≠ f:=(bx hf2 PK).symm
   walk_at "go"
   rename_i H6 p6
   refine ⟨⟨_,_,_,_,_,_,_,_,rfl⟩,p6.same (s2.trans s5) ff,as++[al],by simp [hal],by simp [Ph,Uj.symm],by rw [bK]; exact p6.self,λ j a h=>?_⟩
   rw [List.getElem?_append] at h
   split at h
   ·obtain ⟨ms',hm',hd'⟩:=has j a h
    exact ⟨ms',p6.keep (λ e=>Ph (by rw [<- e]; exact fS h)) (s5 _ _ hm'),hd'⟩
   ·rename_i hj
    have ej:j=i:=by
     have:=(fu h).1
     simp at this
     omega
    subst ej
    rw [hal,Nat.sub_self] at h
    cases h
    refine ⟨ms,p6.keep Uj Wg,I5.len,λ k m b hm hb=>?_⟩
    have:=I5.done Ke hok (fx rfl) hm hb
    rw [Int.zero_add] at this
    exact this
  | true =>
   rw [if_pos rfl]
   walk_at "go"
   refine FD (λ i' σ' H'=>∃ (ms':List Nat) (c':Bool) (x5 x6 x7 x8 x9:Option V),σ'=[some (.ref p),some (.ref f),some (.int (0 + (i:Int))),some (.ref al),some (.bl c'),x5,x6,x7,x8,x9,none] /\ aE H2 H' /\ qR H' al ms' /\ mJ rs (0 + (i:Int)) ms' /\
    (c'=true->ms.sum < ms'.sum) /\ (c'=false->ms'=ms /\ ∀ (k:Nat) (r:Row) (m:Nat),us.length - i' <= k->rs[k]? = some r->ms'[k]? = some m->ef ms' r (0 + (i:Int))=m)) ?_ ?_ ?_
   ·refine ⟨ms,false,_,_,_,_,_,rfl,s5,Wg,I5,(λ h=>nomatch h),λ _=>⟨rfl,λ k r m hk hr _=>?_⟩⟩
    have:=(fu hr).1
    omega
   ·rintro i' σ' H6 hi' ⟨ms',c',y5,y6,y7,y8,y9,rfl,s6,Wh,I6,Yw,Wi⟩
    have hk:us.length - 1 - i' < rs.length:=by omega
    have hku:us.length - 1 - i' < us.length:=by omega
    have ek:((us.length:Int) - 1 - (i':Int))=((us.length - 1 - i':Nat):Int):=by omega
    rw [ek]
    obtain ⟨k,ekk⟩:∃ k,k=us.length - 1 - i':=⟨_,rfl⟩
    rw [<- ekk] at hk hku ⊢
    have PL:ms'[k]? = some (ms'[k]'(by rw [I6.len]; exact hk)):=dJ _
    generalize ms'[k]'(by rw [I6.len]; exact hk)=mk at PL
    have Uk:us[k]? = some us[k]:=dJ hku
    obtain ⟨r,hr',ra,Yx,Yc⟩:=aW hrs Uk
    rw [Yx] at Uk
    have ho:=hok r (fS hr')
    have Yy:=s2.trans s6
    have Yz:=Yy _ _ hp
    have PM:=Yy _ _ Yc
    walk_at "go"
    refine dz (bD.of Yz) (v:=.ref ra) (cJ Uk) ?_
    walk_at "go"
    refine ⟨ra,r,rfl,PM,λ lw H7 n7=>?_⟩
    have hlw:=n7.self
    have s7:=s6.trans n7.same
    have YA:=n7.keep Wh
    have V9:=n7.keep Yz
    have PN:=n7.keep PM
    clear n7 Yz PM Wh s6 Yy
    walk_at "go"
    refine f_list (xs:=r.ways.map V.int) (λ j σ' H'=>H'=H7 /\ ∃ x7,σ'=[some (.ref p),some (.ref f),some (.int (0 + (i:Int))),some (.ref al),some (.bl c'),some (.int (k:Int)),some (.int (((r.ways.take j).foldl (λ m q=>m ||| ms'.getD q.toNat 0) 0:Nat):Int)),x7,y8,y9,none]) ⟨rfl,_,rfl⟩ ?_ ?_ ?_
    ·rintro j σ' H' _ ⟨rfl,_⟩
     exact bD.of hlw
    ·rintro j x σ' H' hx ⟨rfl,x7,rfl⟩
     rw [aY] at hx
     obtain ⟨y,hy,rfl⟩:=dg.mp hx
     have Wb:=Row.iE ho y (fS hy)
     have hyl:y.toNat < ms'.length:=by rw [I6.len]; omega
     obtain ⟨my,hym⟩:∃ my,ms'[y.toNat]? = some my:=⟨_,dJ hyl⟩
     have eat:=qS hym
     rw [Int.toNat_of_nonneg Wb.1] at eat
     walk_at "go"
     refine dz (bD.of YA) eat ?_
     walk_at "go"
     refine ⟨rfl,some (.int y),?_⟩
     rw [G3,bV,hy,List.foldl_append]
     show _=[_,_,_,_,_,_,some (V.int ((_ ||| ms'.getD y.toNat 0:Nat):Int)),_,_,_,_]
     rw [getD_at hym]
    rintro σ' H' ⟨rfl,x7,rfl⟩
    rw [au,cD]
    have eW:r.ways.foldl (λ m q=>m ||| ms'.getD q.toNat 0) 0=Kw ms' r:=rfl
    rw [eW]
    clear eW hlw
    walk_at "go"
    refine dz (bD.of V9) (v:=.ref ra) (cJ Uk) ?_
    walk_at "go"
    refine ⟨ra,r,0 + (i:Int),rfl,PN,λ H8 s8=>?_⟩
    have hp8:=s8 _ _ V9
    have Ul:=s8 _ _ PN
    have hm8:=s8 _ _ YA
    have s28:=s7.trans s8
    clear s8 s7 V9 PN YA
    have PJ:=xg ho (0 + (i:Int))
    walk_at "go"
    refine EK (λ σ' H'=>H'=H8 /\ σ'=[some (.ref p),some (.ref f),some (.int (0 + (i:Int))),some (.ref al),some (.bl c'),some (.int (k:Int)),some (.int ((nQ (Kw ms' r) (r.gv (0 + (i:Int))):Nat):Int)),x7,some (.int (r.gv (0 + (i:Int)))),y9,none]) ?_ ?_
    ·walk_at "go"
     ·rename_i h0
      refine ⟨rfl,?_⟩
      rw [KC _ h0 PJ]
     ·rename_i h0
      refine ⟨rfl,?_⟩
      unfold nQ
      rw [if_neg h0]
    rintro _ _ ⟨rfl,rfl⟩
    walk_at "go"
    refine dz (bD.of hp8) (v:=.ref ra) (cJ Uk) ?_
    walk_at "go"
    refine ⟨ra,r,0 + (i:Int),rfl,Ul,λ lr H9 s9 _ hlr=>?_⟩
    have YB:=s9 _ _ hm8
    have s29:=s28.trans s9
    clear s9 s28 hp8 Ul hm8
    walk_at "go"
    refine f_list (xs:=(r.rd (0 + (i:Int))).map V.int) (λ j σ' H'=>H'=H9 /\ ∃ x9,σ'=[some (.ref p),some (.ref f),some (.int (0 + (i:Int))),some (.ref al),some (.bl c'),some (.int (k:Int)),some (.int ((((r.rd (0 + (i:Int))).take j).foldl (λ m b=>m ||| 2 ^ b.toNat) (nQ (Kw ms' r) (r.gv (0 + (i:Int)))):Nat):Int)),x7,some (.int (r.gv (0 + (i:Int)))),x9,none]) ⟨rfl,_,rfl⟩ ?_ ?_ ?_
    ·rintro j σ' H' _ ⟨rfl,_⟩
     exact bD.of hlr
    ·rintro j x σ' H' hx ⟨rfl,x9',rfl⟩
     rw [aY] at hx
     obtain ⟨y,hy,rfl⟩:=dg.mp hx
     have Wb:=GY ho _ y (fS hy)
     walk_at "go"
     refine ⟨rfl,some (.int y),?_⟩
     rw [BD Wb.1,G3,bV,hy,List.foldl_append]
     rfl
    rintro σ' H' ⟨rfl,x9',rfl⟩
    rw [au,cD]
    have eS:(r.rd (0 + (i:Int))).foldl (λ m b=>m ||| 2 ^ b.toNat) (nQ (Kw ms' r) (r.gv (0 + (i:Int))))=ef ms' r (0 + (i:Int)):=rfl
    rw [eS]
    clear eS hlr
    have hix:Em (ms'.map λ m:Nat=>V.int m).length (k:Int)=some k:=by
     rw [au]
     exact GN (by omega) (by rw [I6.len]; omega)
    have Um:=I6.set Ke hok PL hr'
    have hup:=I6.up Ke hok PL hr'
    have hsum:=sum_set ms' k mk (ef ms' r (0 + (i:Int))) PL
    cases c' with
    | true =>
     have hlt:=Yw rfl
     walk_at "go"
     refine um YB hix ?_
     intro GV PR
     rw [xq] at PR
     walk_at "go"
     exact ⟨_,true,_,_,_,_,_,rfl,PR.same s29 PK,PR.self,Um,(λ _=>by omega),λ h=>nomatch h⟩
    | false =>
     obtain ⟨rfl,YC⟩:=Wi rfl
     walk_at "go"
     refine dz (bD.of YB) (v:=.int (mk:Nat)) (qS PL) ?_
     walk_at "go"
     refine um YB hix ?_
     intro GV PR
     rw [xq] at PR
     walk_at "go"
     refine ⟨_,_,_,_,_,_,_,rfl,PR.same s29 PK,PR.self,Um,λ h=>?_,λ h=>?_⟩
     ·have hne:ef ms' r (0 + (i:Int)) ≠ mk:=λ e=>by
       rw [e] at h
       simp at h
      omega
     ·have heq:ef ms' r (0 + (i:Int))=mk:=by
       simp only [Bool.not_eq_false',decide_eq_true_eq] at h
       omega
      rw [heq,xh ms' k mk PL]
      refine ⟨rfl,λ k2 r2 m2 hk2 hr2 hm2=>?_⟩
      by_cases e:k2=k
      ·subst e
       rw [hr'] at hr2
       cases hr2
       rw [PL] at hm2
       cases hm2
       exact heq
      ·exact YC k2 r2 m2 (by omega) hr2 hm2
   ·rintro σ' H6 ⟨ms',c',y5,y6,y7,y8,y9,rfl,s6,Wh,I6,Yw,Wi⟩
    walk_at "go"
    have l1:=z8 ms I5.lt
    have l2:=z8 ms' I6.lt
    rw [I5.len] at l1
    rw [I6.len] at l2
    refine ⟨_,?_,ms',c',_,_,_,_,_,rfl,s6,Wh,I6,λ h=>?_,rfl⟩
    ·cases c' with
     | true =>
      have:=Yw rfl
      simp only [if_true]
      omega
     | false =>
      rw [(Wi rfl).1]
      simp only [if_true,bG,if_false]
      omega
    ·obtain ⟨rfl,YC⟩:=Wi h
     intro k r m hr hm
     exact YC k r m (by omega) hr hm
 ·rintro σ' H2 ⟨⟨x2,x3,x4,x5,x6,x7,x8,x9,rfl⟩,s2,as,hal,Ph,hf2,has⟩
  walk_at "go"
  rename_i g H3 n3
  have fg:H2 g=none:=n3.1
  have s3:=n3.same
  have hg3:=n3.self
  clear n3
  refine lF (λ k σ' H'=>(∃ x5,σ'=[some (.ref p),some (.ref f),x2,x3,x4,x5,x6,x7,x8,x9,some (.ref g)]) /\ aE H2 H' /\ ∃ bs:List Addr,bs.length=k /\ g ∉ bs /\ H' g=some (.lst (bs.map V.ref)) /\ ∀ (j:Nat) b,bs[j]? = some b->∃ vs,H' b=some (.lst vs) /\ bu H' vs (jS rs j)) ?_ ?_ ?_
  ·exact ⟨⟨_,rfl⟩,s3,[],rfl,(λ h=>nomatch h),hg3,λ j b h=>by simp at h⟩
  ·rintro k σ' H4 hk ⟨⟨x5',rfl⟩,s4,bs,Ih,YD,Wj,rL⟩
   have hk':k < rs.length:=by omega
   have tw:=s4 _ _ hf2
   walk_at "go"
   refine jZ (λ n ys H'=>aE H4 H' /\ bu H' ys ((bX.take n).filter (isLive rs k))) ⟨aE.refl _,.nil⟩ ?_ ?_
   ·rintro n ys H5 hn5 ⟨s5,hys⟩
    have YE:n < 16:=by omega
    have hyl:=hys.length
    have hfl:((bX.take n).filter (isLive rs k)).length <= n:=bE (gH _ _) (by rw [cu]; omega)
    refine ⟨ck (by omega),?_⟩
    have hj:n / 8 < as.length:=by omega
    obtain ⟨a,ha⟩:∃ a,as[n / 8]? = some a:=⟨_,dJ hj⟩
    obtain ⟨ms,hms,hml,hmd⟩:=has _ a ha
    obtain ⟨m,hm⟩:∃ m,ms[k]? = some m:=⟨_,dJ (by omega)⟩
    have qO:=s5 _ _ tw
    have Wg:=(s4.trans s5) _ _ hms
    have e8:(0 + (n:Int)) / 8=((n / 8:Nat):Int):=by omega
    have e9:(0 + (n:Int)) % 8=((n % 8:Nat):Int):=by omega
    have u5:bX[n]? = some (((n / 8:Nat):Int),((n % 8:Nat):Int)):=by
     have all:∀ u:Fin 16,bX[u.val]? = some (((u.val / 8:Nat):Int),((u.val % 8:Nat):Int)):=by decide
     exact all ⟨n,YE⟩
    have hb:=hmd k m (n % 8) hm (by omega)
    walk_at "go"
    refine dz (bD.of qO) (v:=.ref a) (by rw [e8]; exact cJ (by rw [aY,ha]; rfl)) ?_
    walk_at "go"
    refine dz (bD.of Wg) (v:=.int (m:Nat)) (by rw [Int.zero_add]; exact qS hm) ?_
    have Wk:((0 + (n:Int)) % 8).toNat=n % 8:=by omega
    have eb:=KD m (n % 8)
    rw [<- Wk] at eb
    have Uo:(bX.take (n + 1)).filter (isLive rs k)=(bX.take n).filter (isLive rs k)++if m.testBit (n % 8)=true then [(((n / 8:Nat):Int),((n % 8:Nat):Int))] else []:=by
     rw [bV,u5,gG]
     congr 1
     show [_].filter _=_
     by_cases hl:m.testBit (n % 8)=true
     ·rw [if_pos hl,mV (gW.mpr (hb.mp hl))]
      rfl
     ·rw [if_neg hl,mU (λ z=>hl (hb.mpr (gW.mp z)))]
      rfl
    rw [Wk] at eb
    rw [Uo]
    walk_at "go"
    ·rename_i C7 t6 H6 n6
     rw [Wk,eb] at C7
     have ht:m.testBit (n % 8)=true:=by
      split at C7
      ·assumption
      ·exact absurd C7 (by decide)
     rw [if_pos ht]
     refine ⟨s5.trans n6.same,cA (hys.same n6.same) ⟨t6,rfl,?_⟩⟩
     rw [n6.self,e8,e9]
    ·rename_i C7
     rw [Wk,eb] at C7
     have ht:¬ m.testBit (n % 8)=true:=λ z=>C7 (by rw [if_pos z])
     rw [if_neg ht,dQ]
     exact ⟨s5,hys⟩
   ·rintro ys H5 ⟨s5,hys⟩ l H6 n6
    have PU:=n6.self
    have C8:=hys.same n6.same
    have rX:=s5.trans n6.same
    have PJ:g ≠ l:=bx (s5 _ _ Wj) n6.1
    have hlb:l ∉ bs:=λ h=>by
     obtain ⟨j,hj⟩:=eU.mp h
     obtain ⟨vs,hv,_⟩:=rL j l hj
     have:=s5 _ _ hv
     rw [n6.1] at this
     cases this
    clear n6 s5 hys
    have hg6:=rX _ _ Wj
    have acy:(bs.map V.ref).length=k:=by rw [au,Ih]
    walk_at "go"
    rename_i H7 p7
    have tt:fU H6 H7:=λ b xs e=>p7.keep (pT e hg6 (by intro z; cases z)) e
    refine ⟨⟨_,rfl⟩,p7.same (s4.trans rX) fg,bs++[l],by simp [Ih],by simp [YD,PJ],by rw [bK]; exact p7.self,λ j b h=>?_⟩
    rw [List.getElem?_append] at h
    split at h
    ·obtain ⟨vs,hv,hvs⟩:=rL j b h
     exact ⟨vs,p7.keep (λ e=>YD (by rw [<- e]; exact fS h)) (rX _ _ hv),(hvs.same rX).jQ tt⟩
    ·have ej:j=k:=by
      have:=(fu h).1
      simp at this
      omega
     subst ej
     rw [Ih,Nat.sub_self] at h
     cases h
     exact ⟨ys,p7.keep PJ.symm PU,C8.jQ tt⟩
  ·rintro σ' H4 ⟨⟨x5',rfl⟩,s4,bs,Ih,YD,Wj,rL⟩
   walk_at "go"
   exact q g bs H4 (s2.trans s4) (s2.free fg) Wj (by omega) rL
end
open HM in
def Row.ends(r:Row):cX->Bool
 | none=>nW (.str r.key) [.str "mark", .str "out", .str "back"]
 | some p=>nW (.str r.key) [.str "look", .str "out", .str "back"] && decide (r.oH.headD 0=p.2)
open HM in
def LeftOf(r:Row):cX->cX->Prop
 | none,u=>r.ends none=false /\ u=none
 | some p,u=>r.ends (some p)=false /\ ((u=some p /\ r.gv p.1 ≠ p.2) \/ (u=some (p.1,r.gv p.1) /\ 0 <= r.gv p.1 /\ p.2∈r.rd p.1))
open HM in
def cX.lv(rs:List Row)(k:Nat):cX->Prop
 | none=>True
 | some p=>p∈jS rs k
open HM in
def KH(rs:List Row)(r:Row)(t:cX)(z:bf):Prop:=z.1∈r.ways /\ LeftOf r t z.2 /\ cX.lv rs z.1.toNat z.2
open HM in
def z9:cX->Prop
 | none=>True
 | some p=>(p.1=0 \/ p.1=1) /\ 0 <= p.2 /\ p.2 < 8
theorem LeftOf.ok{n:Int}(h:r.ok n){u:HM.cX}(ht:z9 t)(l:LeftOf r t u):z9 u /\ u.isSome=t.isSome:=by
 cases t with
 | none=>rw [l.2]; exact ⟨trivial,rfl⟩
 | some p =>
  rcases l.2 with ⟨rfl,_⟩ | ⟨rfl,h0,_⟩
  ·exact ⟨ht,rfl⟩
  ·exact ⟨⟨ht.1,h0,xg h _⟩,rfl⟩
theorem uO{α:Type}(f:α->Int):∀ {xs ys:List α},xs.Pairwise (λ p q=>f p < f q)->ys.Pairwise (λ p q=>f p < f q)->(∀ p,p∈xs ↔ p∈ys)->xs=ys
 | [],[],_,_,_=>rfl
 | [],y :: ys,_,_,h=>absurd ((h y).mpr (by simp)) (by simp)
 | x :: xs,[],_,_,h=>absurd ((h x).mp (by simp)) (by simp)
 | x :: xs,y :: ys,hx,hy,h=>by
  have h1:=mY.mp hx
  have h2:=mY.mp hy
  have e:x=y:=by
   rcases aJ.mp ((h x).mp (by simp)) with e | e
   ·exact e
   ·rcases aJ.mp ((h y).mpr (by simp)) with e' | e'
    ·exact e'.symm
    ·have:=h1.1 _ e'; have:=h2.1 _ e; omega
  subst e
  rw [uO f h1.2 h2.2 λ p=>?_]
  constructor
  ·intro hp
   rcases aJ.mp ((h p).mp (cV _ hp)) with e | e
   ·rw [e] at hp; have:=h1.1 _ hp; omega
   ·exact e
  ·intro hp
   rcases aJ.mp ((h p).mpr (cV _ hp)) with e | e
   ·rw [e] at hp; have:=h2.1 _ hp; omega
   ·exact e
def cY(r:Row):HM.cX->List HM.cX
 | none=>if r.ends none then [] else [none]
 | some p=>if r.ends (some p) then [] else (if p∈bC r then [] else [some p])++if p∈cP r then ((bC r).filter λ q=>decide (q.1=p.1)).map some else []
theorem C9(b:Int):(SN.d9 [b]).length <= 1:=by
 have h1:=SN.vO [b]
 have h2:∀ n∈SN.d9 [b],n=b:=λ n hn=>by
  unfold SN.d9 at hn
  obtain ⟨k,hk,rfl⟩:=aG.mp hn
  have:=(dS.mp hk).2
  simpa using this
 match h:SN.d9 [b] with
 | []=>simp
 | [_]=>simp
 | x :: y :: l =>
  rw [h] at h1 h2
  have e1:=h2 x (by simp)
  have e2:=h2 y (by simp)
  have:=(mY.mp h1).1 y (by simp)
  omega
theorem Aa(r:Row)(hs:s=0 \/ s=1):((bC r).filter λ q=>decide (q.1=s)).length <= 1:=by
 unfold bC
 split
 ·rename_i hd
  have e:=qQ hd
  rw [e]
  unfold jr
  have l1:=C9 (r.oH.headD 0)
  generalize r.oH.headD 0=hd0 at l1 ⊢
  have all:∀ (s':Int),(((SN.d9 [hd0]).map λ b=>(s',b)).filter λ q=>decide (q.1=s))=if s'=s then (SN.d9 [hd0]).map λ b=>(s',b) else []:=λ s'=>by
   split
   ·rename_i e
    rw [List.filter_eq_self]
    intro x hx
    obtain ⟨b,_,rfl⟩:=aG.mp hx
    simpa using e
   ·rename_i e
    rw [List.filter_eq_nil_iff]
    intro x hx
    obtain ⟨b,_,rfl⟩:=aG.mp hx
    simpa using e
  simp only [mW,List.flatMap_nil,dQ,gG,bh]
  rcases hs with rfl | rfl
  ·have a0:=all 0
   have a1:=all 1
   cases h0:fO r 0 <;> cases h1:fO r 1 <;> simp only [if_true,bG,if_false,a0,a1,List.filter_nil,List.length_nil] <;> simp <;> omega
  ·have a0:=all 0
   have a1:=all 1
   cases h0:fO r 0 <;> cases h1:fO r 1 <;> simp only [if_true,bG,if_false,a0,a1,List.filter_nil,List.length_nil] <;> simp <;> omega
 ·simp
theorem Dc(r:Row):(bC r).length <= 16:=by
 unfold bC
 split
 ·unfold jr
  have h:=j7 (r.oH.take 1)
  simp only [mW,List.flatMap_nil,dQ,bh]
  have e:∀ s:Int,(if fO r s=true then (SN.d9 (r.oH.take 1)).map λ b=>(s,b) else []).length <= 8:=λ s=>by split <;> simp [h]
  have h0:=e 0
  have h1:=e 1
  omega
 ·simp
theorem qT(r:Row)(ht:z9 t):(cY r t).length <= 2:=by
 cases t with
 | none=>unfold cY; dsimp only; split <;> simp
 | some p =>
  unfold cY
  dsimp only
  have:=Aa r (s:=p.1) ht.1
  split
  ·simp
  ·rw [bh]
   have h1:(if p∈bC r then ([]:List HM.cX) else [some p]).length <= 1:=by split <;> simp
   have h2:(if p∈cP r then ((bC r).filter λ q=>decide (q.1=p.1)).map some else ([]:List HM.cX)).length <= 1:=by
    split
    ·rw [au]; exact this
    ·simp
   omega
theorem Dd{n:Int}(h:r.ok n)(hg:(s,b)∈bC r):0 <= b:=by
 unfold bC at hg
 split at hg
 ·have:=w6 (λ b hb=>jR h b (List.take_subset _ _ hb)) hg
  have all:∀ q∈bX,0 <= q.2:=by decide
  exact all _ this
 ·exact nomatch hg
theorem gX{n:Int}(h:r.ok n)(ht:z9 t)(u:HM.cX):u∈cY r t ↔ LeftOf r t u:=by
 cases t with
 | none =>
  unfold cY LeftOf
  dsimp only
  cases r.ends none <;> simp
 | some p =>
  obtain ⟨hs,hb0,DZ⟩:=ht
  obtain ⟨s,b⟩:=p
  dsimp only at hs hb0 DZ
  unfold cY LeftOf
  dsimp only
  cases r.ends (some (s,b)) with
  | true=>simp
  | false =>
   simp only [bG,if_false,true_and]
   rw [aO]
   have e1:u∈(if (s,b)∈bC r then ([]:List HM.cX) else [some (s,b)]) ↔ (u=some (s,b) /\ r.gv s ≠ b):=by
    have mg:=i6 h hs hb0
    split
    ·rename_i e; simp [mg.mp e]
    ·rename_i e; simp [show ¬ r.gv s=b from λ z=>e (mg.mpr z)]
   have e2:u∈(if (s,b)∈cP r then ((bC r).filter λ q=>decide (q.1=s)).map some else ([]:List HM.cX)) ↔ (u=some (s,r.gv s) /\ 0 <= r.gv s /\ b∈r.rd s):=by
    have mr:=nP h hs (b:=b)
    split
    ·rename_i e
     replace e:=mr.mp e
     rw [aG]
     constructor
     ·rintro ⟨⟨s',b'⟩,hq,rfl⟩
      obtain ⟨hg,hq2⟩:=dS.mp hq
      have hq2:s'=s:=by simpa using hq2
      subst hq2
      have hb':0 <= b':=Dd h hg
      have:=(i6 h hs hb').mp hg
      rw [this]
      exact ⟨rfl,hb',e⟩
     ·rintro ⟨rfl,h0,_⟩
      exact ⟨(s,r.gv s),dS.mpr ⟨(i6 h hs h0).mpr rfl,by simp⟩,rfl⟩
    ·rename_i e
     simp [show ¬ b∈r.rd s from λ z=>e (mr.mpr z)]
   rw [e1,e2]
def Im(rs:List Row)(k:Nat):HM.cX->Bool
 | none=>true
 | some p=>decide (p∈jS rs k)
theorem o8:Im rs k t=true ↔ cX.lv rs k t:=by cases t <;> simp [Im,cX.lv]
theorem BE(h:nW (.str r.key) [.str "look", .str "out", .str "back"]=true):rN r.vals 1=some (.int (r.oH.headD 0)):=by
 cases r <;> first | rfl | (exact absurd (show nW (.str "num") [.str "look", .str "out", .str "back"]=true from h) (by decide)) | (exact absurd (show nW (.str "copy") [.str "look", .str "out", .str "back"]=true from h) (by decide)) | (exact absurd (show nW (.str "op") [.str "look", .str "out", .str "back"]=true from h) (by decide)) | (exact absurd (show nW (.str "mark") [.str "look", .str "out", .str "back"]=true from h) (by decide))
abbrev fV(H:Hp):List V->List HM.cX->Prop:=Paired λ x t=>b8 H t x
theorem fV.same(h:fV H vs ts)(e:aE H H'):fV H' vs ts:=cj (λ _ _ x=>b8.same x e) h
section
variable {P:Program}{w:World}{K:aA}{mg:Str->Option Value}{base:Heap}
def G4:Sp:=λ vs H Q _=>∃ (a tk gv:Addr) (x:V) (r:Row) (n:Int) (t:HM.cX) (us ws:List V),vs=[.ref a,x,.ref tk,.ref gv] /\ H a=some (.tup r.vals) /\ r.ok n /\ b8 H t x /\ z9 t /\ H tk=some (.lst us) /\ bu H us (cP r) /\ H gv=some (.lst ws) /\ bu H ws (bC r) /\
 ∀ (l:Addr) (xs:List V) (H':Hp),aE H H'->H l=none->H' l=some (.lst xs)->fV H' xs (cY r t)->Q (.ref l) H'
theorem nR(T:Txt w K mg):bY P w K mg base gr 1 T.gf.f T.gf.d ["row", "thing", "taken", "given"] G4:=by
 refine T.gf.F.ok iX (λ vs H Q E h=>?_) (λ cdv A outer s H vs Q E hr h=>?_)
 ·obtain ⟨a,tk,gv,x,r,n,t,us,ws,rfl,_⟩:=h
  rfl
 obtain ⟨a,tk,gv,x,r,n,t,us,ws,rfl,ha,hok,hx,ht,htk,jj,Uq,hws,q⟩:=h
 have cm:=T.iO.q
 have cs:=T.iP.q
 refine ⟨_,(ai (bZ (aD (nD hr.units) (pv 1) bA (aU _))
 (aq (aI (gP (aD fh (aR br (pv 0) ak (λ _ _=>rfl)) (ie (v:=.ref T.iO.a) rfl T.iO.c rfl) (by with_unfolding_all rfl)) (bT af) (bT (aa bA af)))))
 aX)
 (ai (bZ (PW.pt (jG (aD fh (aR br (pv 0) ak (λ _ _=>rfl)) (ie (v:=.ref T.iP.a) rfl T.iP.c rfl) (by with_unfolding_all rfl)) (ig (aD c9 (aR br (pv 0) ak (λ _ _=>rfl)) (aR br (pv 1) ak (λ _ _=>rfl)) (aU _)))))
 (aq (aI (bT af)))
 aX)
 (ai (aN (i:=4) iX.nd rfl (ay rfl) (gP (aD (uw hr.units) (pv 1) (pv 3) (by with_unfolding_all rfl)) (bT af) (bT (aa (pv 1) af))))
 (ai (bZ (aD (uw hr.units) (pv 1) (pv 2) (by with_unfolding_all rfl))
 (aq (di (iu cQ kZ k6 iS (pv 4) (aa (cT (bN.caps (x := "spot") (fr:=["thing"]) (ix:=[1]) (nm:=["thing"]) rfl rfl (by decide +kernel) rfl (by decide +kernel) rfl (by decide +kernel) ⟨rfl,trivial⟩ rfl (by decide +kernel) rfl ⟨⟨rfl,rfl,rfl⟩,trivial⟩) (bR (pv 3)) (λ _ _ _ _=>(kP (aD c9 (aR (uo (K:=K) rfl) (pv 0) ak (λ _ _=>rfl)) (aR (uo (K:=K) rfl) (pv 1) ak (λ _ _=>rfl)) (aU _)))) (λ _ _ _ _=>(pv 0))) af))))
 aX)
 (aq (aI (pv 4))))))),?_⟩
 show (_:TS) (Ends.mk _ _ _ _) [_,_,_,_,_] H
 walk_at "start"
 walk_at "go"
 refine v9 hx ?_
 cases t with
 | none =>
  show nY _ (.bl true) H
  walk_at "go"
  split
  ·rename_i he
   walk_at "go"
   rename_i l H1 n1
   refine q l [] H1 n1.same n1.1 n1.self ?_
   unfold cY
   dsimp only
   rw [if_pos (show r.ends none=true from he)]
   exact .nil
  ·rename_i he
   walk_at "go"
   rename_i l H1 n1
   refine q l _ H1 n1.same n1.1 n1.self ?_
   unfold cY
   dsimp only
   rw [if_neg (show ¬ r.ends none=true from he)]
   exact .cons rfl .nil
 | some p =>
  show nY _ (.bl false) H
  obtain ⟨b,rfl,hb⟩:=hx
  have hwl:=hws.length
  have PJ:(bC r).length <= 16:=Dc r
  walk_at "go"
  have rest:r.ends (some p)=false->V6 [some (.ref a),some (.ref b),some (.ref tk),some (.ref gv),none] H:=by
   intro he
   have em:cY r (some p)=(if p∈bC r then [] else [some p])++if p∈cP r then ((bC r).filter λ q=>decide (q.1=p.1)).map some else []:=by
    unfold cY
    dsimp only
    rw [he]
    rfl
   refine qD _ _ ?_
   walk_at "go"
   refine vS hb (bD.of Uq) hws ?_
   by_cases hg:p∈bC r
   case' pos =>
    rw [decide_eq_true hg]
    show nY _ (.bl true) H
    walk_at "go"
    rename_i f H1 n1
    have bs:∃ vs,H1 f=some (.lst vs) /\ fV H1 vs (if p∈bC r then [] else [some p]) /\ vs.length <= 1:=⟨[],n1.self,by rw [if_pos hg]; exact .nil,aQ _⟩
   case' neg =>
    rw [decide_eq_false hg]
    show nY _ (.bl false) H
    walk_at "go"
    rename_i f H1 n1
    have bs:∃ vs,H1 f=some (.lst vs) /\ fV H1 vs (if p∈bC r then [] else [some p]) /\ vs.length <= 1:=⟨[.ref b],n1.self,by rw [if_neg hg]; exact .cons ⟨b,rfl,n1.keep hb⟩ .nil,az _⟩
   all_goals
    have s1:=n1.same
    have ff:=n1.1
    clear n1
    obtain ⟨vs,hf1,hvs,hvl⟩:=bs
    have hb1:=s1 _ _ hb
    have YF:=s1 _ _ htk
    have YG:=s1 _ _ Uq
    have YH:=bu.same s1 jj
    have YI:=bu.same s1 hws
    refine vS hb1 (bD.of YF) YH ?_
    by_cases hr:p∈cP r
    ·rw [decide_eq_true hr]
     show nY _ (.bl true) H1
     walk_at "go"
     refine f7 (xs:=ws) (λ k zs H'=>H'=H1 /\ fV H1 zs ((((bC r).take k).filter λ q=>decide (q.1=p.1)).map some)) ⟨rfl,.nil⟩ ?_ ?_ ?_
     ·rintro k zs H' _ ⟨rfl,_⟩
      exact bD.of YG
     ·rintro k y zs H' hy ⟨rfl,hz⟩
      obtain ⟨t,PV,c,rfl,hc⟩:=aW YI hy
      have Ur:=hz.length
      rw [au] at Ur
      have hle:=gH (λ q:Int × Int=>decide (q.1=p.1)) ((bC r).take k)
      rw [cu] at hle
      refine ⟨ck (by omega),?_⟩
      have et:(bC r).take (k + 1)=(bC r).take k++[t]:=by rw [bV,PV]; rfl
      walk_at "go"
      ·rename_i e
       refine ⟨rfl,?_⟩
       rw [et,gG,bK,mV (by simpa using e)]
       exact cA hz ⟨c,rfl,hc⟩
      ·rename_i e
       refine ⟨rfl,?_⟩
       rw [et,gG,bK,mU (by simpa using e)]
       simpa using hz
     ·rintro zs H' ⟨rfl,hz⟩ l H2 n2
      rw [hwl,cD] at hz
      have Ur:=hz.length
      rw [au] at Ur
      have hle:=gH (λ q:Int × Int=>decide (q.1=p.1)) (bC r)
      have hf2:=n2.keep hf1
      have hl2:=n2.self
      have s2:=n2.same
      clear n2
      walk_at "go"
      rename_i H3 p3
      have s3:=p3.same (s1.trans s2) ff
      have kp:∀ {ys:List V} {ts:List HM.cX},fV H' ys ts->fV H3 ys ts:=λ h=>cj (λ v t x=>by
       cases t with
       | none=>exact x
       | some u=>obtain ⟨c,e1,e2⟩:=x; exact ⟨c,e1,p3.keep (by intro z; subst z; rw [hf1] at e2; cases e2) (s2 _ _ e2)⟩) h
      refine q f _ H3 s3 ff p3.self ?_
      rw [em,if_pos hr]
      exact eY (kp hvs) (kp hz)
    ·rw [decide_eq_false hr]
     show nY _ (.bl false) H1
     walk_at "go"
     refine q f vs H1 s1 ff hf1 ?_
     rw [em,if_neg hr,dQ]
     exact hvs
  clear qD
  cases he:nW (.str r.key) [.str "look", .str "out", .str "back"]
  ·rw [if_neg (by decide),if_neg (by decide)]
   refine qE _ (rest ?_)
   unfold Row.ends
   dsimp only
   rw [he]
   rfl
  ·rw [if_pos rfl]
   walk_at "go"
   refine qd (gm.of ha) (BE he) ?_
   walk_at "go"
   ·rename_i e l H1 n1
    refine q l [] H1 n1.same n1.1 n1.self ?_
    have:r.ends (some p)=true:=by
     unfold Row.ends
     dsimp only
     rw [he,decide_eq_true e]
     rfl
    unfold cY
    dsimp only
    rw [this]
    exact .nil
   ·rename_i e
    refine rest ?_
    unfold Row.ends
    dsimp only
    rw [he,decide_eq_false e]
    rfl
def iF(rs:List Row)(r:Row)(t:HM.cX)(ks:List HM.bf):Prop:=ks.Pairwise (λ x y=>HM.kY x < HM.kY y) /\ ∀ z,z∈ks ↔ KH rs r t z
def G5:Sp:=λ vs H Q _=>∃ (o th lv:Addr) (ws:List Int) (xs:List V) (ts:List HM.cX) (as:List Addr) (rs:List Row),vs=[.ref o,.ref th,.ref lv] /\ H o=some (.lst (ws.map V.int)) /\ ws.length <= 2 /\ (∀ q∈ws,0 <= q /\ q < rs.length) /\ H th=some (.lst xs) /\ fV H xs ts /\ ts.length <= 2 /\ (∀ t∈ts,z9 t) /\ (∀ t∈ts,∀ u∈ts,t.isSome=u.isSome) /\ H lv=some (.lst (as.map V.ref)) /\ as.length=rs.length /\ mH H as rs /\
 ∀ (l:Addr) (vs:List V) (ks:List HM.bf) (H':Hp),aE H H'->H l=none->H' l=some (.lst vs)->aK H' vs ks->ks.Pairwise (λ x y=>HM.kY x < HM.kY y)->(∀ z,z∈ks ↔ z.1∈ws /\ z.2∈ts /\ cX.lv rs z.1.toNat z.2)->Q (.ref l) H'
theorem Ab(T:Txt w K mg):bY P w K mg base gr 1 T.o4.f T.o4.d ["onward", "things", "lively"] G5:=by
 refine T.o4.F.ok kW (λ vs H Q E h=>?_) (λ cdv A outer s H vs Q E hr h=>?_)
 ·obtain ⟨o,th,lv,ws,xs,ts,as,rs,rfl,_⟩:=h
  rfl
 obtain ⟨o,th,lv,ws,xs,ts,as,rs,rfl,ho,hw2,hw,LN,hxs,ht2,htk,hal,DX,lM,hL,q⟩:=h
 refine ⟨_,(ai (aN (i:=3) kW.nd rfl (ay rfl) (bT af))
 (ai (cM bJ rfl (bR (pv 0)) (bg (i:=4) kW.nd rfl (bL rfl))
 (aq (di (iu cQ kZ k6 iS (pv 3) (aa (cT (bN.caps (x := "thing") (fr:=["lively", "way"]) (ix:=[2,4]) (nm:=["way", "lively"]) rfl rfl (by decide +kernel) rfl (by decide +kernel) rfl (by decide +kernel) ⟨rfl,⟨rfl,trivial⟩⟩ rfl (by decide +kernel) rfl ⟨⟨rfl,rfl,rfl⟩,⟨⟨rfl,rfl,rfl⟩,trivial⟩⟩) (bR (pv 1)) (λ _ _ _ _=>(kP (PW.pt (ko (aD ((Jk (K:=K) rfl) hr.units) (pv 0) bA (aU _)) (jh (aD ((A0 (K:=K) rfl) hr.units) (pv 0) (aR (iU (K:=K) rfl) (pv 1) (pv 2) (λ _ _=>rfl)) (by with_unfolding_all rfl))))))) (λ _ _ _ _=>(cF (aa (pv 2) (aa (pv 0) af))))) af)))))
 (aq (aI (bz (zF hr.units rfl) rfl T.jP BT.jN (aa (c7 (CJ hr.units rfl) rfl T.GI BT.AE (aa (pv 3) af)) af)))))),?_⟩
 show (_:TS) (Ends.mk _ _ _ _) [_,_,_,_,_] H
 walk_at "start"
 walk_at "go"
 rename_i f H1 n1
 have ff:=n1.1
 have s1:=n1.same
 have hf1:=n1.self
 clear n1
 refine f_list (xs:=ws.map V.int) (λ i σ' H'=>(∃ y,σ'=[some (.ref o),some (.ref th),some (.ref lv),some (.ref f),y]) /\ aE H H' /\ ∃ (vs:List V) (ks:List HM.bf),H' f=some (.lst vs) /\ aK H' vs ks /\ ks.length <= 2 * i /\ ∀ z,z∈ks ↔ z.1∈ws.take i /\ z.2∈ts /\ cX.lv rs z.1.toNat z.2) ?_ ?_ ?_ ?_
 ·exact ⟨⟨_,rfl⟩,s1,[],[],hf1,.nil,aQ _,λ z=>by simp⟩
 ·rintro i σ' H' _ ⟨_,s',_⟩
  exact bD.of (s' _ _ ho)
 ·rintro i x σ' H2 hx ⟨⟨y0,rfl⟩,s2,vs,ks,hf2,hks,DY,hmem⟩
  rw [aY] at hx
  obtain ⟨q0,Ij,rfl⟩:=dg.mp hx
  obtain ⟨hq0,hq1⟩:=hw q0 (fS Ij)
  have hil:=(fu Ij).1
  obtain ⟨j,rfl⟩:∃ j:Nat,q0=(j:Int):=⟨q0.toNat,by omega⟩
  obtain ⟨a,ha⟩:∃ a,as[j]? = some a:=⟨_,dJ (by omega)⟩
  obtain ⟨us,jj,hps⟩:=hL j a ha
  have Km:=s2 _ _ jj
  have G6:=hps.same s2
  have PX:=s2 _ _ LN
  have De:=hxs.same s2
  have Us:=s2 _ _ DX
  have JS:=hxs.length
  have hnf:∀ {b:Addr} {o:HO},H b=some o->b ≠ f:=λ e z=>by rw [z,ff] at e; cases e
  walk_at "go"
  refine f7 (xs:=xs) (λ k zs H'=>aE H2 H' /\ ∃ yC:List HM.bf,aK H' zs yC /\ yC.length <= k /\ ∀ z,z∈yC ↔ z.1=(j:Int) /\ z.2∈ts.take k /\ cX.lv rs j z.2) ⟨aE.refl _,[],.nil,aQ _,λ z=>by simp⟩ ?_ ?_ ?_
  ·rintro k zs H' _ ⟨s',_⟩
   exact bD.of (s' _ _ PX)
  ·rintro k y zs H3 hy ⟨s3,yC,hk2,YJ,hm2⟩
   obtain ⟨t,PV,YK⟩:=aW De hy
   have PY:=b8.same YK s3
   have hkb:=(fu hy).1
   have Ur:=hk2.length
   refine ⟨ck (by omega),?_⟩
   walk_at "go"
   refine v9 PY ?_
   have step:∀ b:Bool,Im rs j t=b->(b=true->∀ (u:Addr) (H4:Hp),eE H3 u (.tup [.int (j:Int),y]) H4->aE H2 H4 /\ ∃ yC:List HM.bf,aK H4 (zs++[.ref u]) yC /\ yC.length <= k + 1 /\ ∀ z,z∈yC ↔ z.1=(j:Int) /\ z.2∈ts.take (k + 1) /\ cX.lv rs j z.2) /\ (b=false->aE H2 H3 /\ ∃ yC:List HM.bf,aK H3 zs yC /\ yC.length <= k + 1 /\ ∀ z,z∈yC ↔ z.1=(j:Int) /\ z.2∈ts.take (k + 1) /\ cX.lv rs j z.2):=by
    intro b hb
    have et:ts.take (k + 1)=ts.take k++[t]:=by rw [bV,PV]; rfl
    refine ⟨λ e u H4 n4=>⟨s3.trans n4.same,yC++[((j:Int),t)],cA (aK.same hk2 n4.same) ⟨u,y,rfl,n4.self,b8.same PY n4.same⟩,by simp; omega,λ z=>?_⟩,λ e=>⟨s3,yC,hk2,by omega,λ z=>?_⟩⟩
    ·rw [e] at hb
     rw [aO,hm2 z,et,aO,aC,aC]
     constructor
     ·rintro (⟨h1,h2,h3⟩ | rfl)
      ·exact ⟨h1,.inl h2,h3⟩
      ·exact ⟨rfl,.inr rfl,o8.mp hb⟩
     ·rintro ⟨h1,h2 | h2,h3⟩
      ·exact .inl ⟨h1,h2,h3⟩
      ·exact .inr (Prod.ext h1 h2)
    ·rw [e] at hb
     rw [hm2 z,et,aO,aC]
     constructor
     ·rintro ⟨h1,h2,h3⟩
      exact ⟨h1,.inl h2,h3⟩
     ·rintro ⟨h1,h2 | h2,h3⟩
      ·exact ⟨h1,h2,h3⟩
      ·rw [h2] at h3
       rw [o8.mpr h3] at hb
       cases hb
   cases t with
   | none =>
    show nY _ (.bl true) H3
    walk_at "go"
    rename_i u H4 n4
    exact (step true rfl).1 rfl u H4 n4
   | some p =>
    show nY _ (.bl false) H3
    obtain ⟨b,rfl,hb⟩:=PY
    have PZ:=s3 _ _ Us
    have C3:=s3 _ _ Km
    walk_at "go"
    refine dz (bD.of PZ) (v:=.ref a) (cJ (by rw [aY,ha]; rfl)) ?_
    walk_at "go"
    refine vS hb (bD.of C3) (bu.same s3 G6) ?_
    by_cases hm:p∈jS rs j
    ·rw [decide_eq_true hm]
     show nY _ (.bl true) H3
     walk_at "go"
     rename_i u H4 n4
     exact (step true (decide_eq_true hm)).1 rfl u H4 n4
    ·rw [decide_eq_false hm]
     show nY _ (.bl false) H3
     walk_at "go"
     exact (step false (decide_eq_false hm)).2 rfl
  ·rintro zs H3 ⟨s3,yC,hk2,YJ,hm2⟩ l H4 n4
   have tw:=n4.keep (s3 _ _ hf2)
   have YL:=aK.same (aK.same hks s3) n4.same
   have Ur:=hk2.length
   have hvl:=hks.length
   have hl4:=n4.self
   have QD:=aK.same hk2 n4.same
   have yD:=(s2.trans s3).trans n4.same
   clear n4
   walk_at "go"
   rename_i H5 p5
   have s5:=p5.same yD ff
   have sp:∀ (v:V) (k:HM.bf),aM H4 v k->aM H5 v k:=λ v k ⟨a1,u,e1,e2,e3⟩=>⟨a1,u,e1,p5.keep (by intro z; subst z; rw [tw] at e2; cases e2) e2,by
    revert e3
    generalize k.2=k2
    intro e3
    cases k2 with
    | none=>exact e3
    | some p=>obtain ⟨b,e4,e5⟩:=e3; exact ⟨b,e4,p5.keep (by intro z; subst z; rw [tw] at e5; cases e5) e5⟩⟩
   refine ⟨⟨_,rfl⟩,s5,_,ks++yC,p5.self,eY (cj sp YL) (cj sp QD),by simp; omega,λ z=>?_⟩
   rw [aO,hmem z,hm2 z,bV,Ij,aO,JS,cD]
   simp only [jV,aC]
   constructor
   ·rintro (⟨h1,h2,h3⟩ | ⟨h1,h2,h3⟩)
    ·exact ⟨.inl h1,h2,h3⟩
    ·exact ⟨.inr h1,h2,by rw [h1]; exact h3⟩
   ·rintro ⟨h1 | h1,h2,h3⟩
    ·exact .inl ⟨h1,h2,h3⟩
    ·exact .inr ⟨h1,h2,by rw [h1] at h3; exact h3⟩
 ·rintro σ' H2 ⟨⟨y0,rfl⟩,s2,vs,ks,hf2,hks,DY,hmem⟩
  rw [au] at DY hmem
  walk_at "go"
  refine OO (bD.of hf2) hks (by omega) ?_
  intro p H3 zs n3 hz hzm
  walk_at "go"
  have hin:∀ z∈zs,z.1.2∈ts:=λ z hz'=>((hmem z.1).mp ((hzm _).mp (aG.mpr ⟨z,hz',rfl⟩))).2.1
  refine JF n3.self (λ z hz'=>(hz z hz').same n3.same) (λ z hz' p hp=>?_) (λ z hz' y hy=>hal _ (hin z hz') _ (hin y hy)) ?_
  ·have:=htk _ (hin z hz')
   rw [hp] at this
   obtain ⟨h1,h2,h3⟩:=this
   omega
  ·intro l H4 vs4 ks4 n4 h4 m4 u4
   exact q l vs4 ks4 H4 ((s2.trans n3.same).trans n4.same) ((s2.trans n3.same).free n4.1) n4.self (aK.same h4 n4.same) u4 λ z=>by
    rw [m4,hzm,hmem,cD]
end
theorem KI{us:List V}{rs:List Row}(h:Rows H us rs){p:Nat}(hr:rs[p]? = some r):∃ a,rN us (p:Int)=some (.ref a) /\ H a=some (.tup r.vals):=by
 have hp:p < rs.length:=(fu hr).1
 have hl:=h.length
 obtain ⟨y,hy,a,e,ha⟩:=aW h (i:=p) (x:=us[p]'(by omega)) (by simp [show p < us.length by omega])
 rw [hr] at hy
 cases hy
 exact ⟨a,cJ (by rw [<- e]; simp [show p < us.length by omega]),ha⟩
def G7(H0 H:Hp)(rs:List Row)(r:Row)(bs:List Addr)(ts:List HM.cX):Prop:=bs.length=ts.length /\ ∀ (i:Nat) (b:Addr) (t:HM.cX),bs[i]? = some b->ts[i]? = some t->H0 b=none /\ ∃ vs ks,H b=some (.lst vs) /\ aK H vs ks /\ iF rs r t ks
section
variable {P:Program}{w:World}{K:aA}{mg:Str->Option Value}{base:Heap}
def Df:Sp:=λ vs H Q _=>∃ (a th lv:Addr) (r:Row) (xs:List V) (ts:List HM.cX) (as:List Addr) (rs:List Row),vs=[.ref a,.ref th,.ref lv] /\ H a=some (.tup r.vals) /\ r.ok rs.length /\ H th=some (.lst xs) /\ fV H xs ts /\ ts.length <= 20 /\ (∀ t∈ts,z9 t) /\ H lv=some (.lst (as.map V.ref)) /\ as.length=rs.length /\ mH H as rs /\
 ∀ (l:Addr) (bs:List Addr) (H':Hp),aE H H'->H l=none->H' l=some (.lst (bs.map V.ref))->G7 H H' rs r bs ts->Q (.ref l) H'
theorem xw(T:Txt w K mg):bY P w K mg base gr 4 T.mw.f T.mw.d ["row", "things", "lively"] Df:=by
 refine T.mw.F.ok iz (λ vs H Q E h=>?_) (λ cdv A outer s H vs Q E hr h=>?_)
 ·obtain ⟨a,th,lv,r,xs,ts,as,rs,rfl,_⟩:=h
  rfl
 obtain ⟨a,th,lv,r,xs,ts,as,rs,rfl,ha,hok,LN,hxs,YM,hts,DX,lM,hL,q⟩:=h
 refine ⟨_,(ai (aN (i:=3) iz.nd rfl (bL rfl) (bw T.reads (wY T) hr (aa (pv 0) af)))
 (ai (aN (i:=4) iz.nd rfl (bL rfl) (bw T.gives (wZ T) hr (aa (pv 0) af)))
 (ai (aN (i:=5) iz.nd rfl (bL rfl) (bw T.mq (qM T) hr (aa (pv 0) af)))
 (aq (aI (cT (bN.caps (x := "thing") (fr:=["row", "lively", "taken", "given", "onward"]) (ix:=[0,2,3,4,5]) (nm:=["taken", "row", "onward", "lively", "given"]) rfl rfl (by decide +kernel) rfl (by decide +kernel) rfl (by decide +kernel) ⟨rfl,⟨rfl,⟨rfl,⟨rfl,⟨rfl,trivial⟩⟩⟩⟩⟩ rfl (by decide +kernel) rfl ⟨⟨rfl,rfl,rfl⟩,⟨⟨rfl,rfl,rfl⟩,⟨⟨rfl,rfl,rfl⟩,⟨⟨rfl,rfl,rfl⟩,⟨⟨rfl,rfl,rfl⟩,trivial⟩⟩⟩⟩⟩) (bR (pv 1)) (λ _ _ _ _=>dW) (λ _ _ _ _=>(bw T.o4 (Ab T) hr (aa (pv 5) (aa (bw T.gf (nR T) hr (aa (pv 1) (aa (pv 0) (aa (pv 3) (aa (pv 4) af))))) (aa (pv 2) af))))))))))),?_⟩
 show (_:TS) (Ends.mk _ _ _ _) [_,_,_,_,_,_] H
 walk_at "start"
 walk_at "go"
 refine ⟨a,r,rs.length,rfl,ha,hok,λ tk us H1 s1 _ htk jj=>?_⟩
 walk_at "go"
 refine ⟨a,r,rs.length,rfl,s1 _ _ ha,hok,λ gv ws H2 s2 _ Uq hws=>?_⟩
 walk_at "go"
 refine ⟨a,r,rfl,s2 _ _ (s1 _ _ ha),λ wy H3 s3 _ hwy=>?_⟩
 have Io:=s2.trans s3
 have Dg:=s1.trans Io
 have YN:=Io _ _ htk
 have C3:=jj.same Io
 have YO:=s3 _ _ Uq
 have YQ:=hws.same s3
 have Wl:=Dg _ _ ha
 have YR:=Dg _ _ LN
 have Ut:=hxs.same Dg
 have PZ:=Dg _ _ DX
 have hL3:mH H3 as rs:=λ k a e=>let ⟨vs,h1,h2⟩:=hL k a e; ⟨vs,Dg _ _ h1,h2.same Dg⟩
 clear s1 s2 s3 Io htk jj Uq hws ha LN hxs DX hL
 have JS:=Ut.length
 walk_at "go"
 refine f7 (xs:=xs) (λ i ys H'=>aE H3 H' /\ ∃ bs:List Addr,ys=bs.map V.ref /\ G7 H H' rs r bs (ts.take i)) ⟨aE.refl _,[],rfl,by simp,λ i b t h=>by simp at h⟩ ?_ ?_ ?_
 ·rintro i ys H' _ ⟨s',_⟩
  exact bD.of (s' _ _ YR)
 ·rintro i x ys H4 hx ⟨s4,bs,rfl,Ih,rL⟩
  obtain ⟨t,hti,YS⟩:=aW Ut hx
  have hil:=(fu hx).1
  rw [cu] at Ih
  refine ⟨ck (by rw [au]; omega),?_⟩
  have sF:=hts t (fS hti)
  walk_at "go"
  refine ⟨a,tk,gv,x,r,rs.length,t,us,ws,rfl,s4 _ _ Wl,hok,b8.same YS s4,sF,s4 _ _ YN,C3.same s4,s4 _ _ YO,YQ.same s4,λ SX P0 H5 s5 _ PX De=>?_⟩
  walk_at "go"
  have QE:=s4.trans s5
  refine ⟨wy,SX,lv,r.ways,P0,cY r t,as,rs,rfl,QE _ _ hwy,Row.iZ r,λ q hq=>?_,PX,De,qT r sF,λ u hu=>((gX hok sF u).mp hu |>.ok hok sF).1,λ u hu v hv=>?_,QE _ _ PZ,lM,λ k a e=>let ⟨vs,h1,h2⟩:=hL3 k a e; ⟨vs,QE _ _ h1,h2.same QE⟩,λ l vs6 ks6 H6 s6 fl PU YT u6 m6=>?_⟩
  ·exact Row.iE hok q hq
  ·rw [((gX hok sF u).mp hu |>.ok hok sF).2,((gX hok sF v).mp hv |>.ok hok sF).2]
  ·have s36:=QE.trans s6
   refine ⟨s36,bs++[l],by simp,by simp; omega,λ j b t' hb ht'=>?_⟩
   rcases cH j bs.length with hlt | hge
   ·rw [List.getElem?_append_left hlt] at hb
    have hj:j < i:=by omega
    rw [pO (by omega)] at ht'
    obtain ⟨h0,vs,ks,h1,h2,h3⟩:=rL j b t' hb (by rw [pO hj]; exact ht')
    exact ⟨h0,vs,ks,(s5.trans s6) _ _ h1,aK.same h2 (s5.trans s6),h3⟩
   ·rw [tR hge] at hb
    have hj:j=i:=by
     have:=(fu hb).1
     simp at this
     omega
    subst hj
    rw [pO (by omega),hti] at ht'
    cases ht'
    rw [show j - bs.length=0 by omega] at hb
    cases hb
    refine ⟨(Dg.trans QE).free fl,vs6,ks6,PU,YT,u6,λ z=>?_⟩
    rw [m6 z,gX hok sF]
    rfl
 ·rintro ys H4 ⟨s4,bs,rfl,rL⟩ l H5 n5
  rw [JS,cD] at rL
  refine q l bs H5 ((Dg.trans s4).trans n5.same) ((Dg.trans s4).free n5.1) n5.self ⟨rL.1,λ i b t hb ht=>?_⟩
  obtain ⟨h0,vs,ks,h1,h2,h3⟩:=rL.2 i b t hb ht
  exact ⟨h0,vs,ks,n5.keep h1,aK.same h2 n5.same,h3⟩
end
def cZ(H:Hp)(rs:List Row)(kvs:dM):Prop:=∀ x∈kvs,∃ (a:Addr) (vs:List V) (ks:List HM.bf) (k:Nat) (r:Row),x.2.2=.ref a /\ H a=some (.lst vs) /\ aK H vs ks /\ x.1.1=(k:Int) /\ rs[k]? = some r /\ iF rs r x.1.2 ks
def bS(rs:List Row)(k:Nat):List HM.cX:=(jS rs k).map some++[none]
def bq(rs:List Row)(n:Nat):List HM.bf:=(List.range n).flatMap λ k=>(bS rs k).map λ t=>((k:Int),t)
theorem b8.uP(h:b8 H t v)(hf:H f=some (.ext φ))(p:kh H f o H'):b8 H' t v:=by
 cases t with
 | none=>exact h
 | some p2=>obtain ⟨b,e1,e2⟩:=h; exact ⟨b,e1,p.keep (by intro z; subst z; rw [hf] at e2; cases e2) e2⟩
theorem aM.uP{k:HM.bf}(h:aM H v k)(hf:H f=some (.ext φ))(p:kh H f o H'):aM H' v k:=by
 obtain ⟨a,u,e,h1,h2⟩:=h
 exact ⟨a,u,e,p.keep (by intro z; subst z; rw [hf] at h1; cases h1) h1,b8.uP h2 hf p⟩
theorem cZ.same(h:cZ H rs kvs)(s:aE H H'):cZ H' rs kvs:=λ x hx=>by
 obtain ⟨a,vs,ks,k,r,h1,h2,h3,h4⟩:=h x hx
 exact ⟨a,vs,ks,k,r,h1,s _ _ h2,aK.same h3 s,h4⟩
theorem cZ.uP(h:cZ H rs kvs)(hf:H f=some (.ext φ))(p:kh H f o H'):cZ H' rs kvs:=λ x hx=>by
 obtain ⟨a,vs,ks,k,r,h1,h2,h3,h4⟩:=h x hx
 exact ⟨a,vs,ks,k,r,h1,p.keep (by intro z; subst z; rw [hf] at h2; cases h2) h2,cj (λ _ _ x=>aM.uP x hf p) h3,h4⟩
theorem qU(h:bu H vs ps):fV H vs (ps.map some):=by
 induction h with
 | nil=>exact .nil
 | cons h _ ih=>exact .cons h ih
theorem gY(rs:List Row)(k:Nat):(bS rs k).length <= 17:=by
 have:=qN rs k
 unfold bS
 simp
 omega
theorem nS(rs:List Row)(k:Nat):∀ t∈bS rs k,z9 t:=λ t ht=>by
 unfold bS at ht
 rcases aO.mp ht with ht | ht
 ·obtain ⟨p,hp,rfl⟩:=aG.mp ht
  have all:∀ t∈bX,(t.1=0 \/ t.1=1) /\ 0 <= t.2 /\ t.2 < 8:=by decide
  exact all p (dS.mp hp).1
 ·rw [aC.mp ht]; trivial
theorem gZ(rs:List Row)(n:Nat):bq rs (n + 1)=bq rs n++(bS rs n).map λ t=>((n:Int),t):=by
 unfold bq
 rw [List.range_succ,List.flatMap_append]
 simp
theorem mK(rs:List Row):∀ n,(bq rs n).length <= 17 * n
 | 0=>by simp [bq]
 | n + 1=>by
  have:=mK rs n
  have h:=gY rs n
  rw [gZ,bh,au]
  omega
theorem tD(rs:List Row)(k:Nat):(bS rs k).Nodup:=by
 unfold bS
 rw [eV]
 refine ⟨?_,by simp,λ x hx y hy e=>?_⟩
 ·have h:(jS rs k).Nodup:=(List.Pairwise.filter _ (show bX.Pairwise (· ≠ ·) by decide))
  exact gJ.mpr (h.imp λ h e=>h (Option.some.inj e))
 ·obtain ⟨p,_,rfl⟩:=aG.mp hx
  rw [aC.mp hy] at e
  cases e
theorem G8(h:(bS rs i)[j]? = some t):((i:Int),t) ∉ bq rs i++((bS rs i).take j).map (λ t=>((i:Int),t)):=by
 intro hm
 rcases aO.mp hm with hm | hm
 ·unfold bq at hm
  obtain ⟨k,hk,hz⟩:=jD.mp hm
  obtain ⟨u,_,e⟩:=aG.mp hz
  have e1:(k:Int)=(i:Int):=congrArg Prod.fst e
  have:=fE.mp hk
  omega
 ·obtain ⟨u,hu,e⟩:=aG.mp hm
  have e2:u=t:=congrArg Prod.snd e
  subst e2
  obtain ⟨m,hm,e3⟩:=List.mem_take_iff_getElem.mp hu
  have hj:=(fu h)
  obtain ⟨hjl,hje⟩:=hj
  have:=(pP (tD rs i)).mp (e3.trans hje.symm)
  omega
section
variable {P:Program}{w:World}{K:aA}{mg:Str->Option Value}{base:Heap}
def Dh(P:Program)(w:World):Sp:=λ vs H Q _=>∃ (c:Addr) (us:List V) (rs:List Row),vs=[.ref c] /\ H c=some (.lst us) /\ Rows H us rs /\ (∀ r∈rs,r.ok rs.length) /\ rs.length <= 200 /\
 ∀ (d:Addr) (ep:Nat) (kvs:dM) (H':Hp),aE H H'->H d=none->H' d=some (.ext (cI P w d ep kvs))->bM H' kvs->kvs.map (·.1)=bq rs rs.length->cZ H' rs kvs->Q (.ref d) H'
theorem qV(T:Txt w K mg):bY P w K mg base gr 5 T.mz.f T.mz.d ["code"] (Dh P w):=by
 refine T.mz.F.ok dY (λ vs H Q E h=>?_) (λ cdv A outer s H vs Q E hr h=>?_)
 ·obtain ⟨c,us,rs,rfl,_⟩:=h
  rfl
 obtain ⟨c,us,rs,rfl,hc,hrs,hok,hn,q⟩:=h
 refine ⟨_,(ai (aN (i:=1) dY.nd rfl (ay rfl) (bw T.live (Kn T) hr (aa (pv 0) af)))
 (ai (aN (i:=2) dY.nd rfl (ay rfl) we)
 (ai (cM bJ rfl (oU rfl T.iB (aa (pv 0) af)) (nu (n:=2) rfl (cE (bg (i:=3) dY.nd rfl (ay rfl)) (cE (bg (i:=4) dY.nd rfl (ay rfl)) ir)))
 (ai (aN (i:=5) dY.nd rfl (ay rfl) (aL Eu (aR cK (pv 1) (pv 3) (λ _ _=>rfl)) (bT (aa bA af))))
 (aq (cM bJ rfl (E1 rfl T.Ma (aa (pv 5) (aa (bw T.mw (xw T) hr (aa (pv 4) (aa (pv 5) (aa (pv 1) af)))) af))) (nu (n:=2) rfl (cE (bg (i:=6) dY.nd rfl (ay rfl)) (cE (bg (i:=7) dY.nd rfl (ay rfl)) ir)))
 (aq (wg hr.units (pv 2) (cF (aa (pv 3) (aa (pv 6) af))) (pv 7) rfl))))))
 (aq (aI (pv 2)))))),?_⟩
 show (_:TS) (Ends.mk _ _ _ _) [_,_,_,_,_,_,_,_] H
 walk_at "start"
 walk_at "go"
 refine ⟨c,us,rs,rfl,hc,hrs,hok,hn,λ lv as H1 s1 _ DX lM _ _ _ hL=>?_⟩
 walk_at "go"
 rename_i d ep H2 n2
 have fd:=(show H d=none from s1.free n2.1)
 have s2:=s1.trans n2.same
 have hd2:=n2.self
 have Us:=n2.keep DX
 have Z9:mH H2 as rs:=λ k a e=>let ⟨vs,h1,h2⟩:=hL k a e; ⟨vs,n2.keep h1,h2.same n2.same⟩
 have fd1:=n2.1
 have s12:=n2.same
 clear n2
 have C2:=hrs.length
 refine zf (xs:=us) (λ i σ' H'=>(∃ y3 y4 y5 y6 y7,σ'=[some (.ref c),some (.ref lv),some (.ref d),y3,y4,y5,y6,y7]) /\ aE H1 H' /\ ∃ ep kvs,H' d=some (.ext (cI P w d ep kvs)) /\ bM H' kvs /\ kvs.map (·.1)=bq rs i /\ cZ H' rs kvs) ?_ ?_ ?_ ?_
 ·exact ⟨⟨_,_,_,_,_,rfl⟩,s12,ep,[],hd2,(λ x hx=>nomatch hx),rfl,λ x hx=>nomatch hx⟩
 ·rintro i σ' H' _ ⟨_,s',_⟩
  exact bD.of (s' _ _ (s1 _ _ hc))
 ·rintro i x p σ' H3 H4 hx ⟨⟨y3,y4,y5,y6,y7,rfl⟩,s3,Vt,kvs,Ig,Qy,em,hla⟩ n4
  obtain ⟨r,Ko,a,rfl,ha⟩:=aW hrs hx
  have uQ:=hok r (fS Ko)
  have Ip:aE H1 H4:=s3.trans n4.same
  have Wm:=n4.keep Ig
  have QD:=Qy.same n4.same
  have Uu:=cZ.same hla n4.same
  walk_at "go"
  have hil:=(fu Ko).1
  obtain ⟨al,hal⟩:∃ a,as[i]? = some a:=⟨_,dJ (by omega)⟩
  obtain ⟨ws,hws,hps⟩:=hL i al hal
  have YU:=Ip _ _ hws
  have hwl:=hps.length
  have TN:=qN rs i
  clear n4 Ig Qy hla
  refine dz (bD.of (Ip _ _ DX)) (v:=.ref al) (cJ (by rw [aY,hal]; rfl)) ?_
  walk_at "go"
  rename_i mk H5 n5 tg H6 n6
  have rX:=n5.same.trans n6.same
  have QF:=Ip.trans rX
  have QG:=n6.self
  have hts:fV H6 (ws++[.str "mark"]) (bS rs i):=eY (qU (hps.same QF)) (.cons rfl .nil)
  have YV:=rX _ _ Wm
  have YT:=QD.same rX
  have YW:=cZ.same Uu rX
  clear n5 n6 rX Wm QD Uu YU
  refine ⟨a,tg,lv,r,_,bS rs i,as,rs,rfl,QF _ _ (s1 _ _ ha),uQ,QG,hts,bE (gY rs i) (by decide),nS rs i,QF _ _ DX,lM,λ k a e=>let ⟨vs,h1,h2⟩:=hL k a e; ⟨vs,QF _ _ h1,h2.same QF⟩,λ l bs H7 s7 _ hl rL=>?_⟩
  walk_at "go"
  have YX:=s7 _ _ YV
  have hk7:=YT.same s7
  have YY:=cZ.same YW s7
  have YZ:=hts.same s7
  have Y0:=s7 _ _ QG
  have Ih:=rL.1
  have YM:=hts.length
  have DY:kvs.length <= 17 * rs.length:=by
   have h1:=congrArg List.length em
   rw [au] at h1
   have h2:=mK rs i
   have h3:17 * i <= 17 * rs.length:=Nat.mul_le_mul_left _ (by omega)
   omega
  have hld:l ≠ d:=λ z=>by rw [z,YX] at hl; cases hl
  have htd:tg ≠ d:=λ z=>by rw [z,YV] at QG; cases QG
  have Uv:=gY rs i
  refine Sz (t1:=false) (t2:=false) (λ j σ' H'=>(∃ y6 y7,σ'=[some (.ref c),some (.ref lv),some (.ref d),some (.int (i:Int)),some (.ref a),some (.ref tg),y6,y7]) /\ (∀ b o,b ≠ d->H7 b=some o->H' b=some o) /\ ∃ ep kvs',H' d=some (.ext (cI P w d ep kvs')) /\ bM H' kvs' /\ kvs'.map (·.1)=bq rs i++((bS rs i).take j).map (λ t=>((i:Int),t)) /\ cZ H' rs kvs') ?_ ?_ ?_ ?_
  ·exact ⟨⟨_,_,rfl⟩,λ b o _ e=>e,Vt,kvs,YX,hk7,by simpa using em,YY⟩
  ·rintro j σ' H' _ ⟨_,k',_⟩
   exact ⟨bD.of (k' _ _ htd Y0),bD.of (k' _ _ hld hl)⟩
  ·rintro j x y p σ' H8 H9 hx hy ⟨⟨y6,y7,rfl⟩,k8,ep8,KJ,Y3,Wn,QH,P1⟩ n9
   obtain ⟨t,htj,YS⟩:=aW YZ hx
   rw [aY] at hy
   obtain ⟨b,hbj,rfl⟩:=dg.mp hy
   obtain ⟨h0b,bvs,bks,Uw,Y4,Y5⟩:=rL.2 j b t hbj htj
   walk_at "go"
   rename_i tu GV G9
   have hbd:b ≠ d:=λ z=>by rw [z,YV] at h0b; cases h0b
   have nd7:∀ {c:Addr} {zs:List V},H7 c=some (.tup zs)->c ≠ d:=λ e z=>by rw [z,YX] at e; cases e
   have t8:∀ {v:V} {u:HM.cX},b8 H7 u v->b8 H8 u v:=λ {v u} h=>by
    cases u with
    | none=>exact h
    | some q=>obtain ⟨c,e1,e2⟩:=h; exact ⟨c,e1,k8 _ _ (nd7 e2) e2⟩
   have h8:∀ (v:V) (k:HM.bf),aM H7 v k->aM H8 v k:=λ v k ⟨c,u,e1,e2,e3⟩=>⟨c,u,e1,k8 _ _ (nd7 e2) e2,t8 e3⟩
   have xy:=n9.same.trans G9.same
   have Hf:=xy _ _ Y3
   have hkey:aM GV (.ref tu) ((i:Int),t):=⟨tu,x,rfl,G9.self,b8.same (t8 YS) xy⟩
   have aaN:KJ.length <= 17 * i + 17:=by
    have h1:=congrArg List.length QH
    rw [au,bh,au,cu] at h1
    have h2:=mK rs i
    omega
   refine F8 Hf (Wn.same xy) hkey (by omega) ?_
   intro nV QB BF
   have hnew:((i:Int),t) ∉ KJ.map (·.1):=by
    rw [QH]
    exact G8 htj
   rw [qx hnew] at BF
   refine ⟨⟨_,_,rfl⟩,λ b o hb e=>BF.keep hb (xy _ _ (k8 b o hb e)),nV,_,BF.self,λ z hz=>?_,?_,λ z hz=>?_⟩
   ·rcases aO.mp hz with hz | hz
    ·exact aM.uP ((Wn.same xy) z hz) Hf BF
    ·rw [aC.mp hz]; exact aM.uP hkey Hf BF
   ·rw [bK,QH,bV,htj,bK,mT]
    rfl
   ·rcases aO.mp hz with hz | hz
    ·exact cZ.uP (cZ.same P1 xy) Hf BF z hz
    ·rw [aC.mp hz]
     exact ⟨b,bvs,bks,i,r,rfl,BF.keep hbd (xy _ _ (k8 _ _ hbd Uw)),cj (λ v k h=>aM.uP (aM.same (h8 v k h) xy) Hf BF) Y4,rfl,Ko,Y5⟩
  ·rintro σ' H8 ⟨⟨y6,y7,rfl⟩,k8,ep8,KJ,Y3,Wn,QH,P1⟩
   rw [au,Ih,YM,Nat.min_self,cD,<- gZ] at QH
   refine Gs _ _ ?_
   exact ⟨⟨_,_,_,_,_,rfl⟩,λ b o e=>k8 b o (λ z=>by subst z; rw [fd1] at e; cases e) (s7 _ _ (QF _ _ e)),ep8,KJ,Y3,Wn,QH,P1⟩
 ·rintro σ' H3 ⟨⟨y3,y4,y5,y6,y7,rfl⟩,s3,Vt,kvs,Ig,Qy,em,hla⟩
  rw [C2] at em
  walk_at "go"
  exact q d Vt kvs H3 (s1.trans s3) fd Ig Qy em hla
end
section
variable {α:Type} [DecidableEq α]
def cN(L:α->List α)(ks:List α)(o:α):List α:=ks.flatMap λ x=>((L x).filter λ z=>decide (z=o)).map λ _=>x
def Mi(L:α->List α)(F:List (α × Int)):Prop:=∀ x∈F,1 <= x.2 /\ (∀ o∈L x.1,∃ m,(o,m)∈F /\ m < x.2) /\ (x.2=1 /\ L x.1=[] \/ ∃ o∈L x.1,(o,x.2 - 1)∈F)
structure tE (ks:List α) (L:α->List α) (F:List (α × Int)):Prop where
 nd:(F.map (·.1)).Nodup
 sub:∀ x∈F,x.1∈ks
 fin:Mi L F
 out:∀ h∈ks,h ∉ F.map (·.1)->∃ o∈L h,o ∉ F.map (·.1)
def kD(L:α->List α)(G:List α)(h:α):Nat:=((L h).filter λ o=>decide (o ∉ G)).length
structure gh (ks:List α) (L:α->List α) (F:List (α × Int)) (w:α->Int) (R:List α):Prop where
 nd:(F.map (·.1)).Nodup
 sub:∀ x∈F,x.1∈ks
 fin:Mi L F
 cnt:∀ h∈ks,w h=kD L (F.map (·.1)) h
 P4:R.Nodup
 Iq:∀ h,h∈R ↔ h∈ks /\ h ∉ F.map (·.1) /\ w h=0
theorem Di{L:α->List α}{G:List α}{h:α}(e:kD L G h=0):∀ o∈L h,o∈G:=λ o ho=>pM λ n=>by
 have:o∈(L h).filter λ o=>decide (o ∉ G):=dS.mpr ⟨ho,decide_eq_true n⟩
 rw [kD] at e
 rw [List.length_eq_zero_iff.mp e] at this
 exact nomatch this
theorem gh.done{ks:List α}{L:α->List α}{F:List (α × Int)}{w:α->Int}(v:gh ks L F w []):tE ks L F:=by
 refine ⟨v.nd,v.sub,v.fin,λ h hk hf=>pM λ n=>?_⟩
 have:h∈([]:List α):=(v.Iq h).mpr ⟨hk,hf,by
  rw [v.cnt h hk]
  have:(L h).filter (λ o=>decide (o ∉ F.map (·.1)))=[]:=List.filter_eq_nil_iff.mpr λ o ho e=>n ⟨o,ho,of_decide_eq_true e⟩
  rw [kD,this]; rfl⟩
 exact nomatch this
theorem gh.start{ks:List α}{L:α->List α}(nd:ks.Nodup):gh ks L [] (λ h=>((L h).length:Int)) (ks.filter λ h=>decide (((L h).length:Int)=0)):=by
 refine ⟨.nil,(λ x hx=>nomatch hx),(λ x hx=>nomatch hx),λ h _=>?_,List.Pairwise.filter _ nd,λ h=>?_⟩
 ·have:(L h).filter (λ o=>decide (o ∉ List.map (·.1) ([]:List (α × Int))))=L h:=List.filter_eq_self.mpr λ o _=>by simp
  rw [kD,this]
 ·rw [dS]
  simp
theorem Hg{L:α->List α}{o x:α}:∀ {ks:List α},ks.Nodup->x∈ks->(cN L ks o).count x=(L x).count o:=by
 intro ks
 have each:∀ y,(((L y).filter λ z=>decide (z=o)).map λ _=>y).count x=if y=x then (L x).count o else 0:=λ y=>by
  generalize hn:((L y).filter λ z=>decide (z=o))=l
  have e:l.map (λ _=>y)=List.replicate l.length y:=List.map_const'
  rw [e,List.count_replicate]
  by_cases hy:y=x
  ·subst hy
   simp only [BEq.rfl,if_true]
   rw [<- hn,List.count_eq_length_filter]
   exact congrArg List.length (List.filter_congr λ z _=>by by_cases hz:z=o <;> simp [hz])
  ·rw [if_neg hy,if_neg (by simpa using hy)]
 induction ks with
 | nil=>intro _ h; exact nomatch h
 | cons y ks ih =>
  intro nd hx
  have Vr:=fZ.mp nd
  rw [cN,mW,List.count_append,each]
  by_cases hy:y=x
  ·subst hy
   rw [if_pos rfl]
   have z:(ks.flatMap λ x=>((L x).filter λ z=>decide (z=o)).map λ _=>x).count y=0:=by
    rw [List.count_eq_zero]
    intro hm
    obtain ⟨a,ha,hb⟩:=jD.mp hm
    obtain ⟨_,_,rfl⟩:=aG.mp hb
    exact Vr.1 ha
   rw [z]; rfl
  ·rw [if_neg hy,Nat.zero_add]
   exact ih Vr.2 ((aJ.mp hx).resolve_left λ e=>hy e.symm)
theorem Hh{L:α->List α}{ks:List α}{o x:α}:x∈cN L ks o ↔ x∈ks /\ o∈L x:=by
 unfold cN
 rw [jD]
 constructor
 ·rintro ⟨y,hy,hx⟩
  obtain ⟨z,hz,rfl⟩:=aG.mp hx
  obtain ⟨h1,h2⟩:=dS.mp hz
  rw [of_decide_eq_true h2] at h1
  exact ⟨hy,h1⟩
 ·rintro ⟨hx,ho⟩
  exact ⟨x,hx,aG.mpr ⟨o,dS.mpr ⟨ho,by simp⟩,rfl⟩⟩
theorem Dj{L:α->List α}{G:List α}{h x:α}(hG:h ∉ G):kD L G x=kD L (G++[h]) x + (L x).count h:=by
 unfold kD
 induction L x with
 | nil=>rfl
 | cons o l ih =>
  by_cases e:o=h
  ·subst e
   rw [mV (by simpa using hG),mU (by simp),List.count_cons_self,dR,ih]
   omega
  ·rw [List.count_cons_of_ne e]
   by_cases g:o∈G
   ·rw [mU (by simp [g]),mU (by simp [g]),ih]
   ·rw [mV (by simp [g]),mV (by simp [g,e]),dR,dR,ih]
    omega
structure mL (ks:List α) (L:α->List α) (G:List α) (E:List α) (j:Nat) (w:α->Int) (R:List α):Prop where
 cnt:∀ x∈ks,w x=kD L G x + ((E.drop j).count x:Nat)
 P4:R.Nodup
 Iq:∀ x,x∈R ↔ x∈ks /\ x ∉ G /\ w x=0
theorem gh.pop{ks:List α}{L:α->List α}{F:List (α × Int)}{w:α->Int}{R:List α}{h:α}(nd:ks.Nodup)(v:gh ks L F w (R++[h])):
  h∈ks /\ h ∉ F.map (·.1) /\ (∀ o∈L h,o∈F.map (·.1)) /\ mL ks L (F.map (·.1)++[h]) (cN L ks h) 0 w R:=by
 obtain ⟨h1,h2,h3⟩:=(v.Iq h).mp (by simp)
 have h4:=v.cnt h h1
 refine ⟨h1,h2,Di (by omega),λ x hx=>?_,(eV.mp v.P4).1,λ x=>?_⟩
 ·rw [v.cnt x hx,List.drop_zero,Hg nd hx,Dj h2]; simp
 ·have hR:h ∉ R:=λ z=>(eV.mp v.P4).2.2 h z h (by simp) rfl
  have:=v.Iq x
  rw [aO,aC] at this ⊢
  constructor
  ·intro hx
   obtain ⟨a,b,c⟩:=this.mp (.inl hx)
   exact ⟨a,λ z=>z.elim b λ e=>hR (e ▸ hx),c⟩
  ·rintro ⟨a,b,c⟩
   exact (this.mpr ⟨a,λ z=>b (.inl z),c⟩).resolve_right λ e=>b (.inr e)
def qW{β:Type}(w:α->β)(x:α)(n:β):α->β:=λ y=>if y=x then n else w y
theorem mL.next{ks:List α}{L:α->List α}{G:List α}{h:α}{w:α->Int}{R:List α}{x:α}(v:mL ks L (G++[h]) (cN L ks h) j w R)
  (cl:∀ y∈ks,y∈G->∀ o∈L y,o∈G)(hG:h ∉ G)(hL:∀ o∈L h,o∈G)(hx:(cN L ks h)[j]? = some x):
  1 <= w x /\ x∈ks /\ (w x - 1=0->mL ks L (G++[h]) (cN L ks h) (j + 1) (qW w x (w x - 1)) (R++[x])) /\ (w x - 1 ≠ 0->mL ks L (G++[h]) (cN L ks h) (j + 1) (qW w x (w x - 1)) R):=by
 obtain ⟨hk,hh⟩:=Hh.mp (fS hx)
 obtain ⟨hj,ej⟩:=fu hx
 have c:=v.cnt x hk
 have ed:∀ y,((cN L ks h).drop j).count y=((cN L ks h).drop (j + 1)).count y + if x=y then 1 else 0:=λ y=>by
  rw [List.drop_eq_getElem_cons hj,ej,List.count_cons]
  by_cases e:x=y <;> simp [e]
 have hw:1 <= w x:=by
  have:=ed x
  rw [if_pos rfl] at this
  omega
 have xG:x ∉ G++[h]:=λ z=>by
  rcases aO.mp z with z | z
  ·exact hG (cl x hk z h hh)
  ·rw [aC.mp z] at hh
   exact hG (hL h hh)
 have cnt:∀ y∈ks,qW w x (w x - 1) y=kD L (G++[h]) y + (((cN L ks h).drop (j + 1)).count y:Nat):=λ y hy=>by
  have c:=v.cnt y hy
  have e:=ed y
  unfold qW
  by_cases hyx:y=x
  ·subst hyx
   rw [if_pos rfl] at e ⊢
   omega
  ·rw [if_neg λ z=>hyx z.symm] at e
   rw [if_neg hyx]
   omega
 have xR:x ∉ R:=λ z=>by
  have:=((v.Iq x).mp z).2.2
  omega
 refine ⟨hw,hk,λ e0=>⟨cnt,?_,λ y=>?_⟩,λ e0=>⟨cnt,v.P4,λ y=>?_⟩⟩
 ·rw [eV]
  exact ⟨v.P4,by simp,λ a ha b hb e=>xR (by rw [aC.mp hb] at e; exact e ▸ ha)⟩
 ·rw [aO,aC]
  unfold qW
  by_cases hyx:y=x
  ·subst hyx
   rw [if_pos rfl]
   exact ⟨λ _=>⟨hk,xG,e0⟩,λ _=>.inr rfl⟩
  ·rw [if_neg hyx]
   exact ⟨λ z=>(v.Iq y).mp (z.resolve_right hyx),λ z=>.inl ((v.Iq y).mpr z)⟩
 ·unfold qW
  by_cases hyx:y=x
  ·subst hyx
   rw [if_pos rfl]
   exact ⟨λ z=>absurd z xR,λ z=>absurd z.2.2 e0⟩
  ·rw [if_neg hyx]
   exact v.Iq y
theorem mL.end{ks:List α}{L:α->List α}{F:List (α × Int)}{h:α}{n m:Int}{w0 w:α->Int}{R0 R E:List α}(v0:gh ks L F w0 R0)(v:mL ks L (F.map (·.1)++[h]) E E.length w R)(hk:h∈ks)(hF:h ∉ F.map (·.1))(hL:∀ o∈L h,o∈F.map (·.1))(e:n=1 + m)
  (h0:L h=[]->m=0)(h1:L h ≠ []->(∃ o∈L h,(o,m)∈F) /\ ∀ o∈L h,∀ k,(o,k)∈F->k <= m):gh ks L (F++[(h,n)]) w R:=by
 have em:(F++[(h,n)]).map (·.1)=F.map (·.1)++[h]:=by simp
 have up:∀ o k,(o,k)∈F->(o,k)∈F++[(h,n)]:=λ o k z=>iK _ z
 refine ⟨?_,λ x hx=>?_,λ x hx=>?_,λ x hx=>?_,v.P4,?_⟩
 ·rw [em,eV]
  exact ⟨v0.nd,by simp,λ a ha b hb z=>hF (by rw [aC.mp hb] at z; exact z ▸ ha)⟩
 ·rcases aO.mp hx with z | z
  ·exact v0.sub x z
  ·rw [aC.mp z]; exact hk
 ·rcases aO.mp hx with z | z
  ·obtain ⟨a,b,c⟩:=v0.fin x z
   refine ⟨a,λ o ho=>let ⟨k,c,d⟩:=b o ho; ⟨k,up _ _ c,d⟩,c.imp_right λ ⟨o,ho,c⟩=>⟨o,ho,up _ _ c⟩⟩
  ·rw [aC.mp z]
   dsimp only
   by_cases hn:L h=[]
   ·have:=h0 hn
    rw [hn]
    exact ⟨by omega,(λ o ho=>nomatch ho),.inl ⟨by omega,rfl⟩⟩
   ·obtain ⟨⟨o,ho,hm⟩,hle⟩:=h1 hn
    have:=(v0.fin _ hm).1
    dsimp only at this
    refine ⟨by omega,λ o ho=>?_,.inr ⟨o,ho,?_⟩⟩
    ·obtain ⟨⟨_,k⟩,hx,rfl⟩:=aG.mp (hL o ho)
     have:=hle _ ho k hx
     exact ⟨k,up _ _ hx,by omega⟩
    ·rw [show n - 1=m by omega]
     exact up _ _ hm
 ·rw [em,v.cnt x hx,List.drop_length]; simp
 ·rw [em]; exact v.Iq
theorem j8{β:Type}:∀ {F:List (α × β)} {o:α} {a b:β},(F.map (·.1)).Nodup->(o,a)∈F->(o,b)∈F->a=b
 | [],_,_,_,_,h,_=>nomatch h
 | x :: F,o,a,b,nd,ha,hb=>by
  rw [bO,fZ] at nd
  rcases aJ.mp ha with e1 | h1 <;> rcases aJ.mp hb with e2 | h2
  ·exact congrArg Prod.snd (e1.trans e2.symm)
  ·exact absurd (by rw [<- e1]; exact aG.mpr ⟨_,h2,rfl⟩) nd.1
  ·exact absurd (by rw [<- e2]; exact aG.mpr ⟨_,h1,rfl⟩) nd.1
  ·exact j8 nd.2 h1 h2
end
def oJ(H H':Hp):Prop:=∀ b vs,H b=some (.tup vs)->H' b=some (.tup vs)
theorem oJ.trans{H1 H2:Hp}(a:oJ H H1)(b:oJ H1 H2):oJ H H2:=λ c vs h=>b c vs (a c vs h)
theorem jU(hf:H f=some (.lst xs))(p:kh H f o H'):oJ H H':=λ b vs h=>p.keep (by intro z; subst z; rw [hf] at h; cases h) h
theorem qX(hf:H f=some (.ext φ))(p:kh H f o H'):oJ H H':=λ b vs h=>p.keep (by intro z; subst z; rw [hf] at h; cases h) h
theorem b8.tups(h:b8 H t v)(s:oJ H H'):b8 H' t v:=by
 cases t with
 | none=>exact h
 | some p2=>obtain ⟨b,e1,e2⟩:=h; exact ⟨b,e1,s _ _ e2⟩
theorem aM.tups{k:HM.bf}(h:aM H v k)(s:oJ H H'):aM H' v k:=by
 obtain ⟨a,u,e,h1,h2⟩:=h
 exact ⟨a,u,e,s _ _ h1,b8.tups h2 s⟩
theorem aK.tups(h:aK H vs ks)(s:oJ H H'):aK H' vs ks:=cj (λ _ _ x=>aM.tups x s) h
theorem bM.tups(h:bM H kvs)(s:oJ H H'):bM H' kvs:=λ x hx=>aM.tups (h x hx) s
def cU(H:Hp)(kvs:dM)(L:HM.bf->List HM.bf):Prop:=∀ x∈kvs,∃ a vs,x.2.2=V.ref a /\ H a=some (.lst vs) /\ aK H vs (L x.1)
theorem cU.same(h:cU H kvs L)(s:aE H H'):cU H' kvs L:=λ x hx=>let ⟨a,vs,h1,h2,h3⟩:=h x hx; ⟨a,vs,h1,s _ _ h2,aK.same h3 s⟩
theorem cU.uP(h:cU H kvs L)(hf:H f=some (.ext φ))(p:kh H f o H'):cU H' kvs L:=λ x hx=>let ⟨a,vs,h1,h2,h3⟩:=h x hx; ⟨a,vs,h1,p.keep (by intro z; subst z; rw [hf] at h2; cases h2) h2,aK.tups h3 (qX hf p)⟩
theorem qY:∀ {kvs:dM} {x:HM.bf × Addr × V},(kvs.map (·.1)).Nodup->x∈kvs->g9 kvs x.1=some x.2.2
 | [],_,_,hx=>nomatch hx
 | y :: kvs,x,nd,hx=>by
  rw [bO,fZ] at nd
  unfold g9
  rw [fW]
  rcases aJ.mp hx with rfl | hx
  ·simp
  ·have ne:¬ y.1=x.1:=λ e=>nd.1 (e ▸ mX hx)
   rw [decide_eq_false ne]
   exact qY nd.2 hx
theorem o9{k:HM.bf}(nd:(kvs.map (·.1)).Nodup)(hk:k∈kvs.map (·.1)):∃ x∈kvs,x.1=k /\ g9 kvs k=some x.2.2:=by
 obtain ⟨x,hx,rfl⟩:=aG.mp hk
 exact ⟨x,hx,rfl,qY nd hx⟩
def iG(ks:List HM.bf)(L:HM.bf->List HM.bf):Prop:=ks.Nodup /\ ks.length <= 4000 /\ ∀ k∈ks,(L k).length <= 4 /\ ∀ o∈L k,o∈ks
theorem xA(L:HM.bf->List HM.bf)(o:HM.bf):∀ ks:List HM.bf,(∀ k∈ks,(L k).length <= 4)->(cN L ks o).length <= 4 * ks.length
 | [],_=>by simp [cN]
 | k :: ks,h=>by
  have h1:=xA L o ks λ k hk=>h k (cV _ hk)
  have h2:=h k (by simp)
  have h3:=gH (λ z=>decide (z=o)) (L k)
  unfold cN at h1 ⊢
  rw [mW,bh,au,dR]
  omega
def Ac(H0 H:Hp)(kvs:dM)(L:HM.bf->List HM.bf):Prop:=(kvs.map (·.2.2)).Nodup /\ ∀ x∈kvs,∃ a vs,x.2.2=V.ref a /\ H0 a=none /\ H a=some (.lst vs) /\ aK H vs (L x.1)
theorem Ac.same{H0:Hp}(h:Ac H0 H kvs L)(s:aE H H'):Ac H0 H' kvs L:=⟨h.1,λ x hx=>let ⟨a,vs,h1,h0,h2,h3⟩:=h.2 x hx; ⟨a,vs,h1,h0,s _ _ h2,aK.same h3 s⟩⟩
theorem Ad:∀ {kvs:dM} {x y:HM.bf × Addr × V},(kvs.map (·.2.2)).Nodup->x∈kvs->y∈kvs->x.2.2=y.2.2->x=y
 | [],_,_,_,hx,_,_=>nomatch hx
 | z :: kvs,x,y,nd,hx,hy,e=>by
  rw [bO,fZ] at nd
  rcases aJ.mp hx with e1 | h1 <;> rcases aJ.mp hy with e2 | h2
  ·rw [e1,e2]
  ·exact absurd (by rw [<- e1,e]; exact mX h2) nd.1
  ·exact absurd (by rw [<- e2,<- e]; exact mX h1) nd.1
  ·exact Ad nd.2 h1 h2 e
section
variable {P:Program}{w:World}{K:aA}{mg:Str->Option Value}{base:Heap}
def Hi(P:Program)(w:World):Sp:=λ vs H Q _=>∃ (d:Addr) (ep:Nat) (kvs:dM) (L:HM.bf->List HM.bf),vs=[.ref d] /\ H d=some (.ext (cI P w d ep kvs)) /\ bM H kvs /\ cU H kvs L /\ iG (kvs.map (·.1)) L /\
 ∀ (d':Addr) (nV:Nat) (kvs':dM) (H':Hp),aE H H'->H d'=none->H' d'=some (.ext (cI P w d' nV kvs'))->bM H' kvs'->kvs'.map (·.1)=kvs.map (·.1)->cU H' kvs' (cN L (kvs.map (·.1)))->Q (.ref d') H'
theorem Dk(T:Txt w K mg):bY P w K mg base gr 1 T.turned.f T.turned.d ["later"] (Hi P w):=by
 refine T.turned.F.ok j3 (λ vs H Q E h=>?_) (λ cdv A outer s H vs Q E hr h=>?_)
 ·obtain ⟨d,ep,kvs,L,rfl,_⟩:=h
  rfl
 obtain ⟨d,ep,kvs,L,rfl,hd,hk,hl,⟨nd,hn,hL⟩,q⟩:=h
 rw [au] at hn
 refine ⟨_,(ai (aN (i:=1) j3.nd rfl (ay rfl) (c7 (qz hr.units rfl) rfl T.GG BT.EF (aa (cT (bN.plain rfl (by decide +kernel) (by decide +kernel) rfl (by decide +kernel) rfl) (lS (pv 0)) (λ _ _ _ _=>dW) (λ _ _ _ _=>(cF (aa (pv 0) (aa (bT af) af))))) af)))
 (ai (cM bJ rfl (lS (pv 0)) (bg (i:=2) j3.nd rfl (ay rfl))
 (aq (cM bJ rfl (bR (gQ hr.units (pv 0) (pv 2) (λ _ _=>rfl))) (bg (i:=3) j3.nd rfl (ay rfl))
 (aq (di (iu cQ gw gz dZ (gQ hr.units (pv 1) (pv 3) (λ _ _=>rfl)) (aa (pv 2) af)))))))
 (aq (aI (pv 1))))),?_⟩
 show (_:TS) (Ends.mk _ _ _ _) [_,_,_,_] H
 walk_at "start"
 walk_at "go"
 refine uB (kvs:=kvs) (λ i ys H'=>aE H H' /\ ∃ ps:dM,ps.map (·.1)=(kvs.take i).map (·.1) /\ lT H' ys ps /\ Ac H H' ps λ _=>[]) ⟨aE.refl _,[],by simp,.nil,.nil,λ x hx=>nomatch hx⟩ ?_ ?_ ?_
 ·rintro i ys H' _ ⟨s',_⟩
  exact s' _ _ hd
 ·rintro i e ys H1 he ⟨s1,ps,Mj,hps,own⟩
  have hil:=(fu he).1
  have hpl:=hps.length
  have h2:=congrArg List.length Mj
  rw [au,au,cu] at h2
  refine ⟨ck (by omega),?_⟩
  walk_at "go"
  rename_i a H2 n2 t H3 n3
  have s3:=n2.same.trans n3.same
  refine ⟨s1.trans s3,ps++[(e.1,e.2.1,.ref a)],?_,cA (cj (λ u p ⟨t,h1,h2,h3⟩=>⟨t,h1,s3 _ _ h2,aM.same h3 s3⟩) hps) ⟨t,rfl,n3.self,aM.same (hk e (fS he)) (s1.trans s3)⟩,?_,λ x hx=>?_⟩
  ·rw [bK,Mj,bV,he,bK]; rfl
  ·rw [bK,eV]
   refine ⟨own.1,by simp,λ x hx y hy e=>?_⟩
   obtain ⟨z,hz,rfl⟩:=aG.mp hx
   obtain ⟨b,vs,h1,_,h3,_⟩:=own.2 z hz
   rw [List.map_singleton,aC] at hy
   subst hy
   rw [h1] at e
   cases e
   rw [n2.1] at h3
   cases h3
  ·rcases aO.mp hx with hx | hx
   ·exact (Ac.same own s3).2 x hx
   ·rw [aC.mp hx]
    exact ⟨a,[],rfl,s1.free n2.1,n3.keep n2.self,.nil⟩
 rintro ys H1 ⟨s1,ps,Mj,hps,own⟩ l H2 n2
 rw [cD] at Mj
 walk_at "go"
 refine A5 (bD.of n2.self) (cj (λ u p ⟨t,h1,h2,h3⟩=>⟨t,h1,n2.keep h2,aM.same h3 n2.same⟩) hps) (by rw [Mj]; exact nd) ?_
 intro f Cw H3 n3
 have Wo:=n2.same.trans n3.same
 have s3:=s1.trans Wo
 have ff:H f=none:=(s1.trans n2.same).free n3.1
 have hf:=n3.self
 have Y6:=own.same Wo
 have hpk:bM H3 ps:=λ x hx=>by
  obtain ⟨i,hi,rfl⟩:=kH.mp hx
  obtain ⟨t,_,_,h⟩:=qy hps hi
  rw [ki,dJ hi] at h
  exact aM.same h Wo
 clear n2 n3 Wo own hps s1
 have ndp:(ps.map (·.1)).Nodup:=by rw [Mj]; exact nd
 have e0:∀ o,cN L [] o=[]:=λ o=>rfl
 walk_at "go"
 refine JI (λ i σ' H'=>(∃ y z,σ'=[some (.ref d),some (.ref f),y,z]) /\ aE H H' /\ H' f=some (.ext (cI P w f Cw ps)) /\ bM H' ps /\ Ac H H' ps (cN L ((kvs.map (·.1)).take i))) ?_ ?_ ?_ ?_
 ·exact ⟨⟨_,_,rfl⟩,s3,hf,hpk,by rw [List.take_zero]; exact Y6⟩
 ·rintro i σ' H' _ ⟨_,s',_⟩
  exact s' _ _ hd
 ·rintro i e σ' H4 he ⟨⟨y,z,rfl⟩,s4,tw,P5,KL⟩
  have hem:=fS he
  obtain ⟨a,vs,ea,ha,hvs⟩:=hl e hem
  have hil:=(fu he).1
  have hLe:=hL e.1 (mX hem)
  have hvl:=hvs.length
  walk_at "go"
  refine kC (s4 _ _ hd) (hk.same s4) (aM.same (hk e hem) s4) ((qY nd hem).trans (congrArg some ea)) ?_
  walk_at "go"
  refine f_list (xs:=vs) (λ j σ' H'=>(∃ z,σ'=[some (.ref d),some (.ref f),some (.ref e.2.1),z]) /\ aE H H' /\ H' f=some (.ext (cI P w f Cw ps)) /\ bM H' ps /\ Ac H H' ps (λ o=>cN L ((kvs.map (·.1)).take i) o++(((L e.1).take j).filter λ z=>decide (z=o)).map λ _=>e.1)) ?_ ?_ ?_ ?_
  ·refine ⟨⟨_,rfl⟩,s4,tw,P5,?_⟩
   simpa using KL
  ·rintro j σ' H' _ ⟨_,s',_⟩
   exact bD.of (s' _ _ ha)
  ·rintro j x σ' H5 hx ⟨⟨z,rfl⟩,s5,qO,KN,Ae⟩
   obtain ⟨o,ho,hxo⟩:=aW hvs hx
   have hom:=hLe.2 o (fS ho)
   obtain ⟨p,hp,rfl,Wq⟩:=o9 ndp (by rw [Mj]; exact hom)
   obtain ⟨b,bs,eb,fb,hb,rL⟩:=Ae.2 p hp
   have Y7:=aM.same hxo s5
   obtain ⟨xa,xu,rfl,hxa,hxu⟩:=hxo
   have Ih:bs.length < 1000000:=by
    have h1:=rL.length
    have h2:=xA L p.1 ((kvs.map (·.1)).take i) λ k hk=>(hL k (List.take_subset _ _ hk)).1
    have h3:=gH (λ z=>decide (z=p.1)) ((L e.1).take j)
    rw [bh,au] at h1
    rw [cu,au] at h2
    rw [cu] at h3
    omega
   walk_at "go"
   refine kC qO KN Y7 (Wq.trans (congrArg some eb)) ?_
   walk_at "go"
   rename_i H6 p6
   have hfb:f ≠ b:=λ z=>by rw [z,hb] at qO; cases qO
   have t6:=jU hb p6
   refine ⟨⟨_,rfl⟩,p6.same s5 fb,p6.keep hfb qO,bM.tups KN t6,Ae.1,λ x hx=>?_⟩
   by_cases Y8:x=p
   ·subst Y8
    refine ⟨b,_,eb,fb,p6.self,?_⟩
    dsimp only
    rw [bV,ho,gG,bK,<- mT]
    have e1:List.filter (λ z=>decide (z=x.1)) (some x.1).toList=[x.1]:=by simp
    rw [e1]
    exact cA (aK.tups rL t6) (aM.tups (aM.same (hk e hem) s5) t6)
   ·obtain ⟨c,cs,ec,fc,hc,hcs⟩:=Ae.2 x hx
    refine ⟨c,cs,ec,fc,p6.keep (λ z=>Y8 (Ad Ae.1 hx hp (by rw [ec,eb,z]))) hc,?_⟩
    have hne:¬ p.1=x.1:=λ z=>by
     have h1:=qY ndp hx
     rw [<- z,Wq] at h1
     exact Y8 (Ad Ae.1 hx hp (Option.some.inj h1).symm)
    dsimp only
    rw [bV,ho,gG,bK]
    have e1:List.filter (λ z=>decide (z=x.1)) (some p.1).toList=[]:=by simp [hne]
    rw [e1,List.map_nil,dQ]
    exact aK.tups hcs t6
  ·rintro σ' H5 ⟨⟨z,rfl⟩,s5,qO,KN,Ae⟩
   refine ⟨⟨_,_,rfl⟩,s5,qO,KN,?_⟩
   have e1:(λ o=>cN L ((kvs.map (·.1)).take i) o++(((L e.1).take vs.length).filter λ z=>decide (z=o)).map λ _=>e.1)=cN L ((kvs.map (·.1)).take (i + 1)):=by
    funext o
    rw [hvl,cD,bV,aY,he]
    unfold cN
    rw [List.flatMap_append]
    simp
   rw [<- e1]
   exact Ae
 ·rintro σ' H4 ⟨⟨y,z,rfl⟩,s4,tw,P5,KL⟩
  rw [<- au (f:=λ x:HM.bf × Addr × V=>x.1),cD] at KL
  walk_at "go"
  exact q f Cw ps H4 s4 ff tw P5 Mj λ x hx=>let ⟨a,vs,h1,_,h2,h3⟩:=KL.2 x hx; ⟨a,vs,h1,h2,h3⟩
end
def fP(kvs:dM)(F:List (HM.bf × Int)):Prop:=kvs.map (λ x=>(x.1,x.2.2))=F.map λ p=>(p.1,V.int p.2)
theorem fP.keys{F:List (HM.bf × Int)}(e:fP kvs F):kvs.map (·.1)=F.map (·.1):=by
 have h:=congrArg (List.map (·.1)) e
 rw [fY,fY] at h
 exact h
theorem xB:∀ {kvs:dM} {F:List (HM.bf × Int)},fP kvs F->∀ {o:HM.bf},o∈F.map (·.1)->∃ n,(o,n)∈F /\ g9 kvs o=some (.int n)
 | [],[],_,_,ho=>nomatch ho
 | [],_ :: _,e,_,_=>nomatch e
 | _ :: _,[],e,_,_=>nomatch e
 | x :: kvs,y :: F,e,o,ho=>by
  unfold fP at e
  rw [bO,bO] at e
  obtain ⟨e1,e2⟩:=List.cons.inj e
  have a1:x.1=y.1:=congrArg Prod.fst e1
  have a2:x.2.2=V.int y.2:=congrArg Prod.snd e1
  unfold g9
  rw [fW]
  by_cases h:x.1=o
  ·rw [decide_eq_true h]
   exact ⟨y.2,by rw [<- h,a1]; simp,congrArg some a2⟩
  ·rw [decide_eq_false h]
   rw [bO] at ho
   obtain ⟨n,h1,h2⟩:=xB (kvs:=kvs) (F:=F) e2 ((aJ.mp ho).resolve_left λ z=>h (a1.trans z.symm))
   exact ⟨n,cV _ h1,h2⟩
theorem Hj{F:List (HM.bf × Int)}{k:HM.bf}{n:Int}(e:fP kvs F)(hk:k ∉ F.map (·.1)):iW kvs k a (.int n)=kvs++[(k,a,.int n)] /\ fP (kvs++[(k,a,.int n)]) (F++[(k,n)]):=by
 refine ⟨qx (by rw [e.keys]; exact hk),?_⟩
 unfold fP at e ⊢
 rw [bK,bK,e]
 rfl
theorem mO:∀ {kvs:dM} {k:HM.bf},k∈kvs.map (·.1)->(g9 kvs k).isSome=true
 | [],_,h=>nomatch h
 | x :: kvs,k,h=>by
  unfold g9
  rw [fW]
  by_cases e:x.1=k
  ·rw [decide_eq_true e]; rfl
  ·rw [decide_eq_false e]
   exact mO (kvs:=kvs) ((aJ.mp h).resolve_left λ z=>e z.symm)
def FnAt(kvs:dM)(ks:List HM.bf)(g:HM.bf->Int):Prop:=kvs.map (·.1)=ks /\ ∀ x∈kvs,x.2.2=V.int (g x.1)
theorem FnAt.val{g:HM.bf->Int}(h:FnAt kvs ks g){k:HM.bf}(hk:k∈ks):g9 kvs k=some (.int (g k)):=by
 have:=mO (kvs:=kvs) (k:=k) (by rw [h.1]; exact hk)
 unfold g9 at this ⊢
 cases e:kvs.find? (λ x=>decide (x.1=k)) with
 | none=>rw [e] at this; cases this
 | some x =>
  have h1:=h.2 x (List.mem_of_find?_eq_some e)
  have h2:=List.find?_some e
  rw [of_decide_eq_true h2] at h1
  exact congrArg some h1
theorem FnAt.put{g:HM.bf->Int}(h:FnAt kvs ks g){k:HM.bf}{n:Int}(hk:k∈ks):FnAt (iW kvs k a (.int n)) ks (qW g k n):=by
 unfold iW
 rw [if_pos (mO (by rw [h.1]; exact hk))]
 constructor
 ·rw [fY,<- h.1]
  apply List.map_congr_left
  intro x _
  show (if x.1=k then (x.1,x.2.1,V.int n) else x).1=x.1
  split <;> rfl
 ·intro y hy
  obtain ⟨x,hx,rfl⟩:=aG.mp hy
  unfold qW
  split
  ·rfl
  ·exact h.2 x hx
theorem Hl{k:HM.bf}(h:bM H kvs)(hk:k∈kvs.map (·.1)):bM H (iW kvs k a v):=by
 unfold iW
 rw [if_pos (mO hk)]
 intro y hy
 obtain ⟨x,hx,rfl⟩:=aG.mp hy
 split
 ·exact h x hx
 ·exact h x hx
theorem fk{α β:Type}{F:α->β->Prop}:∀ {xs:List α} {ys:List β},Paired F xs ys->∀ {i:Nat} {y:β},ys[i]? = some y->∃ x,xs[i]? = some x /\ F x y
 | _,_,.nil,i,x,h=>by simp at h
 | _,_,.cons a t,0,x,h=>by simp at h; subst h; exact ⟨_,rfl,a⟩
 | _,_,.cons a t,i + 1,x,h=>fk t (by simpa using h)
theorem oA{α β:Type}{F:α->β->Prop}:∀ {xs:List α} {x:α} {ys:List β},Paired F (xs++[x]) ys->∃ Wr y,ys=Wr++[y] /\ Paired F xs Wr /\ F x y
 | [],_,_,.cons h .nil=>⟨[],_,rfl,.nil,h⟩
 | _ :: _,_,_,.cons h t=>by
  obtain ⟨Wr,y,rfl,h1,h2⟩:=oA t
  exact ⟨_ :: Wr,y,rfl,.cons h h1,h2⟩
section
variable {P:Program}{w:World}{K:aA}{mg:Str->Option Value}{base:Heap}
def KO(P:Program)(w:World):Sp:=λ vs H Q _=>∃ (d:Addr) (ep:Nat) (kvs:dM) (L:HM.bf->List HM.bf),vs=[.ref d] /\ H d=some (.ext (cI P w d ep kvs)) /\ bM H kvs /\ cU H kvs L /\ iG (kvs.map (·.1)) L /\
 ∀ (d':Addr) (nV:Nat) (kvs':dM) (F:List (HM.bf × Int)) (H':Hp),aE H H'->H d'=none->H' d'=some (.ext (cI P w d' nV kvs'))->bM H' kvs'->fP kvs' F->tE (kvs.map (·.1)) L F->Q (.ref d') H'
theorem Ho(T:Txt w K mg):bY P w K mg base gr 2 T.ended.f T.ended.d ["later"] (KO P w):=by
 refine T.ended.F.ok gS (λ vs H Q E h=>?_) (λ cdv A outer s H vs Q E hr h=>?_)
 ·obtain ⟨d,ep,kvs,L,rfl,_⟩:=h
  rfl
 obtain ⟨d,ep,kvs,L,rfl,hd,hk,hl,hok,q⟩:=h
 refine ⟨_,(ai (aN (i:=1) gS.nd rfl (ay rfl) (bw T.turned (Dk T) hr (aa (pv 0) af)))
 (ai (aN (i:=2) gS.nd rfl (bL rfl) (c7 (qz hr.units rfl) rfl T.GG BT.EF (aa (cT (bN.caps (x := "harm") (fr:=["later"]) (ix:=[0]) (nm:=["later"]) rfl rfl (by decide +kernel) rfl (by decide +kernel) rfl (by decide +kernel) ⟨rfl,trivial⟩ rfl (by decide +kernel) rfl ⟨⟨rfl,rfl,rfl⟩,trivial⟩) (lS (pv 0)) (λ _ _ _ _=>dW) (λ _ _ _ _=>(cF (aa (pv 0) (aa (bz (qg (K:=K) rfl) rfl T.iC BT.iy (aa (nL (P:=P) (w:=w) rfl rfl hr.units (pv 1) (pv 0) (λ _ _=>rfl)) af)) af))))) af)))
 (ai (lE (i:=3) gS.nd rfl (ay rfl) (bN.caps (x := "harm") (fr:=["waiting"]) (ix:=[2]) (nm:=["waiting"]) rfl rfl (by decide +kernel) rfl (by decide +kernel) rfl (by decide +kernel) ⟨rfl,trivial⟩ rfl (by decide +kernel) rfl ⟨⟨rfl,rfl,rfl⟩,trivial⟩) (lS (pv 0)) (λ _ _ _ _=>(kP (aD c9 (nL (P:=P) (w:=w) rfl rfl hr.units (pv 1) (pv 0) (λ _ _=>rfl)) ak (aU _)))) (λ _ _ _ _=>(pv 0)))
 (ai (aN (i:=4) gS.nd rfl (bL rfl) we)
 (ai (lq bJ (nC (pv 3) (λ _=>rfl))
 (ai (aN (i:=5) gS.nd rfl (ay rfl) (yR cQ PySem.F.slot_list_pop PySem.F.type_list_pop Er (pv 3)))
 (ai (wg hr.units (pv 4) (pv 5) (aL dj ak (JT rfl rfl T.GH (aa (cT (bN.caps (x := "other") (fr:=["found"]) (ix:=[4]) (nm:=["found"]) rfl rfl (by decide +kernel) rfl (by decide +kernel) rfl (by decide +kernel) ⟨rfl,trivial⟩ rfl (by decide +kernel) rfl ⟨⟨rfl,rfl,rfl⟩,trivial⟩) (bR (gQ hr.units (pv 0) (pv 5) (λ _ _=>rfl))) (λ _ _ _ _=>dW) (λ _ _ _ _=>(nL (P:=P) (w:=w) rfl rfl hr.units (pv 1) (pv 0) (λ _ _=>rfl)))) af) ak)) rfl)
 (aq (cM bJ rfl (bR (gQ hr.units (pv 1) (pv 5) (λ _ _=>rfl))) (bg (i:=6) gS.nd rfl (ay rfl))
 (ai (F3 hr.units (pv 2) (pv 6) ak M1 (λ _ _ _=>rfl))
 (aq (bZ (aD c9 (gQ hr.units (pv 2) (pv 6) (λ _ _=>rfl)) ak (aU _))
 (aq (di (iu cQ gw gz dZ (pv 3) (aa (pv 6) af))))
 aX))))))))
 (aq (aI (pv 4)))))))),?_⟩
 show (_:TS) (Ends.mk _ _ _ _) [_,_,_,_,_,_,_] H
 walk_at "start"
 walk_at "go"
 refine ⟨d,ep,kvs,L,rfl,hd,hk,hl,hok,λ e epE Y9 H1 s1 fe he hke eke hle=>?_⟩
 obtain ⟨nd,hn,hL⟩:=hok
 generalize Af:kvs.map (·.1)=ks at *
 have hkn:kvs.length <= 4000:=by rw [<- Af,au] at hn; exact hn
 have hd1:=s1 _ _ hd
 have hk1:=hk.same s1
 have hl1:=cU.same hl s1
 clear hd hk hl
 walk_at "go"
 refine uB (kvs:=kvs) (λ i ys H'=>aE H1 H' /\ lT H' ys ((kvs.take i).map λ x=>(x.1,x.2.1,V.int (L x.1).length))) ⟨aE.refl _,by rw [List.take_zero]; exact .nil⟩ ?_ ?_ ?_
 ·rintro i ys H' _ ⟨s',_⟩
  exact s' _ _ hd1
 ·rintro i x ys H2 hx ⟨s2,hps⟩
  have hil:=(fu hx).1
  have hpl:=hps.length
  rw [au,cu] at hpl
  have Hq:=fS hx
  obtain ⟨a,vs,ea,ha,hvs⟩:=hl1 x Hq
  have hvl:=hvs.length
  refine ⟨ck (by omega),?_⟩
  walk_at "go"
  refine kC (s2 _ _ hd1) (hk1.same s2) (aM.same (hk1 x Hq) s2) ((qY (by rw [Af]; exact nd) Hq).trans (congrArg some ea)) ?_
  have ha2:=s2 _ _ ha
  walk_at "go"
  rename_i t H3 n3
  refine ⟨s2.trans n3.same,?_⟩
  rw [bV,hx,bK]
  exact cA (cj (λ u p ⟨t,h1,h2,h3⟩=>⟨t,h1,n3.keep h2,aM.same h3 n3.same⟩) hps) ⟨t,rfl,by have z:=n3.self; rw [hvl] at z; exact z,aM.same (hk1 x Hq) (s2.trans n3.same)⟩
 rintro ys H2 ⟨s2,hps⟩ l H3 n3
 rw [cD] at hps
 walk_at "go"
 refine A5 (bD.of n3.self) (cj (λ u p ⟨t,h1,h2,h3⟩=>⟨t,h1,n3.keep h2,aM.same h3 n3.same⟩) hps) (by rw [fY]; exact (show (kvs.map (·.1)).Nodup by rw [Af]; exact nd)) ?_
 intro wt Ux H4 n4
 have s4:aE H1 H4:=(s2.trans n3.same).trans n4.same
 have fwt:H1 wt=none:=(s2.trans n3.same).free n4.1
 have Ws:=n4.self
 have fn4:FnAt (kvs.map λ x=>(x.1,x.2.1,V.int (L x.1).length)) ks λ h=>((L h).length:Int):=⟨by rw [fY]; exact Af,λ x hx=>by obtain ⟨y,_,rfl⟩:=aG.mp hx; rfl⟩
 have Za:bM H4 (kvs.map λ x=>(x.1,x.2.1,V.int (L x.1).length)):=λ x hx=>by obtain ⟨y,hy,rfl⟩:=aG.mp hx; exact aM.same (hk1 y hy) s4
 generalize (kvs.map λ x=>(x.1,x.2.1,V.int (L x.1).length))=BG at *
 clear n3 n4 hps s2
 walk_at "go"
 refine uB (kvs:=kvs) (λ i ys H'=>aE H4 H' /\ aK H' ys ((ks.take i).filter λ h=>decide (((L h).length:Int)=0))) ⟨aE.refl _,.nil⟩ ?_ ?_ ?_
 ·rintro i ys H' _ ⟨s',_⟩
  exact s' _ _ (s4 _ _ hd1)
 ·rintro i x ys H5 hx ⟨s5,hys⟩
  have hil:=(fu hx).1
  have hyl:=hys.length
  have hfl:=gH (λ h=>decide (((L h).length:Int)=0)) (ks.take i)
  rw [cu] at hfl
  have Hq:=fS hx
  have hxk:x.1∈ks:=by rw [<- Af]; exact mX Hq
  have hxi:ks[i]? = some x.1:=by rw [<- Af,aY,hx]; rfl
  have hkx:=aM.same (hk1 x Hq) (s4.trans s5)
  refine ⟨ck (by omega),?_⟩
  walk_at "go"
  refine kC (s5 _ _ Ws) (Za.same s5) hkx (fn4.val hxk) ?_
  walk_at "go"
  ·rename_i h0
   refine ⟨s5,?_⟩
   rw [bV,hxi,gG]
   have e1:List.filter (λ h=>decide (((L h).length:Int)=0)) (some x.1).toList=[x.1]:=by simpa using h0
   rw [e1]
   exact cA hys hkx
  ·rename_i h0
   refine ⟨s5,?_⟩
   rw [bV,hxi,gG]
   have e1:List.filter (λ h=>decide (((L h).length:Int)=0)) (some x.1).toList=[]:=by simpa using h0
   rw [e1,dQ]
   exact hys
 rintro ys H5 ⟨s5,hys⟩ rd H6 n6
 have ekl:kvs.length=ks.length:=by rw [<- Af,au]
 rw [ekl,cD] at hys
 have Mb:=s5.trans n6.same
 have s6:=s4.trans Mb
 have frd:H1 rd=none:=(s4.trans s5).free n6.1
 have hrd:=n6.self
 have C8:=aK.same hys n6.same
 have KP:=Mb _ _ Ws
 have Uy:=Za.same Mb
 have P6:rd ≠ wt:=λ z=>by rw [z] at n6; have:=s5 _ _ Ws; rw [n6.1] at this; cases this
 clear n6 hys Ws Za Mb s5 s4
 walk_at "go"
 rename_i f yE H7 n7
 have s7:=s6.trans n7.same
 have ff:H1 f=none:=s6.free n7.1
 have CZ:=n7.self
 have Kq:=n7.keep hrd
 have Zb:=n7.keep KP
 have Pf:=aK.same C8 n7.same
 have Zc:=Uy.same n7.same
 have Uz:f ≠ wt:=λ z=>by rw [z] at n7; rw [n7.1] at KP; cases KP
 have P7:f ≠ rd:=λ z=>by rw [z] at n7; rw [n7.1] at hrd; cases hrd
 clear n7 hrd KP C8 Uy s6
 refine oO (λ m σ' H'=>(∃ y5 y6,σ'=[some (.ref d),some (.ref e),some (.ref wt),some (.ref rd),some (.ref f),y5,y6]) /\ aE H1 H' /\ ∃ vs R Ux BG g yE oB F,H' rd=some (.lst vs) /\ aK H' vs R /\ H' wt=some (.ext (cI P w wt Ux BG)) /\ bM H' BG /\ FnAt BG ks g /\ H' f=some (.ext (cI P w f yE oB)) /\ bM H' oB /\ fP oB F /\ gh ks L F g R /\ m=ks.length - F.length) ?_ ?_
 ·exact ⟨_,⟨_,_,rfl⟩,s7,ys,_,Ux,BG,_,yE,[],[],Kq,Pf,Zb,Zc,fn4,CZ,(λ x hx=>nomatch hx),rfl,gh.start nd,rfl⟩
 rintro m σ' H8 ⟨⟨y5,y6,rfl⟩,s8,vs,R,Zd,Ze,g,Zf,oB,F,KQ,uR,UA,UB,fn8,Kr,P8,Wt,inv,rfl⟩
 walk_at "go"
 have hFl:F.length <= ks.length:=by
  have:=i0 inv.nd (ys:=ks) λ x hx=>by obtain ⟨y,hy,rfl⟩:=aG.mp hx; exact inv.sub y hy
  rw [au] at this
  exact this
 rcases List.eq_nil_or_concat vs with rfl | ⟨vs0,v,rfl⟩
 ·cases uR
  refine zd rfl ?_
  walk_at "go"
  exact q f Zf oB F H8 (s1.trans s8) (s1.free ff) Kr P8 Wt inv.done
 rw [List.concat_eq_append] at KQ uR ⊢
 obtain ⟨R0,h,rfl,UC,KR⟩:=oA uR
 obtain ⟨Mk,Wu,Zg,Wf⟩:=inv.pop nd
 refine zc (by simp) ⟨_,λ _ _ x=>x,?_⟩
 walk_at "go"
 refine s_pop KQ (y:=v) (by simp) ?_
 rw [List.dropLast_concat]
 intro H9 p9
 have t9:=jU KQ p9
 have s9:=p9.same s8 frd
 have GU:=p9.self
 have Hr:=aK.tups UC t9
 have KS:=aM.tups KR t9
 have UD:=p9.keep (bF P6) UA
 have UE:=bM.tups UB t9
 have Ik:=p9.keep P7 Kr
 have P9:=bM.tups P8 t9
 clear p9 t9 KQ uR UC KR UA UB Kr P8 s8
 obtain ⟨x,Hq,rfl,hxv⟩:=o9 (kvs:=kvs) (k:=h) (by rw [Af]; exact nd) (by rw [Af]; exact Mk)
 obtain ⟨a,as,ea,ha,has⟩:=hl1 x Hq
 have hL4:=hL x.1 Mk
 have lM:=has.length
 have hv:=KS
 obtain ⟨vb,vu,rfl,_,_⟩:=hv
 walk_at "go"
 refine kC (s9 _ _ hd1) (hk1.same s9) KS (hxv.trans (congrArg some ea)) ?_
 have Pu:=s9 _ _ ha
 have UG:=aK.same has s9
 have hkF:=Wt.keys
 walk_at "go"
 refine f7 (xs:=as) (λ j ys H'=>aE H9 H' /\ ∃ ns:List Int,ys=ns.map V.int /\ Paired (λ n o=>(o,n)∈F) ns ((L x.1).take j)) ⟨aE.refl _,[],rfl,.nil⟩ ?_ ?_ ?_
 ·rintro j ys H' _ ⟨s',_⟩
  exact bD.of (s' _ _ Pu)
 ·rintro j y ys GV hy ⟨oz,ns,rfl,hns⟩
  obtain ⟨o,ho,UH⟩:=aW UG hy
  have hjl:=(fu hy).1
  have hnl:=hns.length
  rw [cu] at hnl
  refine ⟨ck (by rw [au]; omega),?_⟩
  obtain ⟨n,hn1,hn2⟩:=xB Wt (Zg o (fS ho))
  have Zh:=aM.same UH oz
  obtain ⟨yb,yu,rfl,_,_⟩:=UH
  walk_at "go"
  refine kC (oz _ _ Ik) (P9.same oz) Zh hn2 ?_
  refine ⟨oz,ns++[n],by simp,?_⟩
  rw [bV,ho]
  exact cA hns hn1
 rintro ys GV ⟨oz,ns,rfl,hns⟩ ml QB rK
 rw [lM,cD] at hns
 have uS:=oz.trans rK.same
 have hml:=rK.self
 have Mc:=s9.trans uS
 have Ml:=uS _ _ GU
 have sY:=aK.same Hr uS
 have BH:=aM.same KS uS
 have Mm:=uS _ _ UD
 have Mn:=UE.same uS
 have Qa:=uS _ _ Ik
 have Hs:=P9.same uS
 clear rK oz uS GU Hr KS UD UE Ik P9 s9 Pu UG
 walk_at "go"
 refine OV (bD.of hml) λ m hm0 hm1=>?_
 walk_at "go"
 have acT:oB.length=F.length:=by have:=congrArg List.length hkF; rw [au,au] at this; exact this
 refine F8 Qa Hs BH (by omega) ?_
 intro UI Px Qc
 obtain ⟨ep1,Zi⟩:=Hj (a:=vb) (n:=1 + m) Wt Wu
 rw [ep1] at Qc
 have QI:=qX Qa Qc
 have s12:=Qc.same Mc ff
 have UJ:=Qc.self
 have Mp:bM Px (oB++[(x.1,vb,.int (1 + m))]):=λ y hy=>by
  rcases aO.mp hy with hy | hy
  ·exact aM.tups (Hs y hy) QI
  ·rw [aC.mp hy]; exact aM.tups BH QI
 have Mq:=Qc.keep (bF P7) Ml
 have BI:=aK.tups sY QI
 have UK:=aM.tups BH QI
 have Mr:=Qc.keep (bF Uz) Mm
 have Ms:=bM.tups Mn QI
 clear Qc QI hml Ml sY BH Mm Mn Qa Hs Mc
 obtain ⟨pe,hpe,epx,Wq⟩:=o9 (kvs:=Y9) (k:=x.1) (by rw [eke]; exact nd) (by rw [eke]; exact Mk)
 obtain ⟨b,bs,eb,hb,rL⟩:=hle pe hpe
 rw [epx] at rL
 walk_at "go"
 refine kC (s12 _ _ he) (hke.same s12) UK (Wq.trans (congrArg some eb)) ?_
 have Zj:=s12 _ _ hb
 walk_at "go"
 have cl:∀ y∈ks,y∈F.map (·.1)->∀ o∈L y,o∈F.map (·.1):=λ y _ hy o ho=>by
  obtain ⟨z,hz,rfl⟩:=aG.mp hy
  obtain ⟨n,hn,_⟩:=(inv.fin z hz).2.1 o ho
  exact aG.mpr ⟨_,hn,rfl⟩
 refine f_list (xs:=bs) (λ j σ' H'=>(∃ z,σ'=[some (.ref d),some (.ref e),some (.ref wt),some (.ref rd),some (.ref f),some (.ref vb),z]) /\ aE H1 H' /\ ∃ vs R Ux BG g,H' rd=some (.lst vs) /\ aK H' vs R /\ H' wt=some (.ext (cI P w wt Ux BG)) /\ bM H' BG /\ FnAt BG ks g /\ H' f=some (.ext (cI P w f UI (oB++[(x.1,vb,.int (1 + m))]))) /\ bM H' (oB++[(x.1,vb,.int (1 + m))]) /\ mL ks L (F.map (·.1)++[x.1]) (cN L ks x.1) j g R) ?_ ?_ ?_ ?_
 ·exact ⟨⟨_,rfl⟩,s12,vs0,R0,Zd,Ze,g,Mq,BI,Mr,Ms,fn8,UJ,Mp,Wf⟩
 ·rintro j σ' H' _ ⟨_,s',_⟩
  exact bD.of (s' _ _ hb)
 ·rintro j y σ' H13 hy ⟨⟨z0,rfl⟩,Io,vs,R,Mt,BG,g,BJ,BK,tF,tG,Dl,KU,BL,Dm⟩
  clear Mq BI Mr Ms UJ Mp s12 Zj
  obtain ⟨o,ho,UH⟩:=aW rL hy
  obtain ⟨hw1,hok,hyes,hno⟩:=Dm.next cl Wu Zg ho
  have BN:=aM.same UH Io
  obtain ⟨yb,yu,rfl,_,_⟩:=UH
  have hWl:BG.length=ks.length:=by rw [<- Dl.1,au]
  walk_at "go"
  refine kC tF tG BN (Dl.val hok) ?_
  walk_at "go"
  refine Oi ?_
  refine F8 tF tG BN (by omega) ?_
  intro Mu H14 Il
  have UL:=qX tF Il
  have Ip:=Il.same Io fwt
  have Ht:=Il.self
  have Hu:=bM.tups (Hl (a:=yb) (v:=.int (g o - 1)) tG (by rw [Dl.1]; exact hok)) UL
  have Qd:FnAt (iW BG o yb (.int (g o - 1))) ks (qW g o (g o - 1)):=Dl.put hok
  have Mv:=Il.keep P6 BJ
  have Hv:=aK.tups BK UL
  have Ku:=Il.keep Uz KU
  have Mw:=bM.tups BL UL
  have Mx:=aM.tups BN UL
  clear Il UL Io BJ BK tF tG KU BL BN
  have hvl:=Hv.length
  have hRl:=i0 Dm.P4 (ys:=ks) λ y hy=>((Dm.Iq y).mp hy).1
  walk_at "go"
  refine kC Ht Hu Mx (Qd.val hok) ?_
  have eg:qW g o (g o - 1) o=g o - 1:=by unfold qW; rw [if_pos rfl]
  rw [eg]
  walk_at "go"
  ·rename_i h0 H15 Kv
   have Wv:=jU Mv Kv
   exact ⟨⟨_,rfl⟩,Kv.same Ip frd,_,_,Mu,_,_,Kv.self,cA (aK.tups Hv Wv) (aM.tups Mx Wv),Kv.keep (bF P6) Ht,bM.tups Hu Wv,Qd,Kv.keep P7 Ku,bM.tups Mw Wv,hyes h0⟩
  ·rename_i h0
   exact ⟨⟨_,rfl⟩,Ip,_,_,Mu,_,_,Mv,Hv,Ht,Hu,Qd,Ku,Mw,hno h0⟩
 ·rintro σ' H13 ⟨⟨z0,rfl⟩,Io,vs,R,Mt,BG,g,BJ,BK,tF,tG,Dl,KU,BL,Dm⟩
  rw [rL.length] at Dm
  refine Gs _ _ ?_
  have hlt:F.length + 1 <= ks.length:=by
   have h1:(F.map (·.1)++[x.1]).Nodup:=by
    rw [eV]
    exact ⟨inv.nd,by simp,λ a ha b hb z=>Wu (by rw [aC.mp hb] at z; exact z ▸ ha)⟩
   have:=i0 h1 (ys:=ks) λ y hy=>by
    rcases aO.mp hy with hy | hy
    ·obtain ⟨z,hz,rfl⟩:=aG.mp hy; exact inv.sub z hz
    ·rw [aC.mp hy]; exact Mk
   rw [bh,au] at this
   exact this
  refine ⟨ks.length - (F++[(x.1,1 + m)]).length,by rw [bh]; simp; omega,⟨_,_,rfl⟩,Io,vs,R,Mt,BG,g,UI,_,_,BJ,BK,tF,tG,Dl,KU,BL,Zi,mL.end inv Dm Mk Wu Zg rfl (λ e0=>?_) (λ e0=>?_),rfl⟩
  ·rw [e0] at hns
   cases hns
   exact hm0 rfl
  ·have hne:ns ≠ []:=λ z=>by rw [z] at hns; cases hL0:L x.1 with
    | nil=>exact e0 hL0
    | cons _ _=>rw [hL0] at hns; cases hns
   obtain ⟨h1,h2⟩:=hm1 hne
   obtain ⟨i,hi,ei⟩:=kH.mp h1
   obtain ⟨o,ho,Zk⟩:=aW hns (i:=i) (x:=m) (by rw [dJ hi,ei])
   refine ⟨⟨o,fS ho,Zk⟩,λ o ho k hk=>?_⟩
   obtain ⟨j,hj,ej⟩:=kH.mp ho
   obtain ⟨n,hn,hnF⟩:=fk hns (i:=j) (y:=o) (by rw [dJ hj,ej])
   rw [j8 inv.nd hk hnF]
   exact h2 n (fS hn)
end
section
variable {α:Type} [DecidableEq α]
theorem mP{ks:List α}{L:α->List α}{F G:List (α × Int)}(hF:tE ks L F)(hG:tE ks L G):∀ (n:Nat) (h:α) (m:Int),m.toNat <= n->(h,m)∈F->(h,m)∈G
 | 0,h,m,hn,hm=>by have:=(hF.fin _ hm).1; dsimp only at this; omega
 | n + 1,h,m,hn,hm=>by
  obtain ⟨h1,h2,h3⟩:=hF.fin _ hm
  dsimp only at h1 h2 h3
  have ih:∀ o∈L h,∀ k,(o,k)∈F->(o,k)∈G:=λ o ho k hk=>by
   obtain ⟨k',hk',hlt⟩:=h2 o ho
   have e:=j8 hF.nd hk hk'
   subst e
   have:=(hF.fin _ hk).1
   dsimp only at this
   exact mP hF hG n o k (by omega) hk
  have hin:h∈G.map (·.1):=pM λ no=>by
   obtain ⟨o,ho,hno⟩:=hG.out h (hF.sub _ hm) no
   obtain ⟨k,hk,_⟩:=h2 o ho
   exact hno (aG.mpr ⟨_,ih o ho k hk,rfl⟩)
  obtain ⟨⟨_,m'⟩,hm',rfl⟩:=aG.mp hin
  obtain ⟨g1,g2,g3⟩:=hG.fin _ hm'
  dsimp only at g1 g2 g3 h1 h2 h3 ih hm
  have e:m'=m:=by
   rcases h3 with ⟨e1,e2⟩ | ⟨o,ho,OB⟩
   ·rcases g3 with ⟨e3,_⟩ | ⟨o,ho,_⟩
    ·omega
    ·rw [e2] at ho; exact nomatch ho
   ·rcases g3 with ⟨_,e3⟩ | ⟨o',ho',ho2⟩
    ·rw [e3] at ho; exact nomatch ho
    ·obtain ⟨k,hk,hlt⟩:=g2 o ho
     have a:=j8 hG.nd hk (ih o ho _ OB)
     obtain ⟨k',hk',hlt'⟩:=h2 o' ho'
     have b:=j8 hG.nd (ih o' ho' _ hk') ho2
     omega
  rw [<- e]
  exact hm'
def gc(ks:List α)(L:α->List α)(F:List (α × Int)):Prop:=tE ks L F /\ F.length=ks.length
theorem KW{ks:List α}{L:α->List α}{F G:List (α × Int)}(nd:ks.Nodup)(hF:gc ks L F)(hG:tE ks L G):G.length=ks.length:=by
 have h1:F.length <= G.length:=by
  have:=i0 hF.1.nd (ys:=G.map (·.1)) λ x hx=>by
   obtain ⟨⟨h,m⟩,hm,rfl⟩:=aG.mp hx
   exact aG.mpr ⟨_,mP hF.1 hG _ h m (az _) hm,rfl⟩
  rwa [au,au] at this
 have h2:G.length <= ks.length:=by
  have:=i0 hG.nd (ys:=ks) λ x hx=>by obtain ⟨y,hy,rfl⟩:=aG.mp hx; exact hG.sub y hy
  rwa [au] at this
 have:=hF.2
 omega
theorem gc.mem{ks:List α}{L:α->List α}{F:List (α × Int)}(nd:ks.Nodup)(h:gc ks L F){x:α}(hx:x∈ks):∃ n,(x,n)∈F:=by
 have:x∈F.map (·.1):=pM λ no=>by
  have h1:(F.map (·.1)++[x]).Nodup:=by
   rw [eV]
   exact ⟨h.1.nd,by simp,λ a ha b hb z=>no (by rw [aC.mp hb] at z; exact z ▸ ha)⟩
  have:=i0 h1 (ys:=ks) λ y hy=>by
   rcases aO.mp hy with hy | hy
   ·obtain ⟨z,hz,rfl⟩:=aG.mp hy; exact h.1.sub z hz
   ·rw [aC.mp hy]; exact hx
  rw [bh,au,h.2,fX] at this
  omega
 obtain ⟨⟨_,n⟩,hn,rfl⟩:=aG.mp this
 exact ⟨n,hn⟩
def BO(ks:List α)(L:α->List α)(m:Int):Prop:=∃ F,gc ks L F /\ (∃ x∈F,x.2=m) /\ ∀ x∈F,x.2 <= m
end
theorem BP{ls:List HM.bf}(h:iF rs r t ks)(g:iF rs r t ls):ks=ls:=uO HM.kY h.1 g.1 λ z=>(h.2 z).trans (g.2 z).symm
theorem Hw{n:Int}(hok:r.ok n)(ht:z9 t)(h:iF rs r t ks):ks.length <= 4:=by
 have nd:ks.Nodup:=h.1.imp λ h e=>by rw [e] at h; omega
 have h1:ks.length <= (r.ways.flatMap λ q=>(cY r t).map λ u=>(q,u)).length:=i0 nd λ z hz=>by
  obtain ⟨a1,a2,_⟩:=(h.2 z).mp hz
  exact jD.mpr ⟨z.1,a1,aG.mpr ⟨z.2,(gX hok ht _).mpr a2,rfl⟩⟩
 have h2:=Row.iZ r
 have h3:=qT r ht
 have h4:∀ ws:List Int,(ws.flatMap λ q=>(cY r t).map λ u=>(q,u)).length=ws.length * (cY r t).length:=λ ws=>by
  induction ws with
  | nil=>simp
  | cons w ws ih=>rw [mW,bh,ih,au,dR,Nat.succ_mul,Nat.add_comm]
 rw [h4] at h1
 exact bE h1 (Nat.mul_le_mul h2 h3)
open Classical in
def dD(rs:List Row)(h:HM.bf):List HM.bf:=if e:∃ (ks:List HM.bf) (r:Row),rs[h.1.toNat]? = some r /\ iF rs r h.2 ks then e.choose else []
theorem BQ{h:HM.bf}(hr:rs[h.1.toNat]? = some r)(hl:iF rs r h.2 ks):dD rs h=ks:=by
 have e:∃ (ks:List HM.bf) (r:Row),rs[h.1.toNat]? = some r /\ iF rs r h.2 ks:=⟨ks,r,hr,hl⟩
 unfold dD
 rw [dif_pos e]
 obtain ⟨r',hr',hl'⟩:=e.choose_spec
 rw [hr] at hr'
 cases hr'
 exact BP hl' hl
theorem xC(h:cZ H rs kvs):cU H kvs (dD rs):=λ x hx=>by
 obtain ⟨a,vs,ks,k,r,h1,h2,h3,h4,h5,h6⟩:=h x hx
 refine ⟨a,vs,h1,h2,?_⟩
 rw [BQ (r:=r) (by rw [h4]; exact h5) h6]
 exact h3
theorem i7{z:HM.bf}:z∈bq rs n ↔ ∃ k:Nat,k < n /\ z.1=(k:Int) /\ z.2∈bS rs k:=by
 unfold bq
 rw [jD]
 constructor
 ·rintro ⟨k,hk,hz⟩
  obtain ⟨t,ht,rfl⟩:=aG.mp hz
  exact ⟨k,fE.mp hk,rfl,ht⟩
 ·rintro ⟨k,hk,e,ht⟩
  exact ⟨k,fE.mpr hk,aG.mpr ⟨z.2,ht,Prod.ext e.symm rfl⟩⟩
theorem tH:t∈bS rs k ↔ cX.lv rs k t:=by
 unfold bS
 cases t with
 | none=>simp [cX.lv]
 | some p=>simp [cX.lv]
theorem xD(rs:List Row):∀ n,(bq rs n).Nodup
 | 0=>.nil
 | n + 1=>by
  rw [gZ,eV]
  refine ⟨xD rs n,gJ.mpr ((tD rs n).imp λ h e=>h (congrArg Prod.snd e)),λ x hx y hy e=>?_⟩
  obtain ⟨k,hk,e1,_⟩:=i7.mp hx
  obtain ⟨t,_,rfl⟩:=aG.mp hy
  rw [e] at e1
  have e1:(n:Int)=(k:Int):=e1
  omega
theorem xE(hok:∀ r∈rs,r.ok rs.length)(hn:rs.length <= 200)(em:kvs.map (·.1)=bq rs rs.length)(h:cZ H rs kvs):
  iG (bq rs rs.length) (dD rs) /\ ∀ k r t,rs[k]? = some r->t∈bS rs k->iF rs r t (dD rs ((k:Int),t)):=by
 have each:∀ z∈bq rs rs.length,∃ (k:Nat) (r:Row),z.1=(k:Int) /\ rs[k]? = some r /\ iF rs r z.2 (dD rs z) /\ z9 z.2:=λ z hz=>by
  rw [<- em] at hz
  obtain ⟨x,hx,rfl⟩:=aG.mp hz
  obtain ⟨a,vs,ks,k,r,h1,h2,h3,h4,h5,h6⟩:=h x hx
  obtain ⟨k',_,e',ht⟩:=i7.mp (by rw [<- em]; exact hz)
  refine ⟨k,r,h4,h5,?_,nS rs k' _ ht⟩
  rw [BQ (r:=r) (by rw [h4]; exact h5) h6]
  exact h6
 refine ⟨⟨xD rs _,bE (mK rs _) (by omega),λ z hz=>?_⟩,λ k r t hr ht=>?_⟩
 ·obtain ⟨k,r,e,hr,hl,sF⟩:=each z hz
  have uQ:=hok r (fS hr)
  refine ⟨Hw uQ sF hl,λ o ho=>?_⟩
  obtain ⟨a1,a2,a3⟩:=(hl.2 o).mp ho
  obtain ⟨b1,b2⟩:=Row.iE uQ o.1 a1
  exact i7.mpr ⟨o.1.toNat,by omega,by omega,tH.mpr a3⟩
 ·have hk:=(fu hr).1
  obtain ⟨k',r',e,hr',hl,_⟩:=each ((k:Int),t) (i7.mpr ⟨k,hk,rfl,ht⟩)
  have e:(k:Int)=(k':Int):=e
  have:k=k':=by omega
  subst this
  rw [hr] at hr'
  cases hr'
  exact hl
section
variable {P:Program}{w:World}{K:aA}{mg:Str->Option Value}{base:Heap}
def Dp(P:Program)(w:World):Sp:=λ vs H Q _=>∃ (d:Addr) (ep:Nat) (kvs:dM) (L:HM.bf->List HM.bf),vs=[.ref d] /\ H d=some (.ext (cI P w d ep kvs)) /\ bM H kvs /\ cU H kvs L /\ iG (kvs.map (·.1)) L /\
 (∀ H',aE H H'->(∀ F,¬ gc (kvs.map (·.1)) L F)->Q .c6 H') /\ ∀ (d':Addr) (nV:Nat) (kvs':dM) (F:List (HM.bf × Int)) (H':Hp),aE H H'->H d'=none->H' d'=some (.ext (cI P w d' nV kvs'))->bM H' kvs'->fP kvs' F->gc (kvs.map (·.1)) L F->Q (.ref d') H'
theorem qZ(T:Txt w K mg):bY P w K mg base gr 3 T.mD.f T.mD.d ["later"] (Dp P w):=by
 refine T.mD.F.ok qJ (λ vs H Q E h=>?_) (λ cdv A outer s H vs Q E hr h=>?_)
 ·obtain ⟨d,ep,kvs,L,rfl,_⟩:=h
  rfl
 obtain ⟨d,ep,kvs,L,rfl,hd,hk,hl,hok,q0,q⟩:=h
 refine ⟨_,(ai (aN (i:=1) qJ.nd rfl (ay rfl) (bw T.ended (Ho T) hr (aa (pv 0) af)))
 (aq (aI (gP (aD c9 (bz (nK) rfl T.iC BT.iy (aa (pv 1) af)) (bz (nK) rfl T.iC BT.iy (aa (pv 0) af)) (aU _)) (pv 1) kN)))),?_⟩
 show (_:TS) (Ends.mk _ _ _ _) [_,_] H
 walk_at "start"
 walk_at "go"
 refine ⟨d,ep,kvs,L,rfl,hd,hk,hl,hok,λ f yE oB F H1 s1 ff hf My hF UM=>?_⟩
 have hd1:=s1 _ _ hd
 have hkF:oB.length=F.length:=by have:=congrArg List.length hF.keys; rw [au,au] at this; exact this
 walk_at "go"
 ·rename_i e
  exact q f yE oB F H1 s1 ff hf My hF ⟨UM,by rw [au]; omega⟩
 ·rename_i e
  refine q0 H1 s1 λ G hG=>e ?_
  have:=KW hok.1 hG UM
  rw [au] at this
  omega
def Hx(P:Program)(w:World):Sp:=λ vs H Q _=>∃ (c:Addr) (us:List V) (rs:List Row),vs=[.ref c] /\ H c=some (.lst us) /\ Rows H us rs /\ (∀ r∈rs,r.ok rs.length) /\ rs.length <= 200 /\
 (iG (bq rs rs.length) (dD rs)->(∀ k r t,rs[k]? = some r->t∈bS rs k->iF rs r t (dD rs ((k:Int),t)))->(∀ H',aE H H'->(∀ F,¬ gc (bq rs rs.length) (dD rs) F)->Q .c6 H') /\ ∀ (d':Addr) (nV:Nat) (kvs':dM) (F:List (HM.bf × Int)) (H':Hp),aE H H'->H d'=none->H' d'=some (.ext (cI P w d' nV kvs'))->bM H' kvs'->fP kvs' F->gc (bq rs rs.length) (dD rs) F->Q (.ref d') H')
theorem Dq(T:Txt w K mg):bY P w K mg base gr 6 T.uG.f T.uG.d ["code"] (Hx P w):=by
 refine T.uG.F.ok CW (λ vs H Q E h=>?_) (λ cdv A outer s H vs Q E hr h=>?_)
 ·obtain ⟨c,us,rs,rfl,_⟩:=h
  rfl
 obtain ⟨c,us,rs,rfl,hc,hrs,hok,hn,q⟩:=h
 refine ⟨_,(aq (aI (bw T.mD (qZ T) hr (aa (bw T.mz (qV T) hr (aa (pv 0) af)) af)))),?_⟩
 show (_:TS) (Ends.mk _ _ _ _) [_] H
 walk_at "start"
 walk_at "go"
 refine ⟨c,us,rs,rfl,hc,hrs,hok,hn,λ d ep kvs H1 s1 fd hd hk em hla=>?_⟩
 obtain ⟨yF,xF⟩:=xE hok hn em hla
 obtain ⟨q0,q1⟩:=q yF xF
 walk_at "go"
 refine ⟨d,ep,kvs,dD rs,rfl,hd,hk,xC hla,by rw [em]; exact yF,λ H2 s2 no=>?_,λ f yE oB F H2 s2 ff hf My hF e=>?_⟩
 ·walk_at "go"
  rw [em] at no
  exact q0 H2 (s1.trans s2) no
 ·walk_at "go"
  rw [em] at e
  exact q1 f yE oB F H2 (s1.trans s2) (s1.free ff) hf My hF e
def KY:Sp:=λ vs H Q _=>∃ (c:Addr) (us:List V) (rs:List Row),vs=[.ref c] /\ H c=some (.lst us) /\ Rows H us rs /\ (∀ r∈rs,r.ok rs.length) /\ rs.length <= 200 /\ rs ≠ [] /\
 (iG (bq rs rs.length) (dD rs)->(∀ k r t,rs[k]? = some r->t∈bS rs k->iF rs r t (dD rs ((k:Int),t)))->(∀ H',aE H H'->(∀ F,¬ gc (bq rs rs.length) (dD rs) F)->Q .c6 H') /\ ∀ (m:Int) (H':Hp),aE H H'->BO (bq rs rs.length) (dD rs) m->Q (.int m) H')
theorem Hy(T:Txt w K mg):bY P w K mg base gr 7 T.delay.f T.delay.d ["code"] KY:=by
 refine T.delay.F.ok wF (λ vs H Q E h=>?_) (λ cdv A outer s H vs Q E hr h=>?_)
 ·obtain ⟨c,us,rs,rfl,_⟩:=h
  rfl
 obtain ⟨c,us,rs,rfl,hc,hrs,hok,hn,hne,q⟩:=h
 refine ⟨_,(ai (aN (i:=1) wF.nd rfl (ay rfl) (bw T.uG (Dq T) hr (aa (pv 0) af)))
 (aq (aI (gP (aD oR (pv 1) kN (aU _)) kN (bz (CN rfl) rfl T.GH BT.E8 (aa (Gb (pv 1)) af)))))),?_⟩
 show (_:TS) (Ends.mk _ _ _ _) [_,_] H
 walk_at "start"
 walk_at "go"
 refine ⟨c,us,rs,rfl,hc,hrs,hok,hn,λ yF xF=>⟨λ H1 s1 no=>?_,λ f yE oB F H1 s1 ff hf My hF e=>?_⟩⟩
 ·walk_at "go"
  exact (q yF xF).1 H1 s1 no
 ·walk_at "go"
  rename_i v H2 n2
  have ev:oB.map (·.2.2)=(F.map (·.2)).map V.int:=by
   have:=congrArg (List.map (·.2)) hF
   rw [fY,fY] at this
   rw [fY]
   exact this
  have Zl:F.map (·.2) ≠ []:=λ z=>by
   have h0:F.length=0:=by rw [<- au (f:=(·.2)),z]; rfl
   have h1:=e.2
   cases rs with
   | nil=>exact hne rfl
   | cons r rs =>
    have:((0:Int),none)∈bq (r :: rs) (r :: rs).length:=i7.mpr ⟨0,by simp,rfl,tH.mpr trivial⟩
    rw [h0] at h1
    rw [List.length_eq_zero_iff.mp h1.symm] at this
    exact nomatch this
  refine OU n2.self (n2.keep hf) ev Zl λ m hm hle=>?_
  walk_at "go"
  obtain ⟨x,hx,rfl⟩:=aG.mp hm
  exact (q yF xF).2 _ H2 (s1.trans n2.same) ⟨F,e,⟨x,hx,rfl⟩,λ y hy=>hle _ (mX hy)⟩
end
section
variable {α:Type} [DecidableEq α]
def Ag(g:α->Int)(cs:List α)(i:Nat):Int:=((cs[i]?).map g).getD 0
def gp(L:α->List α)(g:α->Int):Nat->List α->List α
 | 0,_=>[]
 | n + 1,cs=>match cs[MK.lU (Ag g cs) (cs.length - 1)]? with
  | none=>[]
  | some h=>h :: gp L g n (L h)
theorem i8{g:α->Int}{cs:List α}(hne:cs ≠ []):∃ h,cs[MK.lU (Ag g cs) (cs.length - 1)]? = some h /\ h∈cs /\ ∀ x∈cs,g x <= g h:=by
 obtain ⟨h1,h2⟩:=MK.Gf (Ag g cs) (cs.length - 1)
 have hp:=List.length_pos_iff.mpr hne
 have hlt:MK.lU (Ag g cs) (cs.length - 1) < cs.length:=by omega
 refine ⟨cs[MK.lU (Ag g cs) (cs.length - 1)],dJ hlt,gn hlt,λ x hx=>?_⟩
 obtain ⟨i,hi,rfl⟩:=kH.mp hx
 have:=(h2 i (by omega)).1
 generalize MK.lU (Ag g cs) (cs.length - 1)=j at hlt this ⊢
 unfold Ag at this
 rw [dJ hi,dJ hlt] at this
 exact this
theorem i9{L:α->List α}{g:α->Int}{cs:List α}{h:α}(e:cs[MK.lU (Ag g cs) (cs.length - 1)]? = some h):gp L g (n + 1) cs=h :: gp L g n (L h):=by
 show (match cs[MK.lU (Ag g cs) (cs.length - 1)]? with | none=>[] | some h=>h :: gp L g n (L h))=_
 rw [e]
theorem mQ(L:α->List α)(g:α->Int):∀ n,gp L g n []=[]
 | 0=>rfl
 | _ + 1=>rfl
theorem Hz(L:α->List α)(g:α->Int):∀ (n:Nat) (cs:List α),(gp L g n cs).length <= n
 | 0,_=>az _
 | n + 1,cs=>by
  show (match cs[MK.lU (Ag g cs) (cs.length - 1)]? with | none=>[] | some h=>h :: gp L g n (L h)).length <= n + 1
  split
  ·exact aQ _
  ·exact Nat.succ_le_succ (Hz L g n _)
theorem tK{L:α->List α}{g:α->Int}:∀ (n:Nat) (cs:List α),(∀ x,(gp L g n cs)[0]? = some x->x∈cs) /\ ∀ (i:Nat) (x y:α),(gp L g n cs)[i]? = some x->(gp L g n cs)[i + 1]? = some y->y∈L x
 | 0,cs=>⟨(λ x h=>nomatch h),λ i x y h _=>by simp [gp] at h⟩
 | n + 1,cs=>by
  by_cases hne:cs=[]
  ·subst hne
   rw [mQ]
   exact ⟨(λ x h=>nomatch h),λ i x y h _=>by simp at h⟩
  obtain ⟨h,e,hm,_⟩:=i8 (g:=g) hne
  rw [i9 e]
  obtain ⟨c1,c2⟩:=tK (L:=L) (g:=g) n (L h)
  refine ⟨λ x hx=>by cases hx; exact hm,λ i x y hx hy=>?_⟩
  rw [List.getElem?_cons_succ] at hy
  cases i with
  | zero=>cases hx; exact c1 y hy
  | succ i=>exact c2 i x y (by rwa [List.getElem?_cons_succ] at hx) hy
def fm(F:List (α × Int))(n:Int)(h:α):Int:=((F.find? λ x=>decide (x.1=h)).map (·.2)).getD n
theorem jt{F:List (α × Int)}{n m:Int}{h:α}(nd:(F.map (·.1)).Nodup)(hm:(h,m)∈F):fm F n h=m:=by
 unfold fm
 cases e:F.find? (λ x=>decide (x.1=h)) with
 | none=>exact absurd (List.find?_eq_none.mp e _ hm) (by simp)
 | some x =>
  have h1:=List.find?_some e
  have h2:=List.mem_of_find?_eq_some e
  obtain ⟨a,b⟩:=x
  obtain rfl:a=h:=of_decide_eq_true h1
  exact j8 nd h2 hm
theorem BR{ks:List α}{L:α->List α}{F:List (α × Int)}{n0:Int}(nd:ks.Nodup)(hL:∀ k∈ks,∀ o∈L k,o∈ks)(hF:gc ks L F):∀ (n:Nat) (h:α),h∈ks->(fm F n0 h).toNat <= n + 1 ->
  (gp L (fm F n0) n (L h)).length + 1=(fm F n0 h).toNat /\ 1 <= fm F n0 h /\ (∀ x∈gp L (fm F n0) n (L h),x∈ks /\ fm F n0 x < fm F n0 h) /\ (gp L (fm F n0) n (L h)).Nodup:=by
 intro n
 induction n with
 | zero =>
  intro h hh hn
  obtain ⟨m,hm⟩:=hF.mem nd hh
  have ev:=jt (n:=n0) hF.1.nd hm
  obtain ⟨h1,_,_⟩:=hF.1.fin _ hm
  dsimp only at h1
  refine ⟨?_,by omega,(λ x hx=>nomatch hx),.nil⟩
  show 0 + 1=_
  omega
 | succ n ih =>
  intro h hh hn
  obtain ⟨m,hm⟩:=hF.mem nd hh
  have ev:=jt (n:=n0) hF.1.nd hm
  obtain ⟨h1,h2,h3⟩:=hF.1.fin _ hm
  dsimp only at h1 h2 h3
  by_cases hne:L h=[]
  ·rw [hne,mQ]
   refine ⟨?_,by omega,(λ x hx=>nomatch hx),.nil⟩
   rcases h3 with ⟨e,_⟩ | ⟨o,ho,_⟩
   ·show 0 + 1=_
    omega
   ·rw [hne] at ho; exact nomatch ho
  obtain ⟨x,e,hx,Qe⟩:=i8 (g:=fm F n0) hne
  have hxk:=hL h hh x hx
  rcases h3 with ⟨_,e0⟩ | ⟨o,ho,Zk⟩
  ·exact absurd e0 hne
  have evo:=jt (n:=n0) hF.1.nd Zk
  obtain ⟨k,hk,hlt⟩:=h2 x hx
  have evx:=jt (n:=n0) hF.1.nd hk
  have h4:=Qe o ho
  obtain ⟨i1,i2,i3,i4⟩:=ih x hxk (by omega)
  rw [i9 e]
  refine ⟨?_,by omega,λ y hy=>?_,fZ.mpr ⟨λ z=>?_,i4⟩⟩
  ·rw [dR]
   omega
  ·rcases aJ.mp hy with rfl | hy
   ·exact ⟨hxk,by omega⟩
   ·have:=i3 y hy
    exact ⟨this.1,by omega⟩
  ·have:=(i3 x z).2
   omega
theorem KZ{ks:List α}{L:α->List α}{F:List (α × Int)}{n0 m:Int}(nd:ks.Nodup)(hL:∀ k∈ks,∀ o∈L k,o∈ks)(hF:gc ks L F)(hd:BO ks L m):((gp L (fm F n0) ks.length ks).length:Int)=m:=by
 obtain ⟨G,hG,⟨y,hy,rfl⟩,hle⟩:=hd
 have Uc:=hG.1.sub y hy
 have hne:ks ≠ []:=λ z=>by rw [z] at Uc; exact nomatch Uc
 have hp:=List.length_pos_iff.mpr hne
 obtain ⟨h,e,hh,Qe⟩:=i8 (g:=fm F n0) hne
 have ev:∀ x∈G,fm F n0 x.1=x.2:=λ x hx=>jt hF.1.nd (mP hG.1 hF.1 _ x.1 x.2 (az _) hx)
 obtain ⟨k,hk⟩:=hG.mem nd hh
 have e1:=ev _ hk
 have e2:=ev _ hy
 have h1:=hle _ hk
 have h2:=Qe _ Uc
 dsimp only at e1 h1
 obtain ⟨a1,a2,a3,a4⟩:=BR (n0:=n0) nd hL hF ((fm F n0 h).toNat) h hh (by omega)
 have hl:(h :: gp L (fm F n0) ((fm F n0 h).toNat) (L h)).length <= ks.length:=i0 (fZ.mpr ⟨λ z=>by have:=(a3 h z).2; omega,a4⟩) λ x hx=>by
  rcases aJ.mp hx with rfl | hx
  ·exact hh
  ·exact (a3 x hx).1
 rw [dR] at hl
 obtain ⟨n,hn⟩:∃ n,ks.length=n + 1:=⟨ks.length - 1,by omega⟩
 obtain ⟨b1,_,_,_⟩:=BR (n0:=n0) nd hL hF n h hh (by omega)
 rw [hn,i9 e,dR]
 omega
theorem xH{L:α->List α}{f g:α->Int}{ks:List α}(hL:∀ k∈ks,∀ o∈L k,o∈ks)(hfg:∀ k∈ks,f k=g k):∀ (n:Nat) (cs:List α),(∀ x∈cs,x∈ks)->gp L f n cs=gp L g n cs
 | 0,_,_=>rfl
 | n + 1,cs,hc=>by
  by_cases hne:cs=[]
  ·rw [hne,mQ,mQ]
  have ek:Ag f cs=Ag g cs:=by
   funext i
   unfold Ag
   cases e:cs[i]? with
   | none=>rfl
   | some x=>exact hfg x (hc x (fS e))
  obtain ⟨h,e,hh,_⟩:=i8 (g:=f) hne
  rw [i9 e,i9 (by rw [<- ek]; exact e),xH hL hfg n (L h) (hL h (hc h hh))]
end
theorem xJ:∀ {kvs:dM} {F:List (HM.bf × Int)},fP kvs F->∀ (o:HM.bf) (n:Int),(g9 kvs o).getD (.int n)=.int (fm F n o)
 | [],[],_,_,_=>rfl
 | [],_ :: _,e,_,_=>nomatch e
 | _ :: _,[],e,_,_=>nomatch e
 | x :: kvs,y :: F,e,o,n=>by
  unfold fP at e
  rw [bO,bO] at e
  obtain ⟨e1,e2⟩:=List.cons.inj e
  have a1:x.1=y.1:=congrArg Prod.fst e1
  have a2:x.2.2=V.int y.2:=congrArg Prod.snd e1
  unfold g9 fm
  rw [fW,fW,<- a1]
  by_cases h:x.1=o
  ·rw [decide_eq_true h]
   exact a2
  ·rw [decide_eq_false h]
   exact xJ (kvs:=kvs) (F:=F) e2 o n
theorem xK:∀ {H:Hp} {vs:List V} {ks:List HM.bf},aK H vs ks->vs=(vs.map adr).map V.ref
 | _,_,_,.nil=>rfl
 | _,_,_,.cons h t=>by
  rw [bO,bO,<- h.adr,<- xK t]
def Zm:Pos:=⟨113,31,113,67⟩
def UN:Str:=(envOfC "way_of" (aB qG) 0 0 .none).qual ++ "<lambda>"
abbrev Dr(H:Hp):Prop:=nN bQ UN Zm H
theorem gk.tups{p:Addr}{qual:Str}{pos:Pos}(t:nN p qual pos H)(s:gk p H H'):oJ H H':=λ b vs h=>s _ _ (t.ne h λ _ z=>nomatch z) h
theorem cU.aaV{p:Addr}{qual:Str}{pos:Pos}(h:cU H kvs L)(t:nN p qual pos H)(s:gk p H H'):cU H' kvs L:=λ x hx=>let ⟨a,vs,h1,h2,h3⟩:=h x hx; ⟨a,vs,h1,s _ _ (t.ne h2 λ _ z=>nomatch z) h2,aK.tups h3 (gk.tups t s)⟩
section
variable {P:Program}{w:World}{K:aA}{mg:Str->Option Value}{base:Heap}
def UO(P:Program)(w:World):Sp:=λ vs H Q _=>∃ (d f:Addr) (ep yE n:Nat) (kvs oB:dM) (L:HM.bf->List HM.bf) (F:List (HM.bf × Int)),vs=[.ref d,.ref f,.int n] /\ H d=some (.ext (cI P w d ep kvs)) /\ bM H kvs /\ cU H kvs L /\ iG (kvs.map (·.1)) L /\
 H f=some (.ext (cI P w f yE oB)) /\ bM H oB /\ fP oB F /\ n <= 4000 /\ Dr H /\ ∀ (b:Addr) (us:List V) (H':Hp),gk bQ H H'->Dr H'->H b=none->H' b=some (.lst us)->aK H' us (gp L (fm F n) n (kvs.map (·.1)))->Q (.ref b) H'
theorem Ds(T:Txt w K mg)(hB:base.BuiltinsAt mg bQ):bY P w K mg base gr 4 T.nO.f T.nO.d ["later", "found", "most"] (UO P w):=by
 refine T.nO.F.okC iY (λ vs H Q E h=>?_) (λ A outer s H vs Q E hr h=>?_)
 ·obtain ⟨d,f,ep,yE,n,kvs,oB,L,F,rfl,_⟩:=h
  rfl
 obtain ⟨d,f,ep,yE,n,kvs,oB,L,F,rfl,hd,hk,hl,hok,hf,My,hF,hn,tab,q⟩:=h
 refine ⟨_,(ai (aN (i:=3) iY.nd rfl (ay rfl) (c7 (zO rfl) rfl T.uH BT.uf (aa (pv 0) af)))
 (ai (aN (i:=4) iY.nd rfl (ay rfl) (bT af))
 (ai (lq bJ (PW.pt (jG (nC (pv 3) (λ _=>rfl)) (ig (aD lu (bz dG rfl T.iC BT.iy (aa (pv 4) af)) (pv 2) (aU _)))))
 (ai (aN (i:=5) iY.nd rfl (ay rfl) (JZ T.nO.cq T.nO.ch hB rfl rfl (qB.caps (x := "other") (fr:=["found", "most"]) (ix:=[1,2]) (nm:=["most", "found"]) rfl (by decide +kernel) rfl rfl rfl rfl ⟨rfl,⟨rfl,trivial⟩⟩ rfl (by decide +kernel) rfl ⟨⟨rfl,rfl,rfl⟩,⟨⟨rfl,rfl,rfl⟩,trivial⟩⟩) (Gn hr) (λ _ _ _=>rfl) (λ _ _ _ _ _=>(zN (P:=P) (w:=w) rfl rfl (hr.in1.deeper _).units (pv 1) (pv 0) (pv 2) ⟨rfl,rfl,rfl,rfl⟩)) rfl T.GH (aa (pv 3) af)))
 (ai (di (iu cQ gw gz dZ (pv 4) (aa (pv 5) af)))
 (aq (aN (i:=3) iY.nd rfl (ay rfl) (gQ hr.units (pv 0) (pv 5) (λ _ _=>rfl)))))))
 (aq (aI (pv 4)))))),?_⟩
 show (_:TS) (Ends.mk _ _ _ _) [_,_,_,_,_,_] H
 walk_at "start"
 walk_at "go"
 refine JN hd ?_
 intro cl H1 n1
 walk_at "go"
 rename_i wa H2 n2
 have s2:=n1.same.trans n2.same
 have UP:H wa=none:=n1.same.free n2.1
 have hne:cl ≠ wa:=λ z=>by have:=n1.self; rw [z,n2.1] at this; cases this
 have ek:(kvs.map λ e=>V.ref e.2.1).length=kvs.length:=au _
 generalize Af:kvs.map (·.1)=ks at *
 have hv1:aK H2 (kvs.map λ e=>V.ref e.2.1) ks:=by
  have go:∀ {l:dM},(∀ x∈l,aM H (.ref x.2.1) x.1)->aK H2 (l.map λ e=>V.ref e.2.1) (l.map (·.1)):=λ {l}=>by
   induction l with
   | nil=>intro _; exact .nil
   | cons x l ih=>intro h; exact .cons (aM.same (h x (by simp)) s2) (ih λ y hy=>h y (cV _ hy))
  rw [<- Af]
  exact go hk
 refine oO (λ m σ' H'=>∃ cl y5 vs cs us dn,σ'=[some (.ref d),some (.ref f),some (.int n),some (.ref cl),some (.ref wa),y5] /\ gk bQ H H' /\ Dr H' /\ H' cl=some (.lst vs) /\ aK H' vs cs /\ (∀ x∈cs,x∈ks) /\ cs.length <= 4000 /\ cl ≠ wa /\ H' wa=some (.lst us) /\ aK H' us dn /\ dn.length <= n /\ dn++gp L (fm F n) (n - dn.length) cs=gp L (fm F n) n ks /\ m=n - dn.length) ?_ ?_
 ·exact ⟨_,cl,_,_,ks,[],[],rfl,s2.S6,tab.same s2,n2.keep n1.self,hv1,λ _ h=>h,hok.2.1,hne,n2.self,.nil,aQ _,rfl,rfl⟩
 clear hv1 hne n1 n2 s2 ek
 rintro m σ' H3 ⟨cl,y5,vs,cs,us,dn,rfl,s3,rf,hcl,hvs,hcs,acY,hne,UQ,jj,hdn,hw,rfl⟩
 have hvl:=hvs.length
 have C2:=jj.length
 walk_at "go"
 have fin:gp L (fm F n) (n - dn.length) cs=[]->V6 [some (.ref d),some (.ref f),some (.int n),some (.ref cl),some (.ref wa),y5] H3:=λ e=>by
  refine qD _ _ ?_
  clear qD
  walk_at "go"
  rw [e,dQ] at hw
  exact q wa us H3 s3 rf UP UQ (by rw [<- hw]; exact jj)
 rcases vs with _ | ⟨v0,vr⟩
 ·refine zd rfl (fin ?_)
  cases hvs
  exact mQ _ _ _
 refine zc rfl ?_
 walk_at "go"
 ·rename_i hlt
  refine JY ?_
  walk_at "go"
  refine OY rf λ c fq ctv H4 s4 hfq hcc K0=>?_
  have t4:=gk.tups rf s4
  have np:∀ {b:Addr} {xs:List V},H3 b=some (.lst xs)->b ≠ bQ:=λ h=>rf.ne h λ _ z=>nomatch z
  have ne:∀ {b:Addr} {φ:Heap->Prop},H b=some (.ext φ)->b ≠ bQ:=λ h=>tab.ne h λ _ z=>nomatch z
  have yD:=s3.trans s4
  have rY:=aK.tups hvs t4
  have UR:=s4 _ _ (np hcl) hcl
  have US:=s4 _ _ (np UQ) UQ
  have Zn:=aK.tups jj t4
  have tw:=yD _ _ (ne hf) hf
  have Wm:=yD _ _ (ne hd) hd
  have Zo:=gk.tups tab yD
  have Zp:=bM.tups My Zo
  have QD:=bM.tups hk Zo
  clear hcl hvs UQ jj s4 s3 rf t4 np qD fin
  have eva:=xK rY
  have Zq:cs ≠ []:=λ z=>by rw [z] at hvl; cases hvl
  obtain ⟨h,eh,hhm,_⟩:=i8 (g:=fm F n) Zq
  obtain ⟨v,hv,KR⟩:=fk rY eh
  refine ⟨cl,(v0 :: vr).map adr,fq,c,ctv,Ag (fm F n) cs,rfl,rfl,bD.of (by rw [<- eva]; exact UR),hfq,hcc,by simp,λ i a ha=>?_,λ a ha=>?_⟩
  ·rw [aY] at ha
   obtain ⟨x,hx,rfl⟩:=dg.mp ha
   obtain ⟨k,hk,hxk⟩:=aW rY hx
   rw [hxk.adr] at hxk
   refine L1 ?_
   walk_at "go"
   refine ⟨f,yE,oB,rfl,tw,?_⟩
   walk_at "go"
   refine ⟨adr x,yE,oB,k,rfl,⟨tw,Zp⟩,hxk,?_,rfl⟩
   rw [xJ hF]
   unfold Ag
   rw [hk]
   rfl
  ·have ea:V.ref a=v:=by
    rw [au,hvl,aY,hv] at ha
    rw [<- Option.some.inj ha]
    exact KR.adr.symm
   subst ea
   walk_at "go"
   rename_i H5 p5
   have t5:=jU US p5
   have ned:d ≠ wa:=λ z=>by rw [z,UP] at hd; cases hd
   have Mk:=hcs h hhm
   have hL:=hok.2.2 h Mk
   obtain ⟨x,Hq,rfl,hxv⟩:=o9 (kvs:=kvs) (k:=h) (by rw [Af]; exact hok.1) (by rw [Af]; exact Mk)
   obtain ⟨b,bs,eb,hb,rL⟩:=hl x Hq
   have nwb:b ≠ wa:=λ z=>by rw [z,UP] at hb; cases hb
   refine kC (p5.keep ned Wm) (bM.tups QD t5) (aM.tups KR t5) (hxv.trans (congrArg some eb)) ?_
   refine Gs _ _ ⟨n - (dn.length + 1),by omega,b,_,bs,L x.1,us++[.ref a],dn++[x.1],rfl,λ c o hc e=>p5.keep (λ z=>by rw [z,UP] at e; cases e) (yD c o hc e),K0.put US p5,p5.keep nwb (yD _ _ (tab.ne hb λ _ z=>nomatch z) hb),aK.tups (aK.tups rL Zo) t5,hL.2,by omega,nwb,p5.self,cA (aK.tups Zn t5) (aM.tups KR t5),by rw [bh,fX]; omega,?_,by rw [bh,fX]⟩
   obtain ⟨m,em⟩:∃ m,n - dn.length=m + 1:=⟨n - dn.length - 1,by omega⟩
   rw [em,i9 eh] at hw
   rw [bh,fX,show n - (dn.length + 1)=m by omega,mT]
   exact hw
 ·rename_i hge
  have e0:n - dn.length=0:=by omega
  rw [e0] at hw
  have e1:gp L (fm F n) 0 cs=[]:=rfl
  rw [e1,dQ] at hw
  exact q wa us H3 s3 rf UP UQ (by rw [<- hw]; exact jj)
def Dt:Sp:=λ vs H Q _=>∃ (c:Addr) (us:List V) (rs:List Row),vs=[.ref c] /\ H c=some (.lst us) /\ Rows H us rs /\ (∀ r∈rs,r.ok rs.length) /\ rs.length <= 200 /\ Dr H /\
 (iG (bq rs rs.length) (dD rs)->(∀ k r t,rs[k]? = some r->t∈bS rs k->iF rs r t (dD rs ((k:Int),t)))->(∀ H',aE H H'->(∀ F,¬ gc (bq rs rs.length) (dD rs) F)->Q .c6 H') /\ ∀ (b:Addr) (us:List V) (F:List (HM.bf × Int)) (H':Hp),gk bQ H H'->Dr H'->H b=none->H' b=some (.lst us)->gc (bq rs rs.length) (dD rs) F->aK H' us (gp (dD rs) (fm F (bq rs rs.length).length) (bq rs rs.length).length (bq rs rs.length))->Q (.ref b) H')
theorem rg(T:Txt w K mg)(hB:base.BuiltinsAt mg bQ):bY P w K mg base gr 7 T.longest.f T.longest.d ["code"] Dt:=by
 refine T.longest.F.ok kX (λ vs H Q E h=>?_) (λ cdv A outer s H vs Q E hr h=>?_)
 ·obtain ⟨c,us,rs,rfl,_⟩:=h
  rfl
 obtain ⟨c,us,rs,rfl,hc,hrs,hok,hn,tab,q⟩:=h
 refine ⟨_,(ai (aN (i:=1) kX.nd rfl (ay rfl) (bw T.mz (qV T) hr (aa (pv 0) af)))
 (ai (aN (i:=2) kX.nd rfl (ay rfl) (bw T.mD (qZ T) hr (aa (pv 1) af)))
 (aq (aI (gP (aD oR (pv 2) kN (aU _)) kN (bw T.nO.toDD (Ds T hB) hr (aa (pv 1) (aa (pv 2) (aa (bz (nK) rfl T.iC BT.iy (aa (pv 1) af)) af))))))))),?_⟩
 show (_:TS) (Ends.mk _ _ _ _) [_,_,_] H
 walk_at "start"
 walk_at "go"
 refine ⟨c,us,rs,rfl,hc,hrs,hok,hn,λ d ep kvs H1 s1 fd hd hk em hla=>?_⟩
 obtain ⟨yF,xF⟩:=xE hok hn em hla
 obtain ⟨q0,q1⟩:=q yF xF
 have DY:kvs.length=(bq rs rs.length).length:=by rw [<- em,au]
 have TN:=xC hla
 walk_at "go"
 refine ⟨d,ep,kvs,dD rs,rfl,hd,hk,TN,by rw [em]; exact yF,λ H2 s2 no=>?_,λ f yE oB F H2 s2 ff hf My hF e=>?_⟩
 ·rw [em] at no
  walk_at "go"
  exact q0 H2 (s1.trans s2) no
 ·rw [em] at e
  have hd2:=s2 _ _ hd
  walk_at "go"
  refine ⟨d,f,ep,yE,kvs.length,kvs,oB,dD rs,F,rfl,hd2,hk.same s2,cU.same TN s2,by rw [em]; exact yF,hf,My,hF,by rw [DY]; exact yF.2.1,tab.same (s1.trans s2),λ b us H3 s3 rf fb hb jj=>?_⟩
  rw [em,DY] at jj
  have s12:=s1.trans s2
  exact q1 b us F H3 (s12.S6.trans s3) rf (s12.free fb) hb e jj
end
def uT(K:aA):Sp:=λ vs H Q E=>TH K vs H Q E /\ H bQ=some (.mR #[])
def Ir:HM.cX->Int
 | none=>0
 | some p=>SN.rk p
theorem uU(q:Int)(t:HM.cX):HM.kY (q,t)=q * 10000 + Ir t:=by cases t <;> rfl
theorem HA(h:z9 t):0 <= Ir t /\ Ir t < 10000:=by
 cases t with
 | none=>exact ⟨Int.le_refl _,by decide⟩
 | some p =>
  obtain ⟨h1,h2,h3⟩:=h
  show 0 <= p.1 * 1000 + p.2 /\ p.1 * 1000 + p.2 < 10000
  omega
def fQ(rs:List Row)(q:Int)(ts:List HM.cX):List HM.bf:=(ts.filter (Im rs q.toNat)).map λ t=>(q,t)
def eZ(rs:List Row)(qs:List Int)(ts:List HM.cX):List HM.bf:=qs.flatMap λ q=>fQ rs q ts
theorem HB(z:HM.bf):z∈eZ rs qs ts ↔ z.1∈qs /\ z.2∈ts /\ cX.lv rs z.1.toNat z.2:=by
 unfold eZ fQ
 rw [jD]
 constructor
 ·rintro ⟨q,hq,hz⟩
  obtain ⟨t,ht,rfl⟩:=aG.mp hz
  obtain ⟨h1,h2⟩:=dS.mp ht
  exact ⟨hq,h1,o8.mp h2⟩
 ·rintro ⟨h1,h2,h3⟩
  exact ⟨z.1,h1,aG.mpr ⟨z.2,dS.mpr ⟨h2,o8.mpr h3⟩,rfl⟩⟩
theorem K1(hq:qs.Pairwise (· < ·))(ht:ts.Pairwise λ t u=>Ir t < Ir u)(hok:∀ t∈ts,z9 t):(eZ rs qs ts).Pairwise λ x y=>HM.kY x < HM.kY y:=by
 unfold eZ
 rw [List.pairwise_flatMap]
 refine ⟨λ q _=>?_,hq.imp λ {a b} hab x hx y hy=>?_⟩
 ·unfold fQ
  rw [gJ]
  refine (ht.filter _).imp λ {t u} h=>?_
  rw [uU,uU]
  omega
 ·unfold fQ at hx hy
  obtain ⟨t,ht1,rfl⟩:=aG.mp hx
  obtain ⟨u,hu1,rfl⟩:=aG.mp hy
  have b1:=HA (hok t (dS.mp ht1).1)
  have b2:=HA (hok u (dS.mp hu1).1)
  rw [uU,uU]
  omega
theorem Du(ns:List Int):(ns.map V.int).all iR=true:=by induction ns with | nil=>rfl | cons n ns ih=>exact ih
theorem xM(x:Int):∀ ns:List Int,nW (.int x) (ns.map V.int)=decide (x∈ns)
 | []=>rfl
 | n :: ns=>by
  rw [bO]
  show ((n == x) || nW (.int x) (ns.map V.int))=_
  rw [xM x ns]
  by_cases e:n=x
  ·simp [e]
  ·have e':¬ x=n:=λ z=>e z.symm
   simp [e,e']
def HC(r:Row)(p:Int × Int):List (Int × Int):=(if r.gv p.1=p.2 then [] else [p])++if 0 <= r.gv p.1 /\ p.2∈r.rd p.1 then [(p.1,r.gv p.1)] else []
theorem iH{q:Int × Int}:q∈HC r p ↔ (q=p /\ r.gv p.1 ≠ p.2) \/ (q=(p.1,r.gv p.1) /\ 0 <= r.gv p.1 /\ p.2∈r.rd p.1):=by
 unfold HC
 rw [aO]
 have e1:q∈(if r.gv p.1=p.2 then [] else [p]) ↔ (q=p /\ r.gv p.1 ≠ p.2):=by
  split
  ·rename_i h; exact ⟨(λ e=>nomatch e),λ e=>absurd h e.2⟩
  ·rename_i h; rw [aC]; exact ⟨λ e=>⟨e,h⟩,λ e=>e.1⟩
 have e2:q∈(if 0 <= r.gv p.1 /\ p.2∈r.rd p.1 then [(p.1,r.gv p.1)] else []) ↔ (q=(p.1,r.gv p.1) /\ 0 <= r.gv p.1 /\ p.2∈r.rd p.1):=by
  split
  ·rename_i h; rw [aC]; exact ⟨λ e=>⟨e,h⟩,λ e=>e.1⟩
  ·rename_i h; exact ⟨(λ e=>nomatch e),λ e=>absurd e.2 h⟩
 rw [e1,e2]
theorem HD(r:Row)(p:Int × Int):(HC r p).Nodup:=by
 unfold HC
 by_cases h1:r.gv p.1=p.2
 ·rw [if_pos h1]; split <;> simp
 ·rw [if_neg h1]
  split
  ·simp
   intro e
   exact h1 (congrArg Prod.snd e).symm
  ·simp
theorem BS(r:Row)(p:Int × Int):(HC r p).length <= 2:=by
 unfold HC
 rw [bh]
 split <;> split <;> simp
section
variable {P:Program}{w:World}{K:aA}{mg:Str->Option Value}{base:Heap}
def Qf:Sp:=λ vs H Q _=>∃ (a:Addr) (x:V) (r:Row) (n:Int) (t:HM.cX),vs=[.ref a,x] /\ H a=some (.tup r.vals) /\ r.ok n /\ b8 H t x /\ z9 t /\
 ∀ (l:Addr) (xs:List V) (ts:List HM.cX) (H':Hp),aE H H'->H l=none->H' l=some (.lst xs)->fV H' xs ts->ts.Pairwise (λ t u=>Ir t < Ir u)->(∀ u,u∈ts ↔ LeftOf r t u)->ts.length <= 2->Q (.ref l) H'
theorem K2(T:Txt w K mg):bY P w K mg base gr 3 T.left.f T.left.d ["_law_row_here", "_law_thing"] Qf:=by
 refine T.left.F.ok lX (λ vs H Q E h=>?_) (λ cdv A outer s H vs Q E hr h=>?_)
 ·obtain ⟨a,x,r,n,t,rfl,_⟩:=h
  rfl
 obtain ⟨a,x,r,n,t,rfl,ha,hok,hx,ht,q⟩:=h
 refine ⟨_,(ai (bZ (aD (nD hr.units) (pv 1) bA (aU _))
 (aq (aI (aL yT (bT (aa bA af)) (c7 nB rfl T.Bs BT.AB (aa (ji fH (aR br (pv 0) ak (λ _ _=>rfl)) (cF (aa bA (aa bA (aa bA af)))) (by with_unfolding_all rfl)) af)))))
 aX)
 (ai (tV (pv 1) (nu rfl (cE (bg (i:=2) lX.nd rfl (ay rfl)) (cE (bg (i:=3) lX.nd rfl (ay rfl)) ir))))
 (ai (bZ (PW.pt (jG (aD fh (aR br (pv 0) ak (λ _ _=>rfl)) (cF (aa bA (aa bA (aa bA af)))) (by with_unfolding_all rfl)) (ig (aD c9 (aR br (pv 0) ak (λ _ _=>rfl)) (pv 3) (aU _)))))
 (aq (aI (bT af)))
 aX)
 (ai (aN (i:=4) lX.nd rfl (ay rfl) (bw T.given (xo T) hr (aa (pv 0) (aa (pv 2) af))))
 (ai (aN (i:=5) lX.nd rfl (ay rfl) (aL yT (bT (aa (pv 1) af)) (c7 nB rfl T.Bs BT.AB (aa (ji An (pv 4) (pv 3) (aU _)) af))))
 (ai (bZ (PW.pt (jG (aD Lm (pv 4) ak (aU _)) (ig (aD fh (pv 3) (bw T.read (BB T) hr (aa (pv 0) (aa (pv 2) af))) (by with_unfolding_all rfl)))))
 (aq (di (iu cQ gw gz dZ (pv 5) (aa (cF (aa (pv 2) (aa (pv 4) af))) af))))
 aX)
 (aq (aI (bz (zH rfl) rfl T.jP BT.jN (aa (pv 5) af)))))))))),?_⟩
 show (_:TS) (Ends.mk _ _ _ _) [_,_,_,_,_,_] H
 walk_at "start"
 walk_at "go"
 refine v9 hx ?_
 cases t with
 | none =>
  show nY _ (.bl true) H
  walk_at "go"
  rename_i l1 H1 n1 t2 H2 n2
  have hl2:=n2.keep n1.self
  have s2:=n1.same.trans n2.same
  clear n1 n2
  cases he:nW (.str r.key) [.str "mark", .str "out", .str "back"]
  ·refine vF (k:=1) hl2 (by decide) (by decide) (by simp) ?_
   intro l H3 n3
   refine q l [.str "mark"] [none] H3 (s2.trans n3.same) (s2.free n3.1) n3.self (.cons rfl .nil) (by simp) (λ u=>?_) (by simp)
   rw [aC]
   exact ⟨λ e=>⟨he,e⟩,λ e=>e.2⟩
  ·refine vF (k:=0) hl2 (by decide) (by decide) (by simp) ?_
   intro l H3 n3
   refine q l [] [] H3 (s2.trans n3.same) (s2.free n3.1) n3.self .nil (by simp) (λ u=>?_) (by simp)
   constructor
   ·intro e; exact nomatch e
   ·rintro ⟨e,_⟩
    rw [show r.ends none=true from he] at e
    cases e
 | some p =>
  show nY _ (.bl false) H
  obtain ⟨b,rfl,hb⟩:=hx
  walk_at "go"
  rename_i t1 H1 n1
  have s1:=n1.same
  clear n1
  have ha1:=s1 _ _ ha
  have hb1:=s1 _ _ hb
  have fin:r.ends (some p)=false->∀ (f:Addr) (vs:List V) (H5:Hp),aE H H5->H5 f=some (.lst vs)->bu H5 vs (HC r p)->zG K [.ref f] H5 Q:=by
   intro he f vs H5 s5 hf hv
   have hpl:=BS r p
   refine JG (bD.of hf) hv (HD r p) (λ x hx=>?_) (by omega) ?_
   ·have hg8:=xg hok p.1
    obtain ⟨h1,h2,h3⟩:=ht
    rcases iH.mp hx with ⟨rfl,_⟩ | ⟨rfl,h4,_⟩
    ·omega
    ·exact ⟨h4,by show r.gv p.1 < 1000; omega⟩
   ·intro l us qs H6 n6 jj pm up
    refine q l us (qs.map some) H6 (s5.trans n6.same) (s5.free n6.1) n6.self ?_ (gJ.mpr up) (λ u=>?_) (by rw [au,pm.length_eq]; exact hpl)
    ·have go:∀ {us:List V} {qs:List (Int × Int)},eX H5 us qs->fV H6 us (qs.map some):=by
      intro us qs h
      induction h with
      | nil=>exact .nil
      | cons h _ ih=>obtain ⟨c,e1,e2⟩:=h; exact .cons ⟨c,e1,n6.keep e2⟩ ih
     exact go jj
    ·rw [aG]
     constructor
     ·rintro ⟨x,hx,rfl⟩
      refine ⟨he,?_⟩
      rcases iH.mp (pm.mem_iff.mp hx) with ⟨rfl,h⟩ | ⟨rfl,h⟩
      ·exact .inl ⟨rfl,h⟩
      ·exact .inr ⟨rfl,h⟩
     ·rintro ⟨_,⟨rfl,h⟩ | ⟨rfl,h⟩⟩
      ·exact ⟨p,pm.mem_iff.mpr (iH.mpr (.inl ⟨rfl,h⟩)),rfl⟩
      ·exact ⟨_,pm.mem_iff.mpr (iH.mpr (.inr ⟨rfl,h⟩)),rfl⟩
  have rest:r.ends (some p)=false->V6 [some (.ref a),some (.ref b),some (.int p.1),some (.int p.2),none,none] H1:=by
   intro he
   replace fin:=fin he
   refine qD _ _ ?_
   clear qD
   walk_at "go"
   refine ⟨a,r,p.1,rfl,ha1,λ H2 s2=>?_⟩
   have ha2:=s2 _ _ ha1
   have hb2:=s2 _ _ hb1
   have s02:=s1.trans s2
   clear s1 s2 ha1 hb1 ha hb q
   walk_at "go"
   rename_i lb H3 n3
   have hlb:=n3.self
   have Wl:=n3.keep ha2
   have Pe:=n3.keep hb2
   have Dg:=s02.trans n3.same
   clear n3 s02 ha2 hb2
   by_cases hg:r.gv p.1=p.2
   case' pos =>
    rw [decide_eq_true hg]
    refine vF (k:=0) hlb (by decide) (by decide) (by simp) ?_
    intro f H4 n4
    have bs:∃ vs,H4 f=some (.lst vs) /\ bu H4 vs (if r.gv p.1=p.2 then [] else [p]) /\ vs.length <= 1:=⟨[],n4.self,by rw [if_pos hg]; exact .nil,by simp⟩
   case' neg =>
    rw [decide_eq_false hg]
    refine vF (k:=1) hlb (by decide) (by decide) (by simp) ?_
    intro f H4 n4
    have bs:∃ vs,H4 f=some (.lst vs) /\ bu H4 vs (if r.gv p.1=p.2 then [] else [p]) /\ vs.length <= 1:=⟨[.ref b],n4.self,by rw [if_neg hg]; exact .cons ⟨b,rfl,n4.keep Pe⟩ .nil,by simp⟩
   all_goals
    have yD:=Dg.trans n4.same
    have ff:H f=none:=Dg.free n4.1
    have ha4:=n4.keep Wl
    clear n4 Dg Wl hlb Pe
    obtain ⟨vs,tw,hvs,hvl⟩:=bs
    walk_at "go"
    ·rename_i h0
     refine ⟨a,r,p.1,rfl,ha4,λ l5 H5 s5 _ hl5=>?_⟩
     have qO:=s5 _ _ tw
     have UT:=bu.same s5 hvs
     have s05:=yD.trans s5
     clear yD s5 tw hvs ha4
     show Rj K false (V.int p.2) (V.ref l5) H5 _
     refine RY (.inl (bD.of hl5)) rfl (Du _) ?_
     rw [xM]
     by_cases hm:p.2∈r.rd p.1
     ·rw [decide_eq_true hm]
      show nY _ (.bl true) H5
      walk_at "go"
      rename_i t6 H6 n6 H7 p7
      have nf:∀ {c:Addr} {xs:List V},H6 c=some (.tup xs)->c ≠ f:=λ e z=>by subst z; rw [n6.keep qO] at e; cases e
      refine fin f _ H7 (p7.same (s05.trans n6.same) ff) p7.self ?_
      unfold HC
      rw [if_pos (show 0 <= r.gv p.1 /\ p.2∈r.rd p.1 from ⟨h0,hm⟩)]
      refine cA (cj (λ _ _ ⟨c,e1,e2⟩=>⟨c,e1,p7.keep (nf (n6.keep e2)) (n6.keep e2)⟩) UT) ⟨t6,rfl,p7.keep (nf n6.self) n6.self⟩
     ·rw [decide_eq_false hm]
      show nY _ (.bl false) H5
      walk_at "go"
      refine fin f vs H5 s05 qO ?_
      unfold HC
      rw [if_neg (show ¬ (0 <= r.gv p.1 /\ p.2∈r.rd p.1) from λ h=>hm h.2),dQ]
      exact UT
    ·rename_i h0
     refine fin f vs H4 yD tw ?_
     unfold HC
     rw [if_neg (show ¬ (0 <= r.gv p.1 /\ p.2∈r.rd p.1) from λ h=>h0 h.1),dQ]
     exact hvs
  clear qD
  cases he:nW (.str r.key) [.str "look", .str "out", .str "back"]
  ·rw [if_neg (by decide),if_neg (by decide)]
   refine qE _ (rest ?_)
   unfold Row.ends
   dsimp only
   rw [he]
   rfl
  ·rw [if_pos rfl]
   walk_at "go"
   refine qd (gm.of ha1) (BE he) ?_
   walk_at "go"
   ·rename_i e l H3 n3
    refine q l [] [] H3 (s1.trans n3.same) (s1.free n3.1) n3.self .nil (by simp) (λ u=>?_) (by simp)
    constructor
    ·intro e; exact nomatch e
    ·rintro ⟨e2,_⟩
     unfold Row.ends at e2
     dsimp only at e2
     rw [he,decide_eq_true e] at e2
     cases e2
   ·rename_i e
    refine rest ?_
    unfold Row.ends
    dsimp only
    rw [he,decide_eq_false e]
    rfl
end
theorem nT(rs:List Row):∀ n,n <= (bq rs n).length /\ (bq rs n).length <= 17 * n
 | 0=>⟨aQ _,by simp [bq]⟩
 | n + 1=>by
  have:=nT rs n
  have h:=gY rs n
  rw [gZ,bh,au]
  have h1:1 <= (bS rs n).length:=by unfold bS; simp
  omega
theorem b8.put(h:b8 H t v)(hf:H f=some (.lst xs))(p:kh H f (.lst ys) H'):b8 H' t v:=by
 cases t with
 | none=>exact h
 | some p2=>obtain ⟨b,e1,e2⟩:=h; exact ⟨b,e1,p.keep (by intro z; subst z; rw [hf] at e2; cases e2) e2⟩
theorem aM.put{k:HM.bf}(h:aM H v k)(hf:H f=some (.lst xs))(p:kh H f (.lst ys) H'):aM H' v k:=by
 obtain ⟨a,u,e,h1,h2⟩:=h
 exact ⟨a,u,e,p.keep (by intro z; subst z; rw [hf] at h1; cases h1) h1,b8.put h2 hf p⟩
theorem HE:∀ l:List (Int × Int),l.length <= 2->l.Nodup->(∀ p∈l,0 <= p.2 /\ p.2 < 1000)->∃ qs:List (Int × Int),qs.Pairwise (λ p q=>SN.rk p < SN.rk q) /\ ∀ q,q∈qs ↔ q∈l
 | [],_,_,_=>⟨[],.nil,λ q=>Iff.rfl⟩
 | [x],_,_,_=>⟨[x],by simp,λ q=>Iff.rfl⟩
 | [x,y],_,nd,hb=>by
  rcases Int.lt_trichotomy (SN.rk x) (SN.rk y) with h | h | h
  ·exact ⟨[x,y],by simp [h],λ q=>Iff.rfl⟩
  ·have:=SN.Fv (hb x (by simp)) (hb y (by simp)) h
   subst this
   simp at nd
  ·exact ⟨[y,x],by simp [h],λ q=>by simp [or_comm]⟩
 | _ :: _ :: _ :: _,h,_,_=>by simp at h
theorem K3{n:Int}(hok:r.ok n)(ht:z9 t):∃ ts:List HM.cX,ts.Pairwise (λ t u=>Ir t < Ir u) /\ ∀ u,u∈ts ↔ LeftOf r t u:=by
 cases t with
 | none =>
  cases he:r.ends none
  ·exact ⟨[none],by simp,λ u=>by rw [aC]; exact ⟨λ e=>⟨he,e⟩,λ e=>e.2⟩⟩
  ·exact ⟨[],.nil,λ u=>⟨(λ e=>nomatch e),λ e=>by rw [e.1] at he; cases he⟩⟩
 | some p =>
  cases he:r.ends (some p)
  ·obtain ⟨qs,h1,h2⟩:=HE (HC r p) (BS r p) (HD r p) λ x hx=>by
    have hg8:=xg hok p.1
    obtain ⟨h1,h2,h3⟩:=ht
    rcases iH.mp hx with ⟨rfl,_⟩ | ⟨rfl,h4,_⟩
    ·omega
    ·exact ⟨h4,by show r.gv p.1 < 1000; omega⟩
   refine ⟨qs.map some,gJ.mpr h1,λ u=>?_⟩
   rw [aG]
   constructor
   ·rintro ⟨x,hx,rfl⟩
    refine ⟨he,?_⟩
    rcases iH.mp ((h2 x).mp hx) with ⟨rfl,h⟩ | ⟨rfl,h⟩
    ·exact .inl ⟨rfl,h⟩
    ·exact .inr ⟨rfl,h⟩
   ·rintro ⟨_,⟨rfl,h⟩ | ⟨rfl,h⟩⟩
    ·exact ⟨p,(h2 _).mpr (iH.mpr (.inl ⟨rfl,h⟩)),rfl⟩
    ·exact ⟨_,(h2 _).mpr (iH.mpr (.inr ⟨rfl,h⟩)),rfl⟩
  ·exact ⟨[],.nil,λ u=>⟨(λ e=>nomatch e),λ e=>by rw [e.1] at he; cases he⟩⟩
theorem Dv{q:Int}(h:qs[i]? = some q):eZ rs (qs.take (i + 1)) ts=eZ rs (qs.take i) ts++fQ rs q ts:=by
 unfold eZ
 rw [bV,h,List.flatMap_append]
 simp
theorem oE{q:Int}(h:ts[i]? = some t):fQ rs q (ts.take (i + 1))=fQ rs q (ts.take i)++if Im rs q.toNat t then [(q,t)] else []:=by
 unfold fQ
 rw [bV,h,gG,bK]
 cases hl:Im rs q.toNat t <;> simp [hl]
theorem rj(rs:List Row)(q:Int)(ts:List HM.cX):(fQ rs q ts).length <= ts.length:=by
 unfold fQ
 rw [au]
 exact gH _ _
theorem xN(rs:List Row)(ts:List HM.cX):∀ qs:List Int,(eZ rs qs ts).length <= qs.length * ts.length
 | []=>by simp [eZ]
 | q :: qs=>by
  have h:=xN rs ts qs
  have h2:=rj rs q ts
  unfold eZ at h ⊢
  rw [mW,bh,dR,Nat.succ_mul]
  omega
section
variable {P:Program}{w:World}{K:aA}{mg:Str->Option Value}{base:Heap}
def K4:Sp:=λ vs H Q _=>∃ (c av:Addr) (us:List V) (rs:List Row) (as:List Addr),vs=[.ref c,.ref av] /\ H c=some (.lst us) /\ us.length=rs.length /\ rs.length <= 200 /\ H av=some (.lst (as.map V.ref)) /\ as.length=rs.length /\ mH H as rs /\
 ∀ (l:Addr) (vs:List V) (H':Hp),aE H H'->H l=none->H' l=some (.lst vs)->aK H' vs (bq rs rs.length)->Q (.ref l) H'
theorem HF(T:Txt w K mg):bY P w K mg base gr 1 T.Br.f T.Br.d ["_law_code_here", "_law_alive"] K4:=by
 refine T.Br.F.ok qK (λ vs H Q E h=>?_) (λ cdv A outer s H vs Q E hr h=>?_)
 ·obtain ⟨c,av,us,rs,as,rfl,_⟩:=h
  rfl
 obtain ⟨c,av,us,rs,as,rfl,hc,C2,hn,Qg,lM,hL,q⟩:=h
 refine ⟨_,(ai (aN (i:=2) qK.nd rfl (ay rfl) (bT af))
 (ai (cM bJ rfl (dF rfl T.eO (aa (bz dG rfl T.iC BT.iy (aa (pv 0) af)) af)) (bg (i:=3) qK.nd rfl (bL rfl))
 (aq (di (iu cQ kZ k6 iS (pv 2) (aa (cT (bN.caps (x := "_law_thing") (fr:=["_law_p"]) (ix:=[3]) (nm:=["_law_p"]) rfl rfl (by decide +kernel) rfl (by decide +kernel) rfl (by decide +kernel) ⟨rfl,trivial⟩ rfl (by decide +kernel) rfl ⟨⟨rfl,rfl,rfl⟩,trivial⟩) (bR (aL Eu (aR cK (pv 1) (pv 3) (λ _ _=>rfl)) (bT (aa bA af)))) (λ _ _ _ _=>dW) (λ _ _ _ _=>(cF (aa (pv 1) (aa (pv 0) af))))) af)))))
 (aq (aI (pv 2))))),?_⟩
 show (_:TS) (Ends.mk _ _ _ _) [_,_,_,_] H
 walk_at "start"
 walk_at "go"
 rename_i f H1 n1
 have ff:=n1.1
 have s1:=n1.same
 have hf1:=n1.self
 clear n1
 refine lF (λ i σ' H'=>(∃ y,σ'=[some (.ref c),some (.ref av),some (.ref f),y]) /\ aE H H' /\ ∃ vs:List V,H' f=some (.lst vs) /\ aK H' vs (bq rs i)) ?_ ?_ ?_
 ·exact ⟨⟨_,rfl⟩,s1,[],hf1,.nil⟩
 ·rintro i σ' H2 hi ⟨⟨y0,rfl⟩,s2,vs,hf2,hvs⟩
  rw [C2] at hi
  obtain ⟨a,ha⟩:∃ a,as[i]? = some a:=⟨_,dJ (by omega)⟩
  obtain ⟨ws,hws,hps⟩:=hL i a ha
  have ac4:=s2 _ _ hws
  have G6:=hps.same s2
  have Zr:=s2 _ _ Qg
  have TN:=qN rs i
  have hwl:=hps.length
  have hvl:=hvs.length
  have Zt:=nT rs i
  walk_at "go"
  refine dz (bD.of Zr) (v:=.ref a) (by rw [Int.zero_add]; exact cJ (by rw [aY,ha]; rfl)) ?_
  walk_at "go"
  rename_i mk H3 n3 tg H4 n4
  have D3:=n3.same.trans n4.same
  have QG:=n4.self
  have hts:fV H4 (ws++[.str "mark"]) (bS rs i):=eY (qU (G6.same D3)) (.cons rfl .nil)
  have tw:=D3 _ _ hf2
  have rY:=aK.same hvs D3
  have yD:=s2.trans D3
  clear n3 n4 D3
  have YM:=gY rs i
  have Zu:=hts.length
  refine f7 (xs:=ws++[.str "mark"]) (λ j ys H'=>aE H4 H' /\ aK H' ys (((bS rs i).take j).map λ t=>((i:Int),t))) ⟨aE.refl _,.nil⟩ ?_ ?_ ?_
  ·rintro j ys H' _ ⟨s',_⟩
   exact bD.of (s' _ _ QG)
  ·rintro j y ys H5 hy ⟨s5,hys⟩
   obtain ⟨t,htj,YK⟩:=aW hts hy
   have hjl:=(fu hy).1
   have hyl:=hys.length
   rw [au,cu] at hyl
   refine ⟨ck (by omega),?_⟩
   walk_at "go"
   rename_i tu H6 n6
   rw [Int.zero_add] at n6
   refine ⟨s5.trans n6.same,?_⟩
   rw [bV,htj,bK]
   exact cA (aK.same hys n6.same) ⟨tu,y,rfl,n6.self,b8.same YK (s5.trans n6.same)⟩
  ·rintro ys H5 ⟨s5,hys⟩ l H6 n6
   rw [Zu,cD] at hys
   have hyl:=hys.length
   rw [au] at hyl
   have Zv:=n6.keep (s5 _ _ tw)
   have PU:=n6.self
   have rX:=s5.trans n6.same
   have C8:=aK.same hys n6.same
   have Dw:=aK.same rY rX
   have Zw:=yD.trans rX
   clear n6 s5 rX tw hys rY yD
   walk_at "go"
   rename_i H7 p7
   have sp:∀ (v:V) (k:HM.bf),aM H6 v k->aM H7 v k:=λ v k x=>aM.put x Zv p7
   refine ⟨⟨_,rfl⟩,p7.same Zw ff,_,p7.self,?_⟩
   rw [gZ]
   exact eY (cj sp Dw) (cj sp C8)
 ·rintro σ' H2 ⟨⟨y0,rfl⟩,s2,vs,hf2,hvs⟩
  rw [C2] at hvs
  walk_at "go"
  exact q f vs H2 s2 ff hf2 hvs
def K5:Sp:=λ vs H Q _=>∃ (i:Int),vs=[.int i] /\ Q (.bl true) H
theorem rm(T:Txt w K mg):bY P w K mg base gr 1 T.whole.f T.whole.d ["_law_found"] K5:=by
 refine T.whole.F.ok GF (λ vs H Q E h=>?_) (λ cdv A outer s H vs Q E hr h=>?_)
 ·obtain ⟨n,rfl,_⟩:=h
  rfl
 obtain ⟨n,rfl,q⟩:=h
 refine ⟨_,(aq (aI (tU (bz gC rfl T.fM BT.fK (aa (pv 0) (aa (lg (v:=.ty "int") rfl T.Bs BT.AB rfl) af))) (yG (MM (bz gC rfl T.fM BT.fK (aa (pv 0) (aa (lg (v:=.ty "bool") rfl T.O3 BT.Ng rfl) af)))))))),?_⟩
 show (_:TS) (Ends.mk _ _ _ _) [_] H
 walk_at "start"
 walk_at "go"
 exact q
def HG:Sp:=λ vs H Q _=>∃ (x:V) (k:HM.bf),vs=[x] /\ aM H x k /\ ∀ H',aE H H'->Q (.bl true) H'
theorem Ah(T:Txt w K mg):bY P w K mg base gr 2 T.o5.f T.o5.d ["_law_found"] HG:=by
 refine T.o5.F.ok zT (λ vs H Q E h=>?_) (λ cdv A outer s H vs Q E hr h=>?_)
 ·obtain ⟨x,k,rfl,_⟩:=h
  rfl
 obtain ⟨x,k,rfl,⟨a,u,rfl,ha,hu⟩,q⟩:=h
 refine ⟨_,(ER (bZ (PW.pt (ko (tT (pW (bz gC rfl T.fM BT.fK (aa (pv 0) (aa (lg (v:=.ty "tuple") rfl T.Bt BT.AD rfl) af))))) (ko (aD An (bz dG rfl T.iC BT.iy (aa (pv 0) af)) ak (aU _)) (jh (tT (pW (bw T.whole (rm T) hr (aa (aR br (pv 0) ak (λ _ _=>rfl)) af))))))))
 (aq (aI kj))
 aX)
 (ai (bZ (aD (nD hr.units) (aR br (pv 0) ak (λ _ _=>rfl)) bA (aU _))
 (aq (aI kj))
 aX)
 (aq (aI (tU (bz gC rfl T.fM BT.fK (aa (aR br (pv 0) ak (λ _ _=>rfl)) (aa (lg (v:=.ty "tuple") rfl T.Bt BT.AD rfl) af))) (tU (ji c9 (bz dG rfl T.iC BT.iy (aa (aR br (pv 0) ak (λ _ _=>rfl)) af)) ak (aU _)) (tU (bw T.whole (rm T) hr (aa (aR br (aR br (pv 0) ak (λ _ _=>rfl)) ak (λ _ _=>rfl)) af)) (yG (bw T.whole (rm T) hr (aa (aR br (aR br (pv 0) ak (λ _ _=>rfl)) ak (λ _ _=>rfl)) af)))))))))),?_⟩
 show (_:TS) (Ends.mk _ _ _ _) [_] H
 walk_at "start"
 walk_at "go"
 ·rename_i e
  exact absurd rfl e
 ·refine ⟨_,rfl,?_⟩
  walk_at "go"
 ·rename_i H1 s1
  have hu1:=b8.same hu s1
  have ha1:=s1 _ _ ha
  refine v9 hu1 ?_
  cases hk:k.2 with
  | none =>
   show nY _ (.bl true) H1
   walk_at "go"
   exact q H1 s1
  | some p =>
   show nY _ (.bl false) H1
   rw [hk] at hu1
   obtain ⟨b,rfl,hb⟩:=hu1
   walk_at "go"
   refine LB (ty:=.type "tuple") (b:=true) (g7.tup hb) rfl ?_
   walk_at "go"
   ·refine ⟨_,rfl,?_⟩
    walk_at "go"
    refine ⟨_,rfl,?_⟩
    walk_at "go"
    exact q H1 s1
   ·rename_i e
    exact absurd rfl e
def Dy:Sp:=λ vs H Q _=>∃ (c av h:Addr) (us:List V) (rs:List Row) (as:List Addr) (k:Nat) (x:V) (r:Row) (t:HM.cX),vs=[.ref c,.ref av,.ref h] /\ H c=some (.lst us) /\ Rows H us rs /\ (∀ r∈rs,r.ok rs.length) /\ H av=some (.lst (as.map V.ref)) /\ as.length=rs.length /\ mH H as rs /\ H h=some (.tup [.int k,x]) /\ b8 H t x /\ z9 t /\ rs[k]? = some r /\
 ∀ (l:Addr) (vs:List V) (ks:List HM.bf) (H':Hp),aE H H'->H l=none->H' l=some (.lst vs)->aK H' vs ks->iF rs r t ks->Q (.ref l) H'
theorem Dz(T:Txt w K mg):bY P w K mg base gr 4 T.behind.f T.behind.d ["_law_code_here", "_law_alive", "_law_harm"] Dy:=by
 refine T.behind.F.ok j5 (λ vs H Q E h=>?_) (λ cdv A outer s H vs Q E hr h=>?_)
 ·obtain ⟨c,av,h,us,rs,as,k,x,r,t,rfl,_⟩:=h
  rfl
 obtain ⟨c,av,h,us,rs,as,k,x,r,t,rfl,hc,hrs,hok,Qg,lM,hL,hh,hx,sF,hrk,q⟩:=h
 refine ⟨_,(ai (aN (i:=3) j5.nd rfl (ay rfl) (bT af))
 (ai (cM bJ rfl (bR (bz (ql rfl) rfl T.jP BT.jN (aa (c7 (sH rfl) rfl T.GI BT.AE (aa (bw T.wR (xj T) hr (aa (aR cK (pv 0) (aR br (pv 2) ak (λ _ _=>rfl)) (λ _ _=>rfl)) af)) af)) af))) (bg (i:=4) j5.nd rfl (ay rfl))
 (aq (cM bJ rfl (bR (bw T.left (K2 T) hr (aa (aR cK (pv 0) (aR br (pv 2) ak (λ _ _=>rfl)) (λ _ _=>rfl)) (aa (aR br (pv 2) ak (λ _ _=>rfl)) af)))) (bg (i:=5) j5.nd rfl (ay rfl))
 (aq (bZ (PW.pt (ko (aD (nD hr.units) (pv 5) bA (aU _)) (jh (aD (uw hr.units) (pv 5) (aR cK (pv 1) (pv 4) (λ _ _=>rfl)) (by with_unfolding_all rfl)))))
 (aq (di (iu cQ gw gz dZ (pv 3) (aa (cF (aa (pv 4) (aa (pv 5) af))) af))))
 aX)))))
 (aq (aI (pv 3))))),?_⟩
 show (_:TS) (Ends.mk _ _ _ _) [_,_,_,_,_,_] H
 obtain ⟨a,hau,ha⟩:=KI hrs hrk
 have uQ:=hok r (fS hrk)
 walk_at "start"
 walk_at "go"
 rename_i f H1 n1
 have ff:=n1.1
 have s1:=n1.same
 have hf1:=n1.self
 clear n1
 refine dz (bD.of (s1 _ _ hc)) hau ?_
 walk_at "go"
 refine ⟨a,r,rfl,s1 _ _ ha,λ wl H2 n2=>?_⟩
 walk_at "go"
 refine Ox (bD.of n2.self) (by have:=Row.iZ r; omega) ?_
 intro st H3 n3
 walk_at "go"
 refine Ju n3.self (λ ms nd hm=>?_) ?_
 ·have:=SN.nE nd (ys:=r.ways) λ n hn=>(hm n).mp hn
  have:=Row.iZ r
  omega
 intro qs so H4 up4 m4 n4
 have Ip:=(n2.same.trans n3.same).trans n4.same
 have yD:=s1.trans Ip
 have tw:=Ip _ _ hf1
 have Zx:=n4.self
 have hne:so ≠ f:=λ z=>by rw [<- z] at hf1; have:=(n2.same.trans n3.same) _ _ hf1; rw [n4.1] at this; cases this
 clear n2 n3 n4 s1 Ip hf1
 walk_at "go"
 have Xs:qs.length <= 2:=by
  have nd:qs.Nodup:=up4.imp λ h e=>by omega
  have:=SN.nE nd (ys:=r.ways) λ n hn=>(m4 n).mp hn
  have:=Row.iZ r
  omega
 have Ui:∀ q∈qs,0 <= q /\ q < rs.length:=λ q hq=>Row.iE uQ q ((m4 q).mp hq)
 obtain ⟨ts,hup,hmem⟩:=K3 uQ sF
 refine f_list (xs:=qs.map V.int) (λ i σ' H'=>(∃ y z,σ'=[some (.ref c),some (.ref av),some (.ref h),some (.ref f),y,z]) /\ aE H H' /\ H' so=some (.lst (qs.map V.int)) /\ ∃ vs:List V,H' f=some (.lst vs) /\ aK H' vs (eZ rs (qs.take i) ts)) ?_ ?_ ?_ ?_
 ·exact ⟨⟨_,_,rfl⟩,yD,Zx,[],tw,.nil⟩
 ·rintro i σ' H' _ ⟨_,_,hs,_⟩
  exact bD.of hs
 ·rintro i x0 σ' H5 hx0 ⟨⟨y0,z0,rfl⟩,s5,UU,vs,qO,hvs⟩
  rw [aY] at hx0
  obtain ⟨q0,Ij,rfl⟩:=dg.mp hx0
  obtain ⟨hq0,hq1⟩:=Ui q0 (fS Ij)
  obtain ⟨j,rfl⟩:∃ j:Nat,q0=(j:Int):=⟨q0.toNat,by omega⟩
  have hil:=(fu Ij).1
  have hc5:=s5 _ _ hc
  have hh5:=s5 _ _ hh
  have ha5:=s5 _ _ ha
  have hx5:=b8.same hx s5
  obtain ⟨al,hal⟩:∃ a,as[j]? = some a:=⟨_,dJ (by omega)⟩
  obtain ⟨us2,Km,G6⟩:=hL j al hal
  walk_at "go"
  refine dz (bD.of hc5) hau ?_
  walk_at "go"
  refine ⟨a,x,r,rs.length,t,rfl,ha5,uQ,hx5,sF,λ lf P0 D4 H6 s6 Zy hlf De up2 Zz ZA=>?_⟩
  have et:D4=ts:=uO Ir up2 hup λ u=>(Zz u).trans (hmem u).symm
  subst et
  have Zw:=s5.trans s6
  have Zv:=s6 _ _ qO
  have ZC:=s6 _ _ UU
  have Dw:=aK.same hvs s6
  have ZD:lf ≠ f:=λ z=>by rw [z,qO] at Zy; cases Zy
  clear hc5 hh5 ha5 hx5 s5 s6 qO UU hvs Zy
  have JS:=De.length
  have hdl:=xN rs D4 (qs.take i)
  rw [cu] at hdl
  have ac8:(eZ rs (qs.take i) D4).length <= 4:=bE hdl (bE (Nat.mul_le_mul (show min i qs.length <= 2 by omega) ZA) (by decide))
  walk_at "go"
  refine f_list (xs:=P0) (λ m σ' H'=>(∃ z,σ'=[some (.ref c),some (.ref av),some (.ref h),some (.ref f),some (.int (j:Int)),z]) /\ aE H H' /\ H' so=some (.lst (qs.map V.int)) /\ H' lf=some (.lst P0) /\ fV H' P0 D4 /\ ∃ vs:List V,H' f=some (.lst vs) /\ aK H' vs (eZ rs (qs.take i) D4++fQ rs (j:Int) (D4.take m))) ?_ ?_ ?_ ?_
  ·exact ⟨⟨_,rfl⟩,Zw,ZC,hlf,De,vs,Zv,by simpa [fQ] using Dw⟩
  ·rintro m σ' H' _ ⟨_,_,_,hl,_⟩
   exact bD.of hl
  ·rintro m y σ' H7 hy ⟨⟨z1,rfl⟩,s7,K6,UW,Qh,UX,CZ,rZ⟩
   obtain ⟨u,hum,ZE⟩:=aW Qh hy
   have hml:=(fu hy).1
   have hvl:=rZ.length
   have ZF:=rj rs (j:Int) (D4.take m)
   rw [cu] at ZF
   rw [bh] at hvl
   have yes:Im rs j u=true->∀ (tu:Addr) (H8 H9:Hp),eE H7 tu (.tup [.int (j:Int),y]) H8->kh H8 f (.lst (UX++[.ref tu])) H9->aE H H9 /\ H9 so=some (.lst (qs.map V.int)) /\ H9 lf=some (.lst P0) /\ fV H9 P0 D4 /\ ∃ vs:List V,H9 f=some (.lst vs) /\ aK H9 vs (eZ rs (qs.take i) D4++fQ rs (j:Int) (D4.take (m + 1))):=by
    intro hl tu H8 H9 n8 p9
    have Kr:=n8.keep CZ
    refine ⟨p9.same (s7.trans n8.same) ff,p9.keep hne (n8.keep K6),p9.keep ZD (n8.keep UW),cj (λ _ _ x=>b8.put (b8.same x n8.same) Kr p9) Qh,_,p9.self,?_⟩
    rw [oE hum,show Im rs (j:Int).toNat u=true from hl,if_pos rfl,<- mT]
    exact cA (cj (λ _ _ x=>aM.put (aM.same x n8.same) Kr p9) rZ) (aM.put ⟨tu,y,rfl,n8.self,b8.same ZE n8.same⟩ Kr p9)
   have no:Im rs j u=false->aK H7 UX (eZ rs (qs.take i) D4++fQ rs (j:Int) (D4.take (m + 1))):=by
    intro hl
    rw [oE hum,show Im rs (j:Int).toNat u=false from hl,if_neg (by decide),dQ]
    exact rZ
   walk_at "go"
   refine v9 ZE ?_
   cases u with
   | none =>
    show nY _ (.bl true) H7
    walk_at "go"
    rename_i tu H8 n8 H9 p9
    exact ⟨⟨_,rfl⟩,yes rfl tu H8 H9 n8 p9⟩
   | some p =>
    show nY _ (.bl false) H7
    obtain ⟨b,rfl,hb⟩:=ZE
    have ZG:=s7 _ _ Qg
    walk_at "go"
    refine dz (bD.of ZG) (v:=.ref al) (cJ (by rw [aY,hal]; rfl)) ?_
    walk_at "go"
    refine vS hb (bD.of (s7 _ _ Km)) (bu.same s7 G6) ?_
    by_cases hm:p∈jS rs j
    ·rw [decide_eq_true hm]
     show nY _ (.bl true) H7
     walk_at "go"
     rename_i tu H8 n8 H9 p9
     exact ⟨⟨_,rfl⟩,yes (decide_eq_true hm) tu H8 H9 n8 p9⟩
    ·rw [decide_eq_false hm]
     show nY _ (.bl false) H7
     walk_at "go"
     exact ⟨⟨_,rfl⟩,s7,K6,UW,Qh,UX,CZ,no (decide_eq_false hm)⟩
  ·rintro σ' H7 ⟨⟨z1,rfl⟩,s7,K6,_,_,UX,CZ,rZ⟩
   rw [JS,cD,<- Dv Ij] at rZ
   exact ⟨⟨_,_,rfl⟩,s7,K6,UX,CZ,rZ⟩
 ·rintro σ' H5 ⟨⟨y0,z0,rfl⟩,s5,_,vs,qO,hvs⟩
  rw [au,cD] at hvs
  walk_at "go"
  refine q f vs _ H5 s5 ff qO hvs ⟨K1 up4 hup λ u hu=>((hmem u).mp hu |>.ok uQ sF).1,λ z=>?_⟩
  rw [HB,m4,hmem]
  rfl
end
theorem tL(K:aA)(ha:H a=some (.lst vs))(h:aK H vs ks):RD K H (.ref a) (.list (ks.map HM.kU)):=.lst (bD.of ha) (aK.rds h)
theorem tM{us:List V}(h:Rows H us rs)(t:oJ H H'):Rows H' us rs:=cj (λ _ _ ⟨a,e,x⟩=>⟨a,e,t _ _ x⟩) h
section
variable {P:Program}{w:World}{K:aA}{mg:Str->Option Value}{base:Heap}
set_option maxHeartbeats 8000000 in
theorem Qi(T:Txt w K mg)(hB:base.BuiltinsAt mg bQ):bY P w K mg base gr 12 T.law.f T.law.d ["_law_script"] (uT K):=by
 refine T.law.F.ok jO (λ vs H Q E h=>?_) (λ cdv A outer s H vs Q E hr h=>?_)
 ·obtain ⟨⟨a,ns,rfl,_⟩,_⟩:=h
  rfl
 obtain ⟨⟨a,ns,rfl,hS,hn,q⟩,htb⟩:=h
 refine ⟨_,(ai (aN (i:=1) jO.nd rfl (ay rfl) (aL eK (bw T.iA (gU T) hr (aa (pv 0) (aa ak af))) ak))
 (ai (aN (i:=2) jO.nd rfl (ay rfl) (bw T.code (J9 T) hr (aa (pv 0) (aa (bw T.many (Ka T) hr (aa (pv 1) af)) (aa (aL cz (pv 1) ak) af)))))
 (ai (aN (i:=3) jO.nd rfl (ay rfl) (bw T.longest (rg T hB) hr (aa (c7 qe rfl T.uH BT.uf (aa (pv 2) af)) af)))
 (ai (aN (i:=4) jO.nd rfl (ay rfl) (bw T.delay (Hy T) hr (aa (pv 2) af)))
 (ai (bZ (aD oR (pv 4) kN (aU _))
 (aq (aI (ji oR (pv 3) kN (aU _))))
 aX)
 (qf (bZ (PW.pt (ko (tT (pW (bz gC rfl T.fM BT.fK (aa (pv 3) (aa (lg (v:=.ty "list") rfl T.uH BT.uf rfl) af))))) (jh (aD An (bz dG rfl T.iC BT.iy (aa (pv 3) af)) (pv 4) (aU _)))))
 (aq (aI kj))
 aX)
 (ai (bZ (tT (pW (bz (Cq rfl) rfl T.Tz BT.Rw (aa (cT (bN.plain rfl (by decide +kernel) (by decide +kernel) rfl (by decide +kernel) rfl) (bR (pv 3)) (λ _ _ _ _=>dW) (λ _ _ _ _=>(bw T.o5 (Ah T) hr (aa (pv 0) af)))) af))))
 (aq (aI kj))
 aX)
 (ai (aN (i:=5) jO.nd rfl (ay rfl) (bw T.mE (xr T) hr (aa (pv 2) af)))
 (ai (bZ (aD (qC hr.units) (aR cK (pv 3) ak (λ _ _=>rfl)) (bw T.Br (HF T) hr (aa (pv 2) (aa (pv 5) af))) (by with_unfolding_all rfl))
 (aq (aI kj))
 aX)
 (ai (cM bJ rfl (B7 rfl T.eO (aa ak (aa (pv 4) af))) (bg (i:=6) jO.nd rfl (ay rfl))
 (aq (bZ (aD (qC hr.units) (aR cK (pv 3) (pv 6) (λ _ _=>rfl)) (bw T.behind (Dz T) hr (aa (pv 2) (aa (pv 5) (aa (aR cK (pv 3) (aL yL (pv 6) ak) (λ _ _=>rfl)) af)))) (by with_unfolding_all rfl))
 (aq (aI kj))
 aX)))
 (ai (aN (i:=7) jO.nd rfl (ay rfl) (c7 qe rfl T.uH BT.uf (aa (pv 3) af)))
 (ai (di (yR cQ PySem.F.slot_list_clear PySem.F.type_list_clear Et (pv 3)))
 (aq (aI (ji (nD hr.units) (bw T.longest (rg T hB) hr (aa (pv 2) af)) (pv 7) (aU _)))))))))))))))),?_⟩
 show (_:TS) (Ends.mk _ _ _ _) [_,_,_,_,_,_,_,_] H
 walk_at "start"
 walk_at "go"
 refine ⟨a,ns,0,rfl,hS,by decide,λ c0=>?_⟩
 walk_at "go"
 refine ⟨_,rfl,λ n h2 h40=>?_⟩
 walk_at "go"
 refine ⟨a,ns,n,_,rfl,hS,hn,by omega,by omega,λ c H1 us rs s1 hc1 rows hlen hok=>?_⟩
 rw [<- hlen] at hok
 have UY:Dr H1:=.inl (s1 _ _ htb)
 have jj:=rows.length
 have hne:rs ≠ []:=λ z=>by rw [z] at hlen; have:n=0:=hlen.symm; omega
 clear s1 htb hS
 walk_at "go"
 rename_i hd H2 n2
 have hc2:=n2.keep hc1
 have BU:=rows.same n2.same
 have K7:=UY.same n2.same
 have hhd:=n2.self
 clear n2 hc1 rows UY
 refine ⟨hd,us,rs,rfl,hhd,BU,hok,by omega,K7,λ yF xF=>⟨λ H3 s3 no=>?_,λ b vs F H3 s3 rf fb hb HH hvs=>?_⟩⟩
 ·have hc3:=s3 _ _ hc2
  have xO:=BU.same s3
  walk_at "go"
  refine ⟨c,us,rs,rfl,hc3,xO,hok,by omega,hne,λ _ _=>⟨λ H4 s4 _=>?_,λ m H4 s4 dl=>?_⟩⟩
  ·walk_at "go"
   exact q _
  ·obtain ⟨F,hF,_⟩:=dl
   exact absurd hF (no F)
 have hcb:c ≠ b:=λ z=>by rw [z,fb] at hc2; cases hc2
 have hc3:=s3 _ _ (K7.ne hc2 λ _ z=>nomatch z) hc2
 have xO:=tM BU (gk.tups K7 s3)
 clear s3 hc2 BU K7 hhd
 walk_at "go"
 refine ⟨c,us,rs,rfl,hc3,xO,hok,by omega,hne,λ _ _=>⟨λ H4 s4 no=>absurd HH (no F),λ m H4 s4 dl=>?_⟩⟩
 have hwl:=KZ (n0:=(bq rs rs.length).length) yF.1 (λ k hk o ho=>(yF.2.2 k hk).2 o ho) HH dl
 generalize ew:gp (dD rs) (fm F (bq rs rs.length).length) (bq rs rs.length).length (bq rs rs.length)=way at *
 have hvl:=hvs.length
 have hc4:=s4 _ _ hc3
 have Mz:=xO.same s4
 have K0:=rf.same s4
 have ZH:=s4 _ _ hb
 have rY:=aK.same hvs s4
 clear s4 hc3 xO rf hb hvs
 walk_at "go"
 have DY:=nT rs rs.length
 have hdl:way.length <= (bq rs rs.length).length:=by
  rw [<- ew]
  exact Hz _ _ _ _
 refine f7 (xs:=vs) (λ i ys H'=>aE H4 H' /\ ys=List.replicate i (V.bl true)) ⟨aE.refl _,rfl⟩ ?_ ?_ ?_
 ·rintro j ys H' _ ⟨s',_⟩
  exact bD.of (s' _ _ ZH)
 ·rintro j y ys H8 hy ⟨s8,rfl⟩
  obtain ⟨z,hz,hyz⟩:=aW rY hy
  have hjl:=(fu hy).1
  refine ⟨ck (by rw [List.length_replicate]; omega),?_⟩
  walk_at "go"
  exact ⟨y,z,rfl,aM.same hyz s8,λ H9 s9=>⟨s8.trans s9,by rw [List.replicate_succ']⟩⟩
 rintro ys H5 ⟨s5,rfl⟩ l H6 n6
 have rX:=s5.trans n6.same
 have PU:=n6.self
 clear s5 n6
 walk_at "go"
 refine Sw (bs:=List.replicate vs.length true) (bD.of (by rw [PU,List.map_replicate])) ?_
 rw [show (List.replicate vs.length true).all id=true by simp]
 have hc6:=rX _ _ hc4
 have HJ:=Mz.same rX
 have UZ:=K0.same rX
 have hb6:=rX _ _ ZH
 have Dw:=aK.same rY rX
 clear rX hc4 Mz K0 ZH rY PU
 walk_at "go"
 refine ⟨c,us,rs,rfl,hc6,HJ,hok,by omega,λ av as H7 s7 _ Qg lM hL=>?_⟩
 have ZI:=s7 _ _ hc6
 have HK:=HJ.same s7
 have U0:=UZ.same s7
 have Uw:=s7 _ _ hb6
 have rZ:=aK.same Dw s7
 clear s7 hc6 HJ UZ hb6 Dw
 have hw0:0 < way.length:=by
  obtain ⟨G,hG,⟨y,hy,ey⟩,_⟩:=dl
  have:=(hG.1.fin y hy).1
  omega
 obtain ⟨v0,hv0,ZJ⟩:=fk rZ (i:=0) (y:=way[0]) (dJ hw0)
 have hch:=tK (L:=dD rs) (g:=fm F (bq rs rs.length).length) (bq rs rs.length).length (bq rs rs.length)
 rw [ew] at hch
 walk_at "go"
 have hin:∀ (i:Nat) (x:HM.bf),way[i]? = some x->x∈bq rs rs.length:=by
  intro i
  induction i with
  | zero=>exact hch.1
  | succ i ih =>
   intro x hx
   have hi:=(fu hx).1
   have hy:way[i]? = some way[i]:=dJ (by omega)
   exact (yF.2.2 _ (ih _ hy)).2 _ (hch.2 i _ _ hy hx)
 refine dz (bD.of Uw) (v:=v0) (cJ hv0) ?_
 walk_at "go"
 refine ⟨c,av,us,rs,as,rfl,ZI,HK.length,by omega,Qg,lM,hL,λ hl vsh H8 s8 _ Zt U1=>?_⟩
 have hh:=ZJ
 obtain ⟨a0,u0,rfl,_,_⟩:=hh
 refine sL (aM.same ZJ s8) (bD.of Zt) U1 ?_
 rw [decide_eq_true (hch.1 _ (dJ hw0))]
 have ZK:=s8 _ _ ZI
 have HL:=HK.same s8
 have U3:=U0.same s8
 have DZ:=s8 _ _ Uw
 have uR:=aK.same rZ s8
 have U4:=s8 _ _ Qg
 have hL8:mH H8 as rs:=λ k a e=>let ⟨vs,h1,h2⟩:=hL k a e; ⟨vs,s8 _ _ h1,h2.same s8⟩
 clear s8 ZI HK U0 Uw rZ Qg hL Zt U1 hv0 ZJ
 walk_at "go"
 refine lF (λ i σ' H'=>(∃ y6,σ'=[some (.ref a),some (.int (c0 / 2)),some (.ref c),some (.ref b),some (.int m),some (.ref av),y6,none]) /\ aE H8 H') ?_ ?_ ?_
 ·exact ⟨⟨_,rfl⟩,aE.refl _⟩
 ·rintro i σ' H9 hi ⟨⟨y6,rfl⟩,s9⟩
  have hi1:i + 1 < way.length:=by omega
  obtain ⟨v,hv,KR⟩:=fk uR (i:=i + 1) (y:=way[i + 1]) (dJ hi1)
  obtain ⟨v2,hv2,ZL⟩:=fk uR (i:=i) (y:=way[i]) (dJ (by omega))
  have hcn:=hch.2 i _ _ (dJ (by omega)) (dJ hi1)
  obtain ⟨k,hk,ek,LN⟩:=i7.mp (hin i _ (dJ (by omega)))
  generalize way[i + 1]=z1 at *
  generalize way[i]=z2 at *
  have Ks:=s9 _ _ DZ
  walk_at "go"
  refine dz (bD.of Ks) (v:=v) (by rw [show (1:Int) + (i:Nat)=((i + 1:Nat):Int) by omega]; exact cJ hv) ?_
  walk_at "go"
  refine dz (bD.of Ks) (v:=v2) (by rw [show (1:Int) + (i:Nat) - 1=((i:Nat):Int) by omega]; exact cJ hv2) ?_
  obtain ⟨ha,x,rfl,hh,hx⟩:=ZL
  have hvv:=KR
  obtain ⟨va,vx,rfl,_,_⟩:=hvv
  rw [ek] at hh
  obtain ⟨r,hrk⟩:∃ r,rs[k]? = some r:=⟨_,dJ hk⟩
  walk_at "go"
  refine ⟨c,av,ha,us,rs,as,k,x,r,z2.2,rfl,s9 _ _ ZK,HL.same s9,hok,s9 _ _ U4,lM,λ k a e=>let ⟨vs,h1,h2⟩:=hL8 k a e; ⟨vs,s9 _ _ h1,h2.same s9⟩,s9 _ _ hh,b8.same hx s9,nS rs k _ LN,hrk,λ du vs6 ks GV oz _ hdu hks hla=>?_⟩
  have Af:ks=dD rs z2:=by
   have:=xF k r z2.2 hrk LN
   rw [<- ek] at this
   exact BP hla this
  subst Af
  refine sL (aM.same KR (s9.trans oz)) (bD.of hdu) hks ?_
  rw [decide_eq_true hcn]
  walk_at "go"
  exact ⟨⟨_,rfl⟩,s9.trans oz⟩
 rintro σ' H9 ⟨⟨y6,rfl⟩,s9⟩
 have hc9:=s9 _ _ ZK
 have MA:=HL.same s9
 have U5:=U3.same s9
 have Ks:=s9 _ _ DZ
 have Hr:=aK.same uR s9
 clear s9 ZK HL U3 DZ uR U4 hL8
 walk_at "go"
 rename_i kp GV G9 QB BF
 have Qj:=G9.keep Ks
 have ZM:=jU Qj BF
 have ZN:=BF.keep hcb (G9.keep hc9)
 have Qk:=tM (MA.same G9.same) ZM
 have HN:=(U5.same G9.same).put Qj BF
 have hkp:=BF.keep (bF (G9.ne Ks)) G9.self
 have sY:=aK.tups (aK.same Hr G9.same) ZM
 clear G9 BF ZM hc9 MA U5 Ks Hr Qj
 refine ⟨c,us,rs,rfl,ZN,Qk,hok,by omega,HN,λ _ _=>⟨λ Px s12 no=>absurd HH (no F),λ b2 vs2 F2 Px s12 aba fb2 hb2 Ql U6=>?_⟩⟩
 rw [xH (g:=fm F (bq rs rs.length).length) (λ k hk o ho=>(yF.2.2 k hk).2 o ho) (λ k hk=>?_) _ _ λ _ h=>h,ew] at U6
 ·have U7:=s12 _ _ (HN.ne hkp λ _ z=>nomatch z) hkp
  have BI:=aK.tups sY (gk.tups HN s12)
  walk_at "go"
  refine N8 (.list (way.map HM.kU)) 3 (by decide) (tL K hb2 U6) (tL K U7 BI) (JH way) ?_
  exact q _
 ·obtain ⟨m1,hm1⟩:=Ql.mem yF.1 hk
  rw [jt Ql.1.nd hm1,jt HH.1.nd (mP Ql.1 HH.1 _ k m1 (az _) hm1)]
end
theorem MB(h:us.length=1):∃ v0,us=[v0]:=match us,h with | [v0],_=>⟨v0,rfl⟩
theorem U8(h:us.length=2):∃ v0 v1,us=[v0,v1]:=match us,h with | [v0,v1],_=>⟨v0,v1,rfl⟩
theorem U9(h:us.length=3):∃ v0 v1 v2,us=[v0,v1,v2]:=match us,h with | [v0,v1,v2],_=>⟨v0,v1,v2,rfl⟩
theorem Va(h:us.length=4):∃ v0 v1 v2 v3,us=[v0,v1,v2,v3]:=match us,h with | [v0,v1,v2,v3],_=>⟨v0,v1,v2,v3,rfl⟩
theorem Vb(h:us.length=5):∃ v0 v1 v2 v3 v4,us=[v0,v1,v2,v3,v4]:=match us,h with | [v0,v1,v2,v3,v4],_=>⟨v0,v1,v2,v3,v4,rfl⟩
def K8{w:World}{h:Heap}{mg:Str->Option Value}(X:K.In h)(G:h.Ns mainGlobals mg){uV:Addr}{Qm:Nat}{pq:Addr}{xP:Tok}{pA:Addr}{xQ:Tok}{pB:Addr}{xS:Tok}{pC:Addr}{xT:Tok}{pF:Addr}{xU:Tok}{pG:Addr}{xV:Tok}{pH:Addr}{xW:Tok}{pI:Addr}{xX:Tok}{HP:Nat}{DA:Option Addr}{DB:Array (Option Value)}{xY:Tok}{xZ:Tok}{ya:Tok}{yc:Tok}{HQ:Nat}{DC:Option Addr}{DE:Array (Option Value)}{yd:Tok}{ye:Tok}{yf:Tok}{yg:Tok}{HR:Nat}{DF:Option Addr}{DG:Array (Option Value)}{yh:Tok}{yi:Tok}{yj:Tok}{yk:Tok}{yl:Tok}{ym:Tok}{HS:Nat}{DI:Option Addr}{DJ:Array (Option Value)}{yo:Tok}{yp:Tok}{HU:Nat}{DK:Option Addr}{DM:Array (Option Value)}{yq:Tok}{yr:Tok}{yt:Tok}{HV:Nat}{DN:Option Addr}{DO:Array (Option Value)}{yv:Tok}{yw:Tok}{HW:Nat}{DP:Option Addr}{DQ:Array (Option Value)}{yx:Tok}{HX:Nat}{DR:Option Addr}{DS:Array (Option Value)}{yy:Tok}(uW:PySem.W.nsIn K mainGlobals "PARTS" = some (some (.ref uV)))(uX:K.lookup uV=some ⟨.type "dict", none,.dict #[{ hash:=PyData.keyHash w.params "num", key:=.str "num" xP,val:=.ref pq },{ hash:=PyData.keyHash w.params "copy", key:=.str "copy" xQ,val:=.ref pA },{ hash:=PyData.keyHash w.params "op", key:=.str "op" xS,val:=.ref pB },{ hash:=PyData.keyHash w.params "out", key:=.str "out" xT,val:=.ref pC },{ hash:=PyData.keyHash w.params "fork", key:=.str "fork" xU,val:=.ref pF },{ hash:=PyData.keyHash w.params "look", key:=.str "look" xV,val:=.ref pG },{ hash:=PyData.keyHash w.params "mark", key:=.str "mark" xW,val:=.ref pH },{ hash:=PyData.keyHash w.params "back", key:=.str "back" xX,val:=.ref pI }] Qm,#[]⟩)(uY:(uV == sysModules)=false)(rq:K.lookup pq=some ⟨.type "tuple", DA,.seq #[.str "side" xY,.str "box" xZ,.str "value" ya,.str "place" yc] HP,DB⟩)(rA:K.lookup pA=some ⟨.type "tuple", DC,.seq #[.str "side" yd,.str "box" ye,.str "box" yf,.str "place" yg] HQ,DE⟩)(rB:K.lookup pB=some ⟨.type "tuple", DF,.seq #[.str "side" yh,.str "sign" yi,.str "box" yj,.str "box" yk,.str "box" yl,.str "place" ym] HR,DG⟩)(rC:K.lookup pC=some ⟨.type "tuple", DI,.seq #[.str "box" yo,.str "place" yp] HS,DJ⟩)(rD:K.lookup pF=some ⟨.type "tuple", DK,.seq #[.str "box" yq,.str "place" yr,.str "place" yt] HU,DM⟩)(rE:K.lookup pG=some ⟨.type "tuple", DN,.seq #[.str "box" yv,.str "place" yw] HV,DO⟩)(rF:K.lookup pH=some ⟨.type "tuple", DP,.seq #[.str "place" yx] HW,DQ⟩)(rG:K.lookup pI=some ⟨.type "tuple", DR,.seq #[.str "box" yy] HX,DS⟩):Bo w K mg:={ oZ:=uV,Bp:=PySem.W.mg_of X G uW,lY:=pq,wH:=gj.mk' rq (.cons ⟨_,rfl⟩ (.cons ⟨_,rfl⟩ (.cons ⟨_,rfl⟩ (.cons ⟨_,rfl⟩ (.nil))))) (by show (4:Nat) <= 1000; decide),lZ:=pA,wI:=gj.mk' rA (.cons ⟨_,rfl⟩ (.cons ⟨_,rfl⟩ (.cons ⟨_,rfl⟩ (.cons ⟨_,rfl⟩ (.nil))))) (by show (4:Nat) <= 1000; decide),l0:=pB,wJ:=gj.mk' rB (.cons ⟨_,rfl⟩ (.cons ⟨_,rfl⟩ (.cons ⟨_,rfl⟩ (.cons ⟨_,rfl⟩ (.cons ⟨_,rfl⟩ (.cons ⟨_,rfl⟩ (.nil))))))) (by show (6:Nat) <= 1000; decide),l6:=pC,wK:=gj.mk' rC (.cons ⟨_,rfl⟩ (.cons ⟨_,rfl⟩ (.nil))) (by show (2:Nat) <= 1000; decide),l7:=pF,wL:=gj.mk' rD (.cons ⟨_,rfl⟩ (.cons ⟨_,rfl⟩ (.cons ⟨_,rfl⟩ (.nil)))) (by show (3:Nat) <= 1000; decide),l8:=pG,wM:=gj.mk' rE (.cons ⟨_,rfl⟩ (.cons ⟨_,rfl⟩ (.nil))) (by show (2:Nat) <= 1000; decide),l9:=pH,wN:=gj.mk' rF (.cons ⟨_,rfl⟩ (.nil)) (by show (1:Nat) <= 1000; decide),mh:=pI,wO:=gj.mk' rG (.cons ⟨_,rfl⟩ (.nil)) (by show (1:Nat) <= 1000; decide),Bq:=vG.mk' (es:=[("num", xP,.ref pq),("copy", xQ,.ref pA),("op", xS,.ref pB),("out", xT,.ref pC),("fork", xU,.ref pF),("look", xV,.ref pG),("mark", xW,.ref pH),("back", xX,.ref pI)]) uX uY (show (["num", "copy", "op", "out", "fork", "look", "mark", "back"]:List Str).Nodup from by decide +kernel) (.cons ⟨rfl,rfl⟩ (.cons ⟨rfl,rfl⟩ (.cons ⟨rfl,rfl⟩ (.cons ⟨rfl,rfl⟩ (.cons ⟨rfl,rfl⟩ (.cons ⟨rfl,rfl⟩ (.cons ⟨rfl,rfl⟩ (.cons ⟨rfl,rfl⟩ (.nil))))))))) }
theorem Qn{l:PySem.W.OpenLaw}{w:World}{mg:Str->Option Value}{fa:Addr}(T:Txt w K mg)(Ph:mg "law" = some (.ref fa)):∃ fd:FuncData,(∀ (s:Shared) (v:Value),BindsTo s fd ⟨[v],[]⟩ [("_law_script", v)]) /\ ∀ base:Heap,K.In base->base.Ns mainGlobals mg->(∀ b∈[bQ],base.BuiltinsAt mg b)->bY l.prog w K mg base gr 12 fa fd ["_law_script"] (uT K):=by
 have e:=Ph.symm.trans T.law.m
 cases e
 exact ⟨T.law.d,T.law.bind1 (λ _ _ _ _ _ _ us hl=>by obtain ⟨v0,rfl⟩:=MB hl; rfl),λ base kb nb hb=>Qi T (hb _ (aC.mpr rfl))⟩
theorem walk{l:PySem.W.OpenLaw}{q:Program}{loose:List Str}{XP:(Str->Option Value)->Heap->Prop}{YP:World->Heap->Prop}{d:DefRec}{K:Params->aA}(hn:l.most=some 63)(hdf:d.params.defaults=[])
  (hY:∀ (w:World) (h:Heap),YP w h->(K w.params).In h)(hT:∀ (w:World) (h:Heap),YP w h->∀ b∈[bQ],h.get? b=some (PySem.W.tabObj #[]))
  (hC:∀ w:World,PySem.W.codeHdIn (K w.params) 141 bQ=true)(XA:∀ w:World,(K w.params).lookup bQ=none)
  (F:∀ (w:World) (mg:Str->Option Value) (fa:Addr) (h:Heap),(K w.params).In h->h.Ns mainGlobals mg->mg d.name=some (.ref fa) ->
   ∃ fd:FuncData,(∀ (s:Shared) (u:Value),BindsTo s fd ⟨[u],[]⟩ [("_law_script", u)]) /\ ∀ base:Heap,(K w.params).In base->base.Ns mainGlobals mg->(∀ b∈[bQ],base.BuiltinsAt mg b)->bY l.prog w (K w.params) mg base gr 12 fa fd ["_law_script"] (uT (K w.params))):
  PySem.W.WalkO q loose XP YP l.row.toRowW d [] (λ f vs=>PySem.call f vs) :=
 L2.CS (n:=63) (k:=12) (x := "_law_script") (ts:=[bQ]) (sp:=uT) hn (by decide) hdf ⟨rfl,by decide,by decide⟩ hY
  (λ w h Y b hb=>⟨hT w h Y b hb,by obtain rfl:=aC.mp hb; exact ((PySem.W.codeHd_of_K (hY w h Y) (hC w)).tab (hT w h Y _ hb)).isCodeTable⟩) (λ w b hb=>by obtain rfl:=aC.mp hb; exact XA w)
  F (λ _ _ a ns hl hS hT=>⟨⟨a,ns,rfl,hS,hl,λ _=>rfl⟩,hT _ (aC.mpr rfl)⟩)
end TG
open PySem PySem.W PyProof.Rows
set_option hygiene false in
local macro_rules | `(tactic| walk_at "bd") => `(tactic| (intro _ _ _ _ _ _ us hl; first | (obtain ⟨v0, rfl⟩ := TG.MB hl; rfl) | (obtain ⟨v0, v1, rfl⟩ := TG.U8 hl; rfl) | (obtain ⟨v0, v1, v2, rfl⟩ := TG.U9 hl; rfl) | (obtain ⟨v0, v1, v2, v3, rfl⟩ := TG.Va hl; rfl) | (obtain ⟨v0, v1, v2, v3, v4, rfl⟩ := TG.Vb hl; rfl)))
set_option hygiene false in
local macro_rules | `(tactic| walk_at "dd") => `(tactic| (refine' L2.L7 KX G ?b ?a ?l ?c ?k; (case b => walk_at "bd"); (case a => k_is); (case l => k_is); (case c => k_is); (case k => k_is)))
set_option hygiene false in
local macro_rules | `(tactic| walk_at "dl") => `(tactic| (refine' L2.S7 KX G ?b ?a ?l ?c ?k ?h; (case b => walk_at "bd"); (case a => k_is); (case l => k_is); (case c => k_is); (case k => k_is); (case h => kernel_rfl)))
set_option hygiene false in
local macro_rules | `(tactic| walk_at "nn") => `(tactic| (refine PySem.W.mg_none_of KX G ?_; k_is))
set_option hygiene false in
local macro_rules | `(tactic| walk_at "ci") => `(tactic| (refine' L2.S8 KX G ?a; (case a => k_is)))
set_option hygiene false in
local macro_rules | `(tactic| walk_at "ct") => `(tactic| (refine' L2.S9 KX G ?a ?l ?r ?z; (case a => k_is); (case l => k_is); (case r => (repeat (first | exact .nil | refine .cons ⟨_, rfl⟩ ?_))); (case z => exact pS rfl)))
namespace PySem.W.Fast
theorem tw17735423918625753098:True:=trivial
theorem tw3843600153818532380:True:=trivial
theorem tw5663594581887449441:True:=trivial
theorem tw15371082703068993519:True:=trivial
theorem tw2644583136465050375:True:=trivial
theorem tw13743670131707647727:True:=trivial
theorem tw8500403760464283575:True:=trivial
theorem tw14802963646978004818:True:=trivial
theorem tw11278638389325472874:True:=trivial
theorem tw13638890523363850117:True:=trivial
theorem tw845681586233908829:True:=trivial
theorem tw2774606873350520465:True:=trivial
theorem tw14840222650246495981:True:=trivial
theorem tw417683709490060779:True:=trivial
theorem tw6112432230983293990:True:=trivial
theorem tw10319881310145891225:True:=trivial
theorem tw2657442224106920047:True:=trivial
theorem tw2584805535190849643:True:=trivial
theorem tw120293099753809329:True:=trivial
theorem tw11116213387155760675:True:=trivial
theorem tw12386147438292476209:True:=trivial
theorem tw14852795052663170173:True:=trivial
theorem tw17646759413975362007:True:=trivial
theorem tw15259312564680262878:True:=trivial
theorem tw16448202587131598265:True:=trivial
theorem tw13708985717452825923:True:=trivial
theorem tw11879378418614538118:True:=trivial
theorem tw15554215783478033019:True:=trivial
theorem tw7641147121317209568:True:=trivial
theorem tw2108237443231116377:True:=trivial
theorem tw2797140371778382354:True:=trivial
theorem tw15462927293414841780:True:=trivial
theorem tw5700469713934149682:True:=trivial
theorem tw9681053074337926380:True:=trivial
theorem tw12520127919044161757:True:=trivial
theorem tw16192388297758280600:True:=trivial
theorem tw15933028603880232608:True:=trivial
theorem tw14171446986200815052:True:=trivial
theorem tw1427130910767183825:True:=trivial
theorem tw13726312906449746222:True:=trivial
theorem tw5922228423906881188:True:=trivial
theorem tw9221364770254934903:True:=trivial
theorem tw10918910516474127768:True:=trivial
theorem tw12237756978513857598:True:=trivial
theorem tw17464207183095720487:True:=trivial
theorem tw13670934719314796108:True:=trivial
theorem tw4271103607384611635:True:=trivial
theorem tw5092347720523932504:True:=trivial
theorem tw7485581276600251848:True:=trivial
theorem tw1416967122211484270:True:=trivial
theorem tw2630001134259488722:True:=trivial
theorem tw11269514553558818451:True:=trivial
theorem tw7906691202987188960:True:=trivial
theorem tw8605985698049222959:True:=trivial
theorem tw13777836573508129502:True:=trivial
theorem tw3848036530546493366:True:=trivial
theorem tw14100389058225277305:True:=trivial
theorem tw17670791908838972593:True:=trivial
theorem tw7329965645599368326:True:=trivial
theorem tw11681327698654034473:True:=trivial
theorem tw10850221248142005495:True:=trivial
theorem tw5779335584593371587:True:=trivial
theorem tw12456163136613417522:True:=trivial
theorem tw9791287302646582194:True:=trivial
theorem tw7457481674115144928:True:=trivial
theorem tw16605299720347017040:True:=trivial
theorem tw13568915156249671225:True:=trivial
theorem tw8191613512341800348:True:=trivial
theorem tw12707154268665804201:True:=trivial
theorem tw8108046858292718737:True:=trivial
theorem tw13875216151151554993:True:=trivial
theorem tw12229622180020207680:True:=trivial
theorem tw8919629913132787455:True:=trivial
theorem tw6754221829454242284:True:=trivial
theorem tw12012141222801958405:True:=trivial
theorem tw14517130995464269480:True:=trivial
theorem tw17418593897699817645:True:=trivial
theorem tw9525311142746051937:True:=trivial
theorem tw13724416806651054368:True:=trivial
end PySem.W.Fast
set_option maxRecDepth 100000 in
set_option maxHeartbeats 0 in
theorem PySem.Challenge.cw_turnguard_k53_a_longest_way_holds : PySem.Challenge.rw_turnguard_k53_a_longest_way.Holds := by
 w_on; o_law; k_head; (case hw=>w_witness2)
 k_fill
 refine TG.walk (l:=PySem.Challenge.rw_turnguard_k53_a_longest_way) rfl rfl (λ w h Y=>PySem.W.km_in_of Y) (λ w h Y=>PySem.W.km_tabs_of Y) (λ w=>by kernel_rfl) (λ w=>by kernel_rfl) ?F
 case F =>
  intro w mg fa h KX G hmg
  refine' TG.Qn (w:=w) ⟨?q0,?q1,?q2,?q3,?q4,?q5,?q6,?q7,?q8,?q9,?q10,?q11,?q12,?q13,?q14,?q15,?q16,?q17,?q18,?q19,?q20,?q21,?q22,?q23,?q24,?q25,?q26,?q27,?q28,?q29,?q30,?q31,?q32,?q33,?q34,?q35,?q36,?q37,?q38,?q39,?q40,?q41,?q42,?q43,?q44,?q45,?q46,?q47,?q48,?q49,?q50,?q51,?q52,?q53,?q54,?q55,?q56,?q57,?q58,?q59,?q60,?q61⟩ hmg
  case q0|q1|q2|q3|q4|q5|q6|q7|q8|q9|q10|q11|q12|q13|q14|q15|q16|q17|q19|q20|q21|q22|q23|q24|q25|q26|q27|q28|q29|q30|q31|q32|q33|q34|q35|q36|q37|q38=>walk_at "dd"
  case q18=>walk_at "dl"
  case q39|q40|q41|q42|q43|q44|q45|q46|q47|q48|q49|q50|q51|q52|q53|q54|q55=>walk_at "nn"
  case q56=>walk_at "ci"
  case q57|q58|q59|q61=>walk_at "ct"
  case q60 =>
   refine' TG.K8 KX G ?uW ?uX ?uY ?rq ?rA ?rB ?rC ?rD ?rE ?rF ?rG
   case uW|uX|rq|rA|rB|rC|rD|rE|rF|rG=>k_is
   case uY=>rfl
end
