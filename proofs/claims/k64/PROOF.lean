import PyProof.Rows.All
import Wide.All
import OpenK.AllK
import Wide.FinOn
import Lean
import PyProof.EqAt
import PyProof.EqKinds
import PyProof.TupleCall
import KE.KRevIter
import KE.KRevSl
import PyProof.AttrMiss
import KE.KDictOf
import PyProof.FactsAll.enumerate
import PyProof.FactsAll.zip
import PyProof.ListRange
import PyProof.FactsAll.list_1
import KE.KDictList
import PyProof.StrOps2
import PyProof.Rows.SetFrom
import PyProof.CollectStr
import PyProof.Rows.SortWalk
import KE.KSortTup
import KE.KDictList
import PyProof.FactsAll.range_2
import PyProof.P3Eq
import KE.KEqDict
import PyProof.Rows.Range3
import PySem.Challenge.RW_turnguard_k64_whole_thinned
set_option Elab.async false
set_option linter.all false
set_option maxRecDepth 100000
def aq:=@PySem.wpAny_bind
def aL:=@PySem.wpAny_pure
def c8:=@PySem.Heap.get?_push_of_some
def iC:=@PySem.Heap.get?_push_size
def fq{α:Type}{l:List α}{i:Nat}{a:α}(h:l[i]?=some a):∃h:i<l.length,l[i]=a:=List.getElem?_eq_some_iff.mp h
def fN{α:Type}{l:List α}{i:Nat}(h:i<l.length):l[i]?=some l[i]:=List.getElem?_eq_getElem h
def fz{α:Type}{l:List α}{i:Nat}{a:α}(h:l[i]?=some a):a∈l:=List.mem_of_getElem? h
def mG{α:Type}{l:List α}{i:Nat}{a:α}:l.getD i a=l[i]?.getD a:=List.getD_eq_getElem?_getD
def jT:¬(false=true):=Bool.false_ne_true
noncomputable section
local macro_rules | `(tactic| walk_at "sc")=>`(tactic| exact⟨rfl, rfl, rfl, by decide +kernel, rfl, by decide +kernel, by decide +kernel⟩)
abbrev aD:=PySem.W.Frag
section
open PySem PySem.Spec PyProof.Rows
def iu:=@Around.under_plainId
def kY:=@Array.forIn_toList
def gu:=@Array.getElem?_eq_getElem
def qh:=@Array.getElem?_eq_none
def mH:=@Array.getElem?_eq_some_iff
def fR:=@Array.getElem?_toList
def cY:=@Array.length_toList
def rF:=@Bool.and_eq_true
def rG:=@Bool.false_and
def bW:=@Bool.false_eq_true
def gn:=@Bool.not_true
def v7:=@Calls.callWith_builtin
def v8:=@Calls.call_function_entry
def rH:=@Classical.byContradiction
def j8:=@F.plain_max_loop
def v9:=@F.slot_dict_keyiterator_next
def wc:=@F.slot_dict_valueiterator_next
def we:=@F.slot_tuple_iterator_next
def rJ:=@Heap.SameBut.refl
def jC:=@Heap.SameBut.update
def fT:=@Heap.get?_update_ne
def j9:=@Heap.get?_update_other
def fB:=@Heap.get?_update_self
def aK:=@Heap.lt_size
def fE:=@Heap.size_push
def gE:=@Int.toNat_natCast
def mU:=@List.Perm.refl
def jD:=@List.any_cons
def mV:=@List.append_assoc
def iZ:=@List.append_nil
def wg:=@List.eraseIdx_cons_succ
def jE:=@List.filter_append
def rK:=@List.filter_cons_of_neg
def rL:=@List.filter_cons_of_pos
def i0:=@List.find?_cons
def rM:=@List.flatMap_cons
def jF:=@List.forIn_cons
def kZ:=@List.forIn_nil
def i6:=@List.getElem?_append_left
def iD:=@List.getElem?_append_right
def rN:=@List.getElem?_cons_succ
def jG:=@List.getElem?_eq_none
def bz:=@List.getElem?_map
def pC:=@List.getElem?_range
def pF:=@List.getElem?_set_ne
def rO:=@List.getElem?_take_of_lt
def k6:=@List.getElem?_toArray
def pG:=@List.getElem?_zip_eq_some
def rP:=@List.getElem_inj
def rQ:=@List.getElem_map
def jH:=@List.getElem_mem
def aR:=@List.length_append
def eB:=@List.length_cons
def rR:=@List.length_drop
def i7:=@List.length_filter_le
def av:=@List.length_map
def mW:=@List.length_nil
def gT:=@List.length_range
def eE:=@List.length_set
def jI:=@List.length_singleton
def cG:=@List.length_take
def bF:=@List.map_append
def cj:=@List.map_cons
def fU:=@List.map_map
def aO:=@List.mem_append
def mX:=@List.mem_append_left
def cA:=@List.mem_append_right
def aI:=@List.mem_cons
def c9:=@List.mem_cons_of_mem
def i8:=@List.mem_cons_self
def dJ:=@List.mem_filter
def mY:=@List.mem_flatMap
def pH:=@List.mem_iff_getElem
def fV:=@List.mem_iff_getElem?
def aF:=@List.mem_map
def k7:=@List.mem_map_of_mem
def rS:=@List.mem_or_eq_of_mem_set
def fW:=@List.mem_range
def aA:=@List.mem_singleton
def gp:=@List.nodup_append
def iE:=@List.nodup_cons
def kg:=@List.nodup_nil
def fX:=@List.not_mem_nil
def pI:=@List.pairwise_cons
def k9:=@List.pairwise_iff_getElem
def wj:=@List.pairwise_lt_range
def lg:=@List.pairwise_map
def mZ:=@List.range_succ
def rT:=@List.replicate_succ
def aV:=@List.size_toArray
def cB:=@List.take_add_one
def cH:=@List.take_length
def rV:=@List.take_subset
def m8:=@Nat.le_add_right
def dY:=@Nat.le_of_ble_eq_true
def jJ:=@Nat.le_of_lt
def az:=@Nat.le_refl
def lq:=@Nat.le_succ
def bJ:=@Nat.le_trans
def fY:=@Nat.lt_irrefl
def bT:=@Nat.lt_of_lt_of_le
def aY:=@Nat.lt_or_ge
def jn:=@Nat.lt_succ_of_lt
def g8:=@Nat.lt_succ_self
def lW:=@Nat.lt_trichotomy
def jo:=@Nat.ne_of_gt
def aQ:=@Nat.ne_of_lt
def gF:=@Nat.not_lt_zero
def aH:=@Nat.zero_le
def bu:=@Ne.symm
def kh:=@Obj.cls_mapFields
def dF:=@Obj.data_mapFields
def iN:=@Obj.isFreed_of_fields
def dg:=@Option.map_eq_some_iff
def lX:=@Option.toList_some
def ao:=@Or.inl
def bQ:=@Or.inr
def g9:=@Paired.length
def dG:=@Paired.mono
def cI:=@Paired.snoc
def bY:=@PassesOwn.never
def ki:=@PyProof.Rows.callWith_type1
def dR:=@PySem.F.plainAttrs_list
def jq:=@PySem.F.slot_list_append
def nF:=@PySem.F.slot_list_extend
def jr:=@PySem.F.type_list_append
def nG:=@PySem.F.type_list_extend
def gc:=@PySem.W.kia_one
def jt:=@PySem.mem_of_lookup
def gf:=@True.intro
end
set_option hygiene false
local macro_rules|`(tactic|sleep 0)=>`(tactic|(
 have Z2:PlainL (s.heap.push { cls:=.type "dict", data:=.dict #[] }) l its:=hx.keeps λb o e=>c8 _ e
 refine⟨dd.typeIs,F.args_dict_init_2 _ _,?_⟩
 unfold Builtin.«dict.__init__»
 refine aq ?_
 unfold Builtin.Dict.selfAndRest
 refine aq (wpAny_notOrdered_dict dd.typeIs ?_)
 refine aL (a:=(s.heap.objs.size,[Value.ref l])) ?_
 show wpAny _ _ (Builtin.Dict.updateFrom "dict.__init__" s.heap.objs.size (.ref l) [] .none) _ _ _
 unfold Builtin.Dict.updateFrom
 obtain⟨⟨cls,dc,da,sl⟩,c,e0,e1,e2,e3⟩:=Z2
 simp only at e1 e2 e3
 subst e1 e2 e3
 refine aq (wpAny_typeOf (T := "list") ⟨_,e0,rfl⟩ ?_)
 rw[if_pos (by decide)]
 refine aq (ZP.C3 e0 hh λh1 t1 k1=>?_)
 show wpAny _ _ (rule _ >>= _) _ _ _
 refine aq (wpAny_rule ?_)
 have hl1:h1.IsList l its:=⟨_,k1 _ _ e0,rfl,c,rfl⟩
 refine aq (wpAny_pyIter_list (s:={ s with heap:=h1,toks:=t1 }) hl1 ?_)
 refine aL ⟨plainId_quiet F.bC _,?_⟩
 have sz:∀b o,s.heap.get? b=some o->b≠s.heap.objs.size:=λb o e=>aQ (aK e)
 have k0:∀b o,s.heap.get? b=some o->h1.get? b=some o:=λb o e=>k1 b o (c8 _ e)
 have k2:∀b o,h1.get? b=some o->(h1.push { cls:=.type "list_iterator", data:=.fields #[.ref l,.int 0 0] }).get? b=some o:=λb o e=>c8 _ e
 have LV:∀b o,h1.get? b=some o->b≠h1.objs.size:=λb o e=>aQ (aK e)))
local macro_rules|`(tactic|sleep 1)=>`(tactic|(
 refine wpAny_newObj_type (wpAny_newFunctionEnv O.cell (by intro y hy;simp at hy) (λh₁ Bh wK=>?_) O.kind)
 dsimp only at Bh wK ⊢
 generalize hG:s2.heap.push { cls:=.type "list", dict:=none,data:=.seq ([]:List Value).toArray }=G at Bh wK ⊢
 have hC:G.objs.size=s2.heap.objs.size+1:=by rw[<- hG,fE]
 have hDC:s2.heap.objs.size≠G.objs.size:=by rw[hC];exact aQ (g8 _)
 have Bj:s2.heap.objs.size<=G.objs.size:=by rw[hC];exact lq _
 have below:∀b,b<s2.heap.objs.size->b≠G.objs.size/\b≠s2.heap.objs.size:=λb hb=>⟨by rw[hC];exact aQ (jn hb),aQ hb⟩
 have old:∀b o,s2.heap.get? b=some o->h₁.get? b=some o:=λb o e=>wK.extBut b o (below b (aK e)).1 (c8 _ (hG▸c8 _ e))
 have hacc:h₁.get? s2.heap.objs.size=some { cls:=.type "list", data:=.seq ([]:List Value).toArray }:=wK.extBut _ _ hDC (c8 _ (hG▸iC _ rfl))
 have UD:H2 s2.heap.objs.size=none:=I2.hok.fresh (az _)
 have UE:H2 G.objs.size=none:=I2.hok.fresh Bj
 have fD:iF X pins H2 s2.heap.objs.size:=I2.nI (az _) UD
 have fC:iF X pins H2 G.objs.size:=I2.nI Bj UE
 have Bk:∀b∈fp,b<s2.heap.objs.size:=λb hb=>by
  obtain⟨o,e,_⟩:=T.obj _ _ st2 b hb
  exact aK e
 have yt:∀b∈frs X.stack,b∈X.env.locals::X.fs:=I2.wo
 have fJ:=O.Td))
local macro_rules|`(tactic|sleep 2)=>`(tactic|(
 rw[hei]
 dsimp only
 refine aq (wpAny_holding (BK hu ha' hk ?_))
 refine aq (wpAny_setState_of ho hd T.fits ?_)
 dsimp only
 by_cases e:k'=k
 .subst e
  rw[decide_eq_true rfl]
  simp only[Bool.and_true,if_true]
  exact aL (hit j i a' _ a1 a2 a3 hei ha')
 .rw[decide_eq_false e]
  simp only[Bool.and_false,bW,if_false]
  have hsm:t.sameMemory t.moves t.mask=some true:=by unfold SetTable.sameMemory;rw[if_pos (by simp)]
  rw[hsm]
  dsimp only
  simp only[if_true]
  rw[a3]
  dsimp only
  rw[hei]
  dsimp only
  refine aq (wpAny_isSame_ref_self (aq (aL ?_)))
  simp only[if_true]
  refine ih (j+1) _ Q (by omega) (by omega) rfl (λj' i' a z h3 h4=>hit j' i' a z (by omega) h4) λhn=>free λj' i' a z h3 h4 h5 h6 h7=>?_
  by_cases hj:j'=j
  .subst hj
   rw[a3] at h5
   cases h5
   rw[hei] at h6
   cases h6
   exact e (ha'.inj h7)
  .rcases aY j' j with hl|hg
   .refine a4b j' i' (by omega) hl h5 ?_
    exact pU hE h6 h7
   .exact hn j' i' a z (by omega) h4 h5 h6 h7))
local macro_rules|`(tactic|sleep 3)=>`(tactic|(
 rw[if_neg (by decide)]
 refine aq ?_
 simp only[<- kY,jF,kZ]
 refine aq (aq (wpAny_holding ?_))
 show wpAny _ _ (Builtin.SmallTypes.nextOf (.ref i1) >>= _) _ _ _
 cases hx:xs[i]? with
 | none=>exact aq (next_end hh (h1.at λo e=>hs₁.extBut _ o D.i1z e) (hl1.at λo e=>hs₁.extBut _ o D.l1z e) hx λh₂ e hs₂ he=>hE h₂ e (λc o c1 _ c3 _ x=>hs₂ _ _ c3 (hs₁.extBut _ _ c1 x)) he)
 | some x =>
  have hy:ys[i]?=none:=by
   rcases hend with h|h
   .rw[hx] at h;cases h
   .exact h
  refine aq (next_item (h1.at λo e=>hs₁.extBut _ o D.i1z e) (hl1.at λo e=>hs₁.extBut _ o D.l1z e) hx λh₂ N4 hs₂=>aL ?_)
  refine aL (aq (aq (wpAny_holding ?_)))
  show wpAny _ _ (Builtin.SmallTypes.nextOf (.ref i2) >>= _) _ _ _
  exact aq (next_end hh (h2.at λo e=>hs₂.extBut _ o D.i12.symm (hs₁.extBut _ o D.i2z e)) (hl2.at λo e=>hs₂.extBut _ o D.l2i1 (hs₁.extBut _ o D.l2z e)) hy λh₃ e pB he=>hE h₃ e (λc o c1 _ c3 c4 x=>pB _ _ c4 (hs₂.extBut _ _ c3 (hs₁.extBut _ _ c1 x))) he)))
local macro_rules|`(tactic|sleep 4)=>`(tactic|(
 have ha:a<s.heap.objs.size:=aK ho
 obtain⟨e1,Ru⟩:∃e1,(s.heap.update a (Obj.mapSeq λ_=>#[])).get? a=some (seqObj "list" #[] e1):=⟨_,get?_update_seq ho (λ_=>#[])⟩
 have kp:∀b o,b≠a->s.heap.get? b=some o->(((s.heap.update a (Obj.mapSeq λ_=>#[])).push (seqObj "tuple" vs.toArray 0)).push (seqObj "list" #[] 0)).get? b=some o:=λb o hba e=>c8 _ (c8 _ ((fT _ _ _ _ hba).trans e))
 have ho6:(((s.heap.update a (Obj.mapSeq λ_=>#[])).push (seqObj "tuple" vs.toArray 0)).push (seqObj "list" #[] 0)).get? a=some (seqObj "list" #[] e1):=c8 _ (c8 _ Ru)
 rw[list_sort_plain]
 refine aq (listItems_at ho rfl (aq (listUpdate_at ho rfl ?_ (by rw[aV,sizeLine_eq];omega) (aH _))))
 refine aq (seqEpoch_at Ru rfl (aq (wpAny_newTuple ?_ (by show vs.length<=_;rw[sizeLine_eq];omega))))
 refine aq (wpAny_newList (wpAny_holding ?_) (aH _))
 show wpAny (model prog w) A _ P E { s with heap:=((s.heap.update a (Obj.mapSeq λ_=>#[])).push (seqObj "tuple" vs.toArray 0)).push (seqObj "list" #[] 0) }))
local macro_rules|`(tactic|sleep 5)=>`(tactic|(
 simp only[bW,if_false]
 show wpAny _ _ (if(Value.ref d==Value.none)=true then _ else _) _ _ s
 rw[if_neg (show ¬(Value.ref d==Value.none)=true from jT)]
 refine aq (aL (aq (wpAny_dictEntries hod qo ?_)))
 rw[if_neg (by simp)]
 refine aq (aL (aq (wpAny_dictEpoch hod qo ?_)))
 rw[if_neg (by simp)]
 refine aL ?_))
local macro_rules|`(tactic|sleep 6)=>`(tactic|(
 walk_at "start"
 walk_at "go"))
local macro_rules|`(tactic|sleep 7)=>`(tactic|(
 unfold pyNext
 refine aq (wpAny_attempt (wpAny_callSpecial?_slot (name:=Str.ofString "__next__") ty gk (wpAny_call_entry gk ty qL ?_ (qM _))))
 unfold Builtin.«set_iterator.__next__»
 refine aq (wpAny_of_eq (a:=(Value.ref it,[])) rfl ?_)
 refine aq (wpAny_fieldsOf xY hf ?_)
 dsimp only))
local macro_rules|`(tactic|sleep 8)=>`(tactic|(
 refine fh (cM.of (n4.keep n3.self)) (cM.of n4.self) (by simp) (by simp) (dY rfl) ?_
 intro p5 H5 n5
 have s5:=(s3.trans n4.same).trans n5.same
 have Nl:=s5 _ _ ha
 have h5:=n5.self
 clear n1 n2 n3 n4 n5 K6 s3
 walk_at "go"
 rename_i p6 H6 n6
 refine fh (cM.of (n6.keep h5)) (cM.of n6.self) (by simp) (by simp) (dY rfl) ?_
 intro p7 H7 n7
 have s7:=(s5.trans n6.same).trans n7.same
 have O7:=s7 _ _ ha))
local macro_rules|`(tactic|sleep 9)=>`(tactic|(
 have hit:s.heap.IsTupleIter it a i:=hit
 obtain⟨o,ho,hc,hd⟩:=id hit
 obtain⟨ol,xX,_,nl,hdl⟩:=id hs
 unfold Builtin.SmallTypes.nextOf
 refine aq (wpAny_callSpecial?_slot (name:=Str.ofString "__next__") hit.typeIs we (wpAny_call_entry we hit.typeIs F.entry_tuple_iterator_next ?_ (F.args_tuple_iterator_next_1 _)))
 show wpAny _ _ (field (.ref it) 0 >>= _) _ _ s
 refine aq (wpAny_field ho hd (x:=.ref a) rfl ?_)
 show wpAny _ _ (if(Value.ref a==Value.none)=true then _ else _) _ _ s
 rw[if_neg (show ¬((Value.ref a==Value.none)=true) from jT)]
 show wpAny _ _ (field (.ref it) 1 >>= _) _ _ s
 refine aq (wpAny_field ho hd (x:=.int i 0) rfl ?_)
 show wpAny _ _ (seqItems? (.ref a) >>= _) _ _ s
 refine aq (wpAny_seqItems xX hdl ?_)
 simp only[gE,hx]))
local macro_rules|`(tactic|sleep 10)=>`(tactic|(
 obtain⟨i,e1,e2,k,kc⟩:=O.fx j y h1
 obtain⟨c,e3⟩:=O.NZ y kc
 have e4:σ[i]?=some (some v):=by
  unfold cut at h2
  rw[bz,e1] at h2
  have h2:some ((σ[i]?).join)=some (some v):=h2
  have h2:=Option.some.inj h2
  cases q:σ[i]? with
  | none=>rw[q] at h2;cases h2
  | some z=>rw[q] at h2;exact congrArg some h2
 obtain⟨m,_,hl⟩:=I2.loc
 obtain⟨u,r,l⟩:=hl i y v e2 e4 (k.elim (λz=>.inr (.inl z)) λz=>.inr (.inr z))
 refine⟨u,r,.inr ⟨kc,c,e3,?_⟩⟩
 rcases l with⟨l1,_⟩|⟨_,c',l2,l3⟩
 .rcases k with k|k<;>(rw[k] at l1;cases l1)
 .have e5:=fJ y c e3
  rw[l2] at e5;cases e5
  obtain⟨o,ho,hd⟩:=l3
  exact⟨o,old _ _ ho,hd⟩))
local macro_rules|`(tactic|sleep 11)=>`(tactic|(
 rw[if_neg (by decide)]
 refine aq ?_
 simp only[<- kY,jF,kZ]
 refine aq (aq (wpAny_holding ?_))
 show wpAny _ _ (Builtin.SmallTypes.nextOf (.ref i1) >>= _) _ _ _
 refine aq (next_item (h1.at λo e=>hs₁.extBut _ o D.i1z e) (hl1.at λo e=>hs₁.extBut _ o D.l1z e) hx λh₂ N4 hs₂=>aL ?_)
 refine aL (aq (aq (wpAny_holding ?_)))
 show wpAny _ _ (Builtin.SmallTypes.nextOf (.ref i2) >>= _) _ _ _
 refine aq (next_item (h2.at λo e=>hs₂.extBut _ o D.i12.symm (hs₁.extBut _ o D.i2z e)) (hl2.at λo e=>hs₂.extBut _ o D.l2i1 (hs₁.extBut _ o D.l2z e)) hy λh₃ ZT pB=>aL ?_)
 refine aL (aL ?_)
 refine aq (wpAny_newTuple (aL ⟨_,rfl,?_⟩) (hsz:=by show 2<=sizeLine;decide))
 exact fin h₁ yx hs₁ h₂ h₃ N4 hs₂ ZT pB))
local macro_rules|`(tactic|sleep 12)=>`(tactic|(
 obtain⟨hTI,⟨a,b,hTO⟩,h1,h2⟩:=st
 show wpAny _ _ (field (.ref z) 2 >>= _) _ _ _
 refine aq (wpAny_field hz rfl (x:=.bool false) rfl ?_)
 show wpAny _ _ (field (.ref z) 3 >>= _) _ _ _
 refine aq (wpAny_field hz rfl (x:=.ref TI) rfl ?_)
 refine aq (wpAny_seqItems hTI rfl ?_)
 show wpAny _ _ (Builtin.SmallTypes.ownedTupleIsFree (.ref z) >>= _) _ _ _))
local macro_rules|`(tactic|sleep 13)=>`(tactic|(
 show wpAny _ _ (setField (.ref it) 0 .none >>= _) _ _ s
 refine aq (wpAny_setField ho hf (by simp) (show wpAny _ _ (newExc (.type "StopIteration") [] >>= _) _ _ _ from aq ?_))
 simp only[newExc,newTuple]
 refine aq (wpAny_newObj_type ?_ (by size_fits))
 refine aq (m:=firstArgMember _ _) (wpAny_of_eq (a:=Value.none) (by first|rfl|(simp only[firstArgMember];rfl)) (wpAny_newObj_type ?_ (by size_fits)))
 simp only[raiseNew]
 refine aq (wpAny_handled ?_)
 rw[show A.in1.handled=none from hh]
 refine aq (aL (wpAny_throw (aq ?_)))
 refine wpAny_isInstance (T := "StopIteration") (b:=true) ⟨_,iC _ rfl,rfl⟩ isSubtype_stop ?_
 exact aL (hQ _ (((jC ..).extBut.push _).push _))))
local macro_rules|`(tactic|sleep 14)=>`(tactic|(
 refine⟨λi m ys H=>m=xs.length-i/\i<=xs.length/\Pv i ys H,⟨xs.length,by simp,aH _,h0⟩,?_⟩
 rintro i m ys H ⟨rfl,hi,p⟩
 have q:=hl i ys H hi p
 by_cases hlt:i<xs.length
 .have hx:xs[i]?=some xs[i]:=by simp[hlt]
  obtain⟨hz,q'⟩:=hs i _ ys H hx p
  refine .inr ⟨⟨xs,xs[i],q,hx⟩,hz,Pv (i+1),λσ' H' p'=>⟨xs.length-(i+1),by omega,rfl,hlt,p'⟩,λx H' y=>?_⟩
  obtain⟨e,y⟩:=y
  subst e
  have e2:x=xs[i]:=Option.some.inj ((y xs q).symm.trans hx)
  subst e2
  exact q'
 .have e:i=xs.length:=by omega
  subst e
  exact .inl ⟨⟨xs,q,az _⟩,λr hr=>hd ys H p r _ ⟨hr,rfl⟩⟩))
local macro_rules|`(tactic|sleep 15)=>`(tactic|(
 refine aq (next_item (h1.at λo e=>hs₁.extBut _ o D.i1z e) (hl1.at λo e=>hs₁.extBut _ o D.l1z e) hx λh₂ N4 hs₂=>aL ?_)))
local macro_rules|`(tactic|sleep 16)=>`(tactic|(
 intro X hP hw hK hc i pins s σ H E I hf st hg
 subst hP hw hK))
local macro_rules|`(tactic|sleep 17)=>`(tactic|(
 refine⟨I2.ok.mod,O.kind,I2.ok.glob,I2.ok.blt,Bj,λy z c h1 h2=>I2.ok.inj y z c (fJ y c h1) (fJ z c h2),λy hy=>O.NZ y hy,λy c h _=>absurd h jT,λh=>I2.ok.hd h,I2.ok.frames,.inl rfl,λb hb=>?_,I2.bs,bJ I2.ok.KR I2.sz,λb o e hb=>?_,λb hb hs=>?_,I2.stack,I2.wu⟩
 .exact⟨(below b (Bk b hb)).1,λy c e=>(f2 b hb).2.2.2.2.1 y c (fJ y c e)⟩
 .rcases(f2 b hb).2.2.2.1 with z|z
  .exact I2.ok.Ez b o e z
  .exact absurd (bT (aK (I2.ok.bs b o e).1) z) (fY _)
 .rcases aI.mp (yt b hs) with z|z
  .exact(f2 b hb).2.1 z
  .exact(f2 b hb).2.2.1 z))
local macro_rules|`(tactic|sleep 18)=>`(tactic|(
 have ty:=hit.typeIs
 obtain⟨o,ho,hc,hf⟩:=hit
 obtain⟨od,hod,_,qo⟩:=x
 unfold pyNext
 refine aq (wpAny_attempt (wpAny_callSpecial?_slot (name:=Str.ofString "__next__") ty wc (wpAny_call_entry wc ty F.entry_dict_valueiterator_next ?_ (F.args_dict_valueiterator_next_1 _))))
 refine aq (aL (aq (aq ?_)))
 first|refine aq (wpAny_typeNameOfWhole_valiter ty (aL (aq (wpAny_fieldsOf ho hf ?_))))|refine aq (wpAny_typeNameOf_valiter ty (aL (aq (wpAny_fieldsOf ho hf ?_))))
 rw[show Builtin.Dict_items.ownsTuple "dict_valueiterator" = false by decide]))
local macro_rules|`(tactic|sleep 19)=>`(tactic|(
 have ty:=hit.typeIs
 obtain⟨o,ho,hc,hf⟩:=hit
 obtain⟨od,hod,_,qo⟩:=x
 unfold pyNext
 refine aq (wpAny_attempt (wpAny_callSpecial?_slot (name:=Str.ofString "__next__") ty v9 (wpAny_call_entry v9 ty F.entry_dict_keyiterator_next ?_ (F.args_dict_keyiterator_next_1 _))))
 refine aq (aL (aq (aq ?_)))
 first|refine aq (wpAny_typeNameOfWhole_keyiter ty (aL (aq (wpAny_fieldsOf ho hf ?_))))|refine aq (wpAny_typeNameOf_keyiter ty (aL (aq (wpAny_fieldsOf ho hf ?_))))
 rw[show Builtin.Dict_items.ownsTuple "dict_keyiterator" = false by decide]))
local macro_rules|`(tactic|sleep 20)=>`(tactic|(
 refine callType_codes (Q₁:=λx s1=>x=.ref s.heap.objs.size/\s1={ s with heap:=s.heap.push { cls:=.type "dict", data:=.dict #[] } }) F.kt_called_dict (F.kt_typeCall_dict_1 _) F.entry_dict_init (kt_code_dict_new _ ⟨rfl,rfl⟩) ?_
 rintro _ _ ⟨rfl,rfl⟩))
local macro_rules|`(tactic|sleep 21)=>`(tactic|(
 simp only[newExc,newTuple]
 refine aq (wpAny_newObj_type (aq (m:=firstArgMember _ _) (wpAny_of_eq (a:=Value.none) (by first|rfl|(simp only[firstArgMember];rfl)) (wpAny_newObj_type ?_ (by size_fits)))) (by size_fits))
 simp only[raiseNew]
 refine aq (wpAny_handled ?_)
 rw[show A.in1.handled=none from hh]
 refine aq (aL (wpAny_throw ?go))
 refine aq (wpAny_isInstance (T := "StopIteration") (b:=true) (⟨_,iC _ rfl,rfl⟩) isSubtype_stop ?_)
 refine aL (hQ _ λb x hb e=>?_)))
local macro_rules|`(tactic|sleep 22)=>`(tactic|(
 have Xe:=s12 _ _ h7
 clear n8 n9 DZ gO tL qD
 walk_at "go"
 rename_i l Gz nD
 have xB:=(s7.trans s12).trans nD.same
 exact q l _ Gz xB ((s7.trans s12).free nD.1) nD.self (.cons ⟨p7,rfl,nD.keep Xe⟩ (.cons ⟨qy,rfl,nD.keep h12⟩ .nil))))
local macro_rules|`(tactic|sleep 23)=>`(tactic|(
 obtain⟨m,hm⟩:=hm
 show wpAny _ X.A (assign (.Name y py) X.env (.ref L)) _ _ _
 refine wpAny_assign_Name (pK I' hN Zr hy (v:=.ref L) rfl (λs'' Zt KZ=>?_) hf)
 obtain⟨a,KZ,ha⟩:=KZ
 have Zu:C≠a:=by
  rcases ha with z|z
  .rw[z];exact fC.2.1
  .exact bu (fC.2.2.2.2.1 _ _ z)
 refine⟨m,hm.sameBut KZ Zu,λh' hs'=>?_⟩
 exact⟨_,_,Zt.turned (t':=s''.toks) (it:=C) (λb o hb e=>hs'.extBut b o hb e) fC.1 fC.2.1 fC.2.2.2.1 fC.2.2.2.2.1 fC.2.2.2.2.2,z L hD⟩))
local macro_rules|`(tactic|sleep 24)=>`(tactic|(
 refine⟨λi m σ H=>m=xs.length-i/\i<=xs.length/\Pv i σ H,⟨xs.length,by simp,aH _,h0⟩,?_⟩
 rintro i m σ H ⟨rfl,hi,p⟩
 have q:=hl i σ H hi p
 by_cases hlt:i<xs.length
 .refine .inr ⟨⟨xs,xs[i],q,by simp[hlt]⟩,Pv (i+1),λσ' H' p'=>⟨xs.length-(i+1),by omega,rfl,hlt,p'⟩,λx H' y=>?_⟩
  obtain⟨e,y⟩:=y
  subst e
  exact hs i x σ _ (y xs q) p
 .have e:i=xs.length:=by omega
  subst e
  exact .inl ⟨⟨xs,q,az _⟩,hd σ H p⟩))
local macro_rules|`(tactic|sleep 25)=>`(tactic|(
 show wpAny _ _ (newExc (.type "StopIteration") [] >>= _) _ _ _
 refine aq ?_
 simp only[newExc,newTuple]
 refine aq (wpAny_newObj_type ?_ (by size_fits))
 refine aq (m:=firstArgMember _ _) (wpAny_of_eq (a:=Value.none) (by first|rfl|(simp only[firstArgMember];rfl)) ?_)
 refine wpAny_newObj_type ?_ (by size_fits)
 simp only[raiseNew]
 refine aq (wpAny_handled ?_)
 first|rw[show A.in1.handled=none from hh]|rw[hh]
 refine aq (aL (wpAny_throw ?_))))
local macro_rules|`(tactic|sleep 26)=>`(tactic|(
 refine codeAny_builtin F.entry_max_loop ?_
 rw[iu j8 _]
 refine(show wpAny _ A.in1 (seqItems? (.ref S) >>= _) _ _ s from aq (wpAny_seqItems hS rfl ?_))))
local macro_rules|`(tactic|sleep 27)=>`(tactic|(
 walk_at "go"
 rename_i p2 H2 n2
 refine fh (cM.of (n2.keep n1.self)) (cM.of n2.self) (by simp) (by simp) (dY rfl) ?_
 intro p3 H3 n3
 have s3:=(n1.same.trans n2.same).trans n3.same
 have K6:=s3 _ _ ha
 walk_at "go"))
local macro_rules|`(tactic|sleep 28)=>`(tactic|(
 walk_at "go"
 rename_i p9 H9 n9
 refine fh (cM.of (n9.keep n8.self)) (cM.of n9.self) (by simp) (by simp) (dY rfl) ?_
 intro Cr zW DZ
 have iJ:=(n8.same.trans n9.same).trans DZ.same
 have qD:=iJ _ _ O7
 walk_at "go"))
local macro_rules|`(tactic|sleep 29)=>`(tactic|(
 walk_at "go"
 rename_i t2 H2 n2
 have ha2:=n2.keep ha'
 have b3:∃g:Int,nE [V.int 1,V.int 8,V.int 64] (0+((i:Nat):Int))=some (.int g)/\0<g/\g<=64:=by
  rcases i with _|_|_|i
  .exact⟨1,rfl,by decide,by decide⟩
  .exact⟨8,rfl,by decide,by decide⟩
  .exact⟨64,rfl,by decide,by decide⟩
  .omega
 obtain⟨g,hg,g0,g1⟩:=b3
 refine sD (cM.of n2.self) hg ?_
 walk_at "go"
 rw[ya]))
local macro_rules|`(tactic|sleep 30)=>`(tactic|(
 intro pins s σ H x y v u Q I rx ry h))
local macro_rules|`(tactic|sleep 31)=>`(tactic|(
 intro pins s σ H Q I h))
local macro_rules|`(tactic|sleep 32)=>`(tactic|(
 obtain⟨hr,I4⟩:=h4
 subst hr
 have pD:=I4.pin _ (cA _ (aA.mpr rfl))
 have IX:Inv X pins σ H3 s4:=I2.NF I4.os I4.base I4.hok I4.bare λb hb=>⟨(f2 b hb).2.2.2.1,(f2 b hb).2.1,(f2 b hb).2.2.2.2.1,(f2 b hb).2.2.2.2.2⟩
 obtain⟨mC,Zp,_⟩:=I4.loc
 exact hRR _ _ s4 ys H3 (IX.uZ ⟨pD.2.1,fD.2⟩ ⟨hl3,its,c,rv,pD.1⟩) ⟨mC,Zp⟩ ⟨by rw[ck (bu hDC)];exact I4.free,fC.2⟩ pD.2.1 zz))
local macro_rules|`(tactic|sleep 33)=>`(tactic|(
 rw[hes z]
 constructor
 .rintro⟨k,r,h1,h2,h3,h4⟩
  obtain⟨k',r',_,e1,e2,e3⟩:=(JG z).mp h2
  have e:k'=k:=by omega
  subst e
  rw[h3] at e2
  cases e2
  exact⟨k',ky,r,h1,Tj,h3,e3,h4⟩
 .rintro⟨k,j,r,h1,h2,h3,h4,h5⟩
  have e:j=ky:=by omega
  subst e
  exact⟨k,r,h1,(JG z).mpr ⟨k,r,(fq h3).1,h1,h3,h4⟩,h3,h5⟩))
local macro_rules|`(tactic|sleep 34)=>`(tactic|(
 intro i h t rs c hk hi kp hit dd rel
 have e:i=n:=by omega
 subst e
 refine codeAny_builtin F.dQ ?_
 rw[iu F.bC _]
 show wpAny _ A.in1 (pyNext (.ref it) >>= _) _ _ _
 refine aq (wpAny_pyNext_list_end (s:={ s0 with heap:=h,toks:=t }) hh hit (lst h kp) (qh (by omega)) λh' k'=>?_)
 show wpAny _ A.in1 (Builtin.Dict.addKeywords d [] >>= _) _ _ _
 refine aq (aL (aL ?_))))
local macro_rules|`(tactic|sleep 35)=>`(tactic|(
 have VC:({ s0 with heap:=h1,toks:=t }:Shared).TypeIs (.ref T) "tuple" := ⟨_,ht,Z0⟩
 show wpAny _ A.in1 (holding [Value.ref T] _ >>= _) _ _ _
 refine aq (wpAny_holding ?_)
 refine aq (wpAny_tryCatch ?_)
 unfold Builtin.Dict.pairItems
 refine aq (wpAny_typeOf VC ?_)
 show wpAny _ _ (seqItems? (.ref T) >>= _) _ _ _
 refine aq (wpAny_seqItems ht Z1 (aL ?_))))
local macro_rules|`(tactic|sleep 36)=>`(tactic|(
 refine codeAny_builtin F.dQ ?_
 rw[iu F.bC _]
 show wpAny _ A.in1 (pyNext (.ref it) >>= _) _ _ _
 refine aq (wpAny_pyNext_list_item (s:={ s0 with heap:=h,toks:=t }) hit (lst h kp) hx λh1 Rg Og=>?_)
 have k1:∀b o,b≠it->h.get? b=some o->h1.get? b=some o:=λb o b1 q=>Og.extBut b o b1 q
 have ht:h1.get? T=some o:=k1 T o n1 (kp T o n1 n2 hT)))
local macro_rules|`(tactic|sleep 37)=>`(tactic|(
 unfold pyNext
 refine aq (wpAny_attempt (wpAny_callSpecial?_slot (name:=Str.ofString "__next__") hit.typeIs slot_next
  (wpAny_call_entry slot_next hit.typeIs entry_next ?_ (args_next _))))
 unfold Builtin.«reversed.__next__»
 refine aq (wpAny_of_eq (a:=(Value.ref it,[])) rfl ?_)
 try dsimp only
 refine aq (wpAny_field ho hd (x:=.ref t) rfl ?_)))
local macro_rules|`(tactic|sleep 38)=>`(tactic|(
 intro pins s σ H xs us Q I r h))
local macro_rules|`(tactic|sleep 39)=>`(tactic|(
 have uh:∀out,((((s.heap.update a (Obj.mapSeq λ_=>#[])).push (seqObj "tuple" vs.toArray 0)).push (seqObj "list" #[] 0))).update a (Obj.mapSeq λ_=>out)=sortedHeap s.heap a vs out:=λ_=>rfl
 generalize (((s.heap.update a (Obj.mapSeq λ_=>#[])).push (seqObj "tuple" vs.toArray 0)).push (seqObj "list" #[] 0))=G at *
 dsimp only))
local macro_rules|`(tactic|sleep 40)=>`(tactic|(
 refine aq (wpAny_mono (wpAny_comprehension_free (use:=some (assign (.Name y py) X.env)) (Q:=λ_ s'=>SP X pins D .next s') rfl hs O.clos O.kind O.names
  (cT (hi pins s σ H _ I h) λv s1 h1=>cT h1 λitv s2 h2=>?_)) (λ_ s' hq=>aL (aL hq)) λ_ _ e=>e)
 obtain⟨it,fp,tn,J,H2,e,I2,T,st2,f2,W,⟨m0,w0⟩,turn⟩:=h2
 subst e))
local macro_rules|`(tactic|sleep 41)=>`(tactic|(
 have mem:∀{k:NameKind},(relabel scope X.env).names.lookup y=some k->∃z∈scope.names,(if(z.2==.free&&X.env.scope.kind==.function&&X.env.kindOf z.1==some .cell) then(z.1,NameKind.cell) else(z.1,z.2))=(y,k):=λ{k} e=>by
  have q:=jt e
  obtain⟨z,hz,e⟩:=aF.mp q
  exact⟨z,hz,e⟩))
local macro_rules|`(tactic|sleep 42)=>`(tactic|(
 rw[if_pos rfl] at q7 ⊢
 refine wpAny_mono (he _ _ _ _ _ s7 _ H7 _ I7 q7) (λuy s8 h8=>?_) λ_ _ f=>False.elim f
 obtain⟨y,H8,I8,r8,n8⟩:=h8
 have pD:=I8.pin _ (cA _ (mX _ (aA.mpr rfl)))
 have rl:=rv.length
 refine append_at (hsz:=by rw[aV];omega) pD.1 λh9 UI Zq=>?_))
local macro_rules|`(tactic|sleep 43)=>`(tactic|(
 induction r with
 | nil=>exact .nil
 | @cons p q ps qs h t ih =>
  rw[cj,cj]
  refine .cons ?_ ih
  obtain⟨h1,h2,h3⟩:=h
  unfold putAt
  by_cases e:p.1=k
  .rw[if_pos e,if_pos (h1.symm.trans e)];exact⟨h1,h2,ry⟩
  .rw[if_neg e,if_neg (λz=>e (h1.trans z))];exact⟨h1,h2,h3⟩))
local macro_rules|`(tactic|sleep 44)=>`(tactic|(
 rintro⟨⟨⟩,st'⟩ s' ⟨rfl,hf,q,hq,u,eo⟩
 dsimp only
 refine aq (seqEpoch_at ho6 rfl (aq (listUpdate_at ho6 rfl ?_ (aH _) ?_)))
 .rw[hf]
  simp only[bne_self_eq_false,bW,if_false]
  rw[eo]
  exact aL (fin q hq u)
 .rw[eo,aV,av,cY,hq.sz,sizeLine_eq]
  omega))
local macro_rules|`(tactic|sleep 45)=>`(tactic|(
 refine⟨bV (by rw[av];omega),?_⟩))
local macro_rules|`(tactic|sleep 46)=>`(tactic|(
 have em:c7 rs p=(cL rs p).length+1:=by unfold c7;rw[if_pos hm']))
local macro_rules|`(tactic|sleep 47)=>`(tactic|(
 rintro⟨r1,r2⟩ s' ⟨hr,rfl,_⟩
 simp only at hr
 subst hr))
local macro_rules|`(tactic|sleep 48)=>`(tactic|(
 have Ib:=Ia.turned (h':=h9) (t':=s8.toks) (it:=s2.heap.objs.size) (λb o hb e=>UI.extBut b o hb e) pD.2.1 hDC (.inr (az _)) (λy c e=>fD.2.2.2.2.1 y c (fJ y c e))
  λp hp=>by
   obtain⟨hb,_⟩:=pN (fp:=fp) (h:=s5.heap) (show p∈lz fp s5.heap from hp)
   exact Bl p.1 hb))
local macro_rules|`(tactic|sleep 49)=>`(tactic|(
 refine fh (cM.of (gO.keep DZ.self)) (cM.of gO.self) (by simp) (by simp) (dY rfl) ?_
 intro qy FJ tL
 have s12:=(iJ.trans gO.same).trans tL.same))
local macro_rules|`(tactic|sleep 50)=>`(tactic|(
 obtain⟨f0,f1,f2,f3,f4,f5⟩:=hf it (by simp)))
local macro_rules|`(tactic|sleep 51)=>`(tactic|(
 obtain⟨it,fp,tn,J,H2,e,I2,T,st2,f2,W,⟨m0,w0⟩,turn⟩:=h2
 subst e))
local macro_rules|`(tactic|sleep 52)=>`(tactic|(
 refine aq (wpAny_setState_of ho hd T.fits ?_)
 dsimp only))
local macro_rules|`(tactic|sleep 53)=>`(tactic|(
 show(_:TS) (Ends.mk _ _ _ _) [_,_,_] H))
local macro_rules|`(tactic|sleep 54)=>`(tactic|(
 simp only[gn,bW,if_false]))
local macro_rules|`(tactic|sleep 55)=>`(tactic|(
 rw[pI] at hx hy
 have e:x=y:=by
  rcases aI.mp ((h x).mp (by simp)) with e|h1
  .exact e
  rcases aI.mp ((h y).mpr (by simp)) with e|h2
  .exact e.symm
  have a1:=hy.1 x h1
  have a2:=hx.1 y h2
  omega
 subst e
 congr 1))
local macro_rules|`(tactic|sleep 56)=>`(tactic|(
 obtain⟨o,n,t,v,ho,hc,hd,hv⟩:=hk
 have hT:s.TypeIs (.ref a) "tuple" := ⟨o,ho,hc⟩))
local macro_rules|`(tactic|sleep 57)=>`(tactic|(
 subst ey
 cases(show u=Value.ref b from ry)
 obtain⟨z,hd,xs,rel,dd⟩:=su I.hok e))
local macro_rules|`(tactic|sleep 58)=>`(tactic|(
 refine aq (wpAny_field hz rfl (x:=rawInt T) rfl ?_)
 show wpAny _ _ (loadIfAlive ((T:Int).toNat) >>= _) _ _ _
 rw[gE]
 refine aq (alive hT ?_)
 simp only[Option.isNone_some,bW,if_false]
 refine aq (wpAny_field hz rfl (x:=.bool f) rfl ?_)))
local macro_rules|`(tactic|sleep 59)=>`(tactic|(
 refine aq (wpAny_setEntries_of ho hd T.fits ?_)
 rw[if_neg (by simp)]
 rw[show((sl:Nat):Int).toNat=sl from rfl,show((i:Nat):Int).toNat=i from rfl,show((ep:Nat):Int).toNat=ep from rfl]
 refine aq (C7 ho hd T hst hb λGw hb'=>?_)
 rw[hi]))
local macro_rules|`(tactic|sleep 60)=>`(tactic|(
 constructor
 .rintro⟨j,hj,e⟩;exact⟨j,by omega,e⟩
 .rintro⟨j,hj,e⟩
  rcases aY j i with hlt|hge
  .exact⟨j,hlt,e⟩
  .have:j=i:=by omega
   subst this
   rw[e]
   exact(ih _).mp hin))
local macro_rules|`(tactic|sleep 61)=>`(tactic|(
 have mono:∀{i k:Nat} {v u:Nat},i<k->xs[i]?=some v->xs[k]?=some u->v<u:=λ{i k v u} hik hi hk=>by
  rw[<- fR] at hi hk
  obtain⟨h1,e1⟩:=fq hi
  obtain⟨h2,e2⟩:=fq hk
  rw[<- e1,<- e2]
  exact k9.mp hs i k h1 h2 hik))
local macro_rules|`(tactic|sleep 62)=>`(tactic|(
 intro pins s σ H D I h))
local macro_rules|`(tactic|sleep 63)=>`(tactic|(
 show(_:TS) (Ends.mk _ _ _ _) [_,_] H))
local macro_rules|`(tactic|sleep 64)=>`(tactic|(
 obtain⟨u,rfl,ru⟩:=vals1 r
 cases ru))
local macro_rules|`(tactic|sleep 65)=>`(tactic|(
 have I1:Inv X pins σ H { s with heap:=h' }:=I.turned (t':=s.toks) (λb o hb e=>(sb.2 b hb).trans e) f0 f1 f3 f4 f5))
local macro_rules|`(tactic|sleep 66)=>`(tactic|(
 refine⟨bV (by omega),?_⟩
 walk_at "go"))
local macro_rules|`(tactic|sleep 67)=>`(tactic|(
 have hi:i<n:=by omega
 refine⟨bV (by rw[hrs.length];omega),?_⟩
 walk_at "go"
 obtain⟨v,hv⟩:=qU (ns:=cs) (i:=0+((i:Nat):Int)) (by omega) (by omega)
 refine cF (bE.of (sm _ _ hc)) hv ?_
 walk_at "go"))
local macro_rules|`(tactic|sleep 68)=>`(tactic|(
 have:=(fq h).1
 have e:j=i:=by simp at this;omega
 subst e
 rw[hlen,Nat.sub_self] at h
 cases h))
local macro_rules|`(tactic|sleep 69)=>`(tactic|(
 have hb:=aK (k1 b x e)
 rw[sortedHeap_old (aQ hb) (by rw[size_push'];exact jn hb)]
 exact c8 _ (k1 b x e)))
local macro_rules|`(tactic|sleep 70)=>`(tactic|(
 refine yM ho hx hd T1 (by omega) (λb s₁ Q' hq=>?_) λh' o2 nT E8 t2 sb g2 x2 d2 T2 p2=>?_
 .cases b<;>first|exact aL hq|exact wpAny_rule hq
 .exact aL (fin h' o2 nT E8 t2 sb g2 x2 d2 T2 p2)))
local macro_rules|`(tactic|sleep 71)=>`(tactic|(
 refine aq (kat_kind (T:=.type "int") k1 (by omega) (λv hv=>by obtain⟨i,t,rfl⟩:=k3 v hv;exact Looks.of_pure rfl) rfl ?_)
 have kd:((Value.type "int") != (Value.type "tuple"))=true:=by decide
 rw[kd]))
local macro_rules|`(tactic|sleep 72)=>`(tactic|(
 have e1:(op==CmpOp.In)=false:=by cases op<;>first|rfl|exact absurd rfl h
 have e2:(op==CmpOp.NotIn)=false:=by cases op<;>first|rfl|exact absurd rfl h2
 cases b<;>simp[behindInMarks,e1,e2]))
local macro_rules|`(tactic|sleep 73)=>`(tactic|(
 obtain⟨m,hm⟩:=hm
 refine⟨m,hm,λh' hs'=>?_⟩
 exact⟨.ref D,_,I'.turned (t':=s'.toks) (it:=C) (λb o hb e=>hs'.extBut b o hb e) fC.1 fC.2.1 fC.2.2.2.1 fC.2.2.2.2.1 fC.2.2.2.2.2,rfl,z D hD⟩))
local macro_rules|`(tactic|sleep 74)=>`(tactic|(
 rw[show its.toArray.any (Bd x)=its.any (Bd x) by simp,nK r fs]
 exact q))
local macro_rules|`(tactic|sleep 75)=>`(tactic|(
 have e:=aA.mp hp
 subst e
 refine⟨?_,pD.2.1,hDC,pD.2.2.2.1,λv z=>by cases z⟩
 have q:its.toArray.push uy=(its++[uy]).toArray:=by simp
 rw[<- q]
 exact Zq))
local macro_rules|`(tactic|sleep 76)=>`(tactic|(
 unfold eqIsQuiet
 refine aq (wpAny_specialOf hT F.slot_tuple_eq.lookup ?_)
 show wpAny _ _ (isInstance (.ref a) (.type "tuple") >>= _) _ _ s
 refine aq (wpAny_isInstance hT isSubtype_tuple_tuple ?_)))
local macro_rules|`(tactic|sleep 77)=>`(tactic|(
 have K7:=s4.trans n5.same
 have hc5:=n5.self
 clear n5 s4
 walk_at "go"
 refine⟨c',us',iH rs' (p:Int),rfl,hc5,gA,ho.ok,xX,ho.ne,λH6 s6=>?_⟩
 walk_at "go"))
local macro_rules|`(tactic|sleep 78)=>`(tactic|(
 obtain⟨oc,od,kV,doc,pm,an,cdv,ct,osl,rfl,lk,hcd⟩:=F.ex
 refine NR lk hcd S len λA outer s H vs Q E hr KW=>?_
 obtain⟨t,h,q⟩:=hbody cdv A outer s H vs Q E hr KW
 exact⟨t,h.GF,q⟩))
local macro_rules|`(tactic|sleep 79)=>`(tactic|(
 refine cF (bE.of ha2) hv ?_
 refine⟨sm.trans n2.same,ls++[v],by rw[bF];rfl,by simp[hl],λk h=>?_⟩
 rcases aO.mp h with h|h
 .exact hlb k h
 .rw[aA.mp h];exact hb v mv))
local macro_rules|`(tactic|sleep 80)=>`(tactic|(
 intro p k r hr hk ey
 obtain⟨p',k',r',hr',hk',ey',hw⟩:=qZ hR
 obtain⟨rfl,rfl⟩:=qe hk hk' (by omega)
 rw[hr] at hr'
 cases hr'
 have hmem:=fz hr
 have Kf:=hok r hmem))
local macro_rules|`(tactic|sleep 81)=>`(tactic|(
 obtain⟨u,hr,h4⟩:=h4
 subst hr
 refine wpAny_mono h4 (λ_ s5 h5=>?_) λ_ _ e=>e
 obtain⟨v,H5,I5,r5,y5,A7,T8⟩:=h5
 have T9:=I5.pinned (r6 one T8) (T.obj _ _ A7)))
local macro_rules|`(tactic|sleep 82)=>`(tactic|(
 have ty:=st.ty
 refine wpAny_pyIter_slot ty qN (wpAny_call_entry qN ty C5 ?_ (C6 _))
 show wpAny _ _ (ret (.ref it)) _ _ s
 exact aL ⟨_,rfl, "set_iterator", _,ty,gk.lookup,hQ⟩))
local macro_rules|`(tactic|sleep 83)=>`(tactic|(
 have e:b=s1.heap.objs.size:=by simpa using hb
 subst e
 exact I1.nI (az _) (I1.hok.fresh (az _))))
local macro_rules|`(tactic|sleep 84)=>`(tactic|(
 have e:p=(s2.heap.objs.size,{ cls:=.type "list", data:=.seq ([]:List Value).toArray }):=by simpa[mK] using hp
 subst e
 exact⟨hacc,UD,hDC,UG _ (az _),λv z=>by cases z⟩))
local macro_rules|`(tactic|sleep 85)=>`(tactic|(
 simp only[sliceBounds,HT.dz,Option.getD_none,show(1:Int)>0 by decide,if_true]
 by_cases h:i<0
 .simp only[h,if_true]<;>omega
 .simp only[h,if_false]<;>omega))
local macro_rules|`(tactic|sleep 86)=>`(tactic|(
 obtain⟨z,hz,e⟩:=mem h
 have n1:=free z hz
 have n2:(z.2==NameKind.free)=false:=by cases hk:z.2<;>first|rfl|exact absurd hk n1
 rw[n2,rG,rG,if_neg jT] at e))
local macro_rules|`(tactic|sleep 87)=>`(tactic|(
 refine v8 kind_sorted plain_sorted entry_sorted (args_sorted1 _) ?_
 unfold Builtin.«sorted»))
local macro_rules|`(tactic|sleep 88)=>`(tactic|(
 show(_:TS) (Ends.mk _ _ _ _) [_,_,_,_,_] H))
local macro_rules|`(tactic|sleep 89)=>`(tactic|(
 obtain⟨t,rfl⟩:=rx))
local macro_rules|`(tactic|sleep 90)=>`(tactic|(
 simp only[bW,if_false]))
local macro_rules|`(tactic|sleep 91)=>`(tactic|(
 have hA:X.A.in1.in1.handled=none:=I.ok.hd hc
 have big:@LT.lt Nat _ sysModules s.heap.objs.size:=I.big
 have n6:@Ne Nat s.heap.objs.size sysModules:=by omega
 have hl:=rv.length))
local macro_rules|`(tactic|sleep 92)=>`(tactic|(
 obtain⟨a,o,m,t,u,rfl,h1,h2,h3⟩:=hk
 have hT:s.TypeIs (.ref a) "tuple" := ⟨o,h1,h2⟩))
local macro_rules|`(tactic|sleep 93)=>`(tactic|(
 obtain⟨o,e,d⟩:=T.obj _ _ A7 b hb
 exact(I7.pin (b,o) (cA _ (cA _ (dZ hb e)))).2.1))
local macro_rules|`(tactic|sleep 94)=>`(tactic|(
 refine cT (hi pins s σ H _ I h) λiv s1 ⟨y,H1,I1,ry,q1⟩=>cT (ho pins s1 σ H1 _ I1 q1) λu s2 ⟨x,H2,I2,rx,a,ov,ex,g,q2⟩=>?_
 subst ex
 obtain rfl:u=Value.ref a:=rx))
local macro_rules|`(tactic|sleep 95)=>`(tactic|(
 have UG:∀b,s2.heap.objs.size<=b->b∉frs X.stack:=λb hb hs=>by
  rcases aI.mp (yt b hs) with z|z
  .exact absurd (bT I2.lt (z▸hb)) (fY _)
  .exact I2.Pp hb z))
local macro_rules|`(tactic|sleep 96)=>`(tactic|(
 obtain⟨a,b⟩:=p
 obtain⟨c,d⟩:=q
 show((a==c)&&((b==d)&&true))=_
 by_cases h1:a=c
 .by_cases h2:b=d
  .subst h1 h2;simp
  .simp[h2]
 .simp[h1]))
local macro_rules|`(tactic|sleep 97)=>`(tactic|(
 obtain⟨z,its,n,r,hl,e⟩:=I.wG hH))
local macro_rules|`(tactic|sleep 98)=>`(tactic|(
 refine cT (ha pins s σ H _ I h) λv s1 ⟨x,H1,I1,r1,q1⟩=>?_
 refine cT (hb pins s1 σ H1 _ I1 q1) λu s2 ⟨y,H2,I2,r2,q2⟩=>?_
 exact hf v u s2 x y H2 I2 r1 r2 q2))
local macro_rules|`(tactic|sleep 99)=>`(tactic|(
 simp only[aI,fX,or_false] at hb))
local macro_rules|`(tactic|sleep 100)=>`(tactic|(
 intro pins s σ H R I h
 refine cT (hl pins s σ H _ I h) λv s1 ⟨x,H1,I1,r1,q1⟩=>?_))
local macro_rules|`(tactic|sleep 101)=>`(tactic|(
 repeat (any_goals (first|assumption|wp_step))))
local macro_rules|`(tactic|sleep 102)=>`(tactic|(
 refine aq ?_
 simp only[List.zipIdx_cons,List.zipIdx_nil,jF,kZ]
 refine aq (aq (wpAny_onRaise ?_))
 show wpAny _ _ (Builtin.SmallTypes.nextOf (.ref i1) >>= _) _ _ _))
local macro_rules|`(tactic|sleep 103)=>`(tactic|(
 have lst:∀h:Heap,(∀b o,b≠it->b≠d->s0.heap.get? b=some o->h.get? b=some o)->h.IsList l its:=λh kp=>let⟨o,q,r⟩:=hl;⟨o,kp l o hli (bu hdl) q,r⟩))
local macro_rules|`(tactic|sleep 104)=>`(tactic|(
 exact aL ⟨rfl,rfl,λu Dm=>hall u (c9 _ Dm)⟩))
local macro_rules|`(tactic|sleep 105)=>`(tactic|(
 rw[if_neg (by decide)]))
local macro_rules|`(tactic|sleep 106)=>`(tactic|(
 refine aq (wpAny_setEntries_of ho hd hfit ?_)
 rw[if_neg (by simp)]
 refine aq (wpAny_seqItems AW hdt ?_)
 dsimp only
 rw[show((i:Nat):Int).toNat=i from rfl]))
local macro_rules|`(tactic|sleep 107)=>`(tactic|(
 refine aL ⟨plainId_quiet F.bC _,?_⟩))
local macro_rules|`(tactic|sleep 108)=>`(tactic|(
 subst e
 refine⟨_::fs,KatTups.cons h1 h2 h3 rfl a1,by simp[a2],λv hv=>?_⟩
 rcases aI.mp hv with e|hv
 .exact⟨_,_,e⟩
 .exact a3 v hv))
local macro_rules|`(tactic|sleep 109)=>`(tactic|(
 simp only[Row.vals,Row.key,Row.rest] at ha
 walk_at "go"))
local macro_rules|`(tactic|sleep 110)=>`(tactic|(
 refine aq (wpAny_field hz rfl (x:=.none) rfl (aL ?_))
 simp only[if_true]
 refine aq (wpAny_rule ?_)
 refine aq (wpAny_field hz rfl (x:=.ref TO) rfl ?_)))
local macro_rules|`(tactic|sleep 111)=>`(tactic|(
 refine aq (wpAny_specialOf hT F.slot_tuple_hash.lookup ?_)))
local macro_rules|`(tactic|sleep 112)=>`(tactic|(
 rw[eval_ListComp]
 refine wpAny_comprehension_free (use:=none) rfl hs O.clos O.kind O.names (cT (hi pins s σ H _ I h) λv s1 h1=>cT h1 λitv s2 h2=>?_)))
local macro_rules|`(tactic|sleep 113)=>`(tactic|(
 have a0:=all 0
 have a1:=all 1
 cases h0:gM r 0<;>cases h1:gM r 1<;>simp only[if_true,bW,if_false,a0,a1,List.filter_nil,mW]<;>simp<;>omega))
local macro_rules|`(tactic|sleep 114)=>`(tactic|(
 refine aq (m:=newList []) (wpAny_newObj_type (aL ⟨plainId_quiet F.plain_list_iadd _,codeAny_builtin F.entry_list_iadd ?_⟩))
 rw[iu F.plain_list_iadd]))
local macro_rules|`(tactic|sleep 115)=>`(tactic|(
 refine cF (bE.of hc) hat ?_
 cases r
 all_goals simp only[Row.vals,Row.key,Row.rest] at tG
 all_goals simp only[Row.iM] at q
 all_goals walk_at "go"))
local macro_rules|`(tactic|sleep 116)=>`(tactic|(
 have I1:Inv X pins σ H { s with heap:=h' }:=I.kept (t':=s.toks) λb o e=>hx b o (aQ (aK e)) e
 exact h pins _ σ H xs _ Q I1 (by simpa using rv) hw))
local macro_rules|`(tactic|sleep 117)=>`(tactic|(
 obtain⟨j,h1,h2,h3,h4,h5⟩:=wB he
 obtain⟨w,ew,rw'⟩:=r.get h2
 have hl:=r.length
 have hn:=pO
 have fin:EP X pins σ Q w s:=⟨z,H,I,rw',q⟩))
local macro_rules|`(tactic|sleep 118)=>`(tactic|(
 refine(I.hok b u e).stay (λc v hc q=>k c v ?_ q) (λ_ q=>q) λ_ _ q=>q
 rcases hc with z|z
 .rw[z];exact TN b u e
 .exact TN c _ z))
local macro_rules|`(tactic|sleep 119)=>`(tactic|(
 rw[e] at e';cases e'
 rw[d] at d'
 injection d' with d1 _
 have:its=its':=by simpa using congrArg Array.toList d1
 subst this
 exact r.inj r'))
local macro_rules|`(tactic|sleep 120)=>`(tactic|(
 refine hc _ _ (P.lt (by omega)) (P.lt (by omega)) _ ?_))
local macro_rules|`(tactic|sleep 121)=>`(tactic|(
 refine⟨by walk_at "same", ?_,_,_,rfl⟩
 rw[e,if_neg (by rw[hm];exact λz=>absurd (of_decide_eq_true z) (by split<;>omega))];simp))
local macro_rules|`(tactic|sleep 122)=>`(tactic|(
 show(match rs[p]? with|none=>rs|some r=>if r.iM p&&gR (dD (iH rs (p:Int))) n then Ah n k (iH rs (p:Int)) p else Ah n k rs (p+1))=_))
local macro_rules|`(tactic|sleep 123)=>`(tactic|(
 have I3:Inv X pins σ H { s with heap:=h',toks:=tk }:=I.kept k'
 have fd:iF X pins H s.heap.objs.size:=I.nI (az _) (I.hok.fresh (az _))))
local macro_rules|`(tactic|sleep 124)=>`(tactic|(
 simp only[bne_self_eq_false,bW,if_false]))
local macro_rules|`(tactic|sleep 125)=>`(tactic|(
 show(_:TS) (Ends.mk _ _ _ _) [_,_,_,_] H))
local macro_rules|`(tactic|sleep 126)=>`(tactic|(
 refine aq (wpAny_letGo (aL ?_))
 refine aq (aq (wpAny_onRaise ?_))
 show wpAny _ _ (Builtin.SmallTypes.nextOf (.ref i2) >>= _) _ _ _))
local macro_rules|`(tactic|sleep 127)=>`(tactic|(
 refine aq (wpAny_seqItems h1 h3 ?_)
 refine aq ?_
 show wpAny _ _ (forIn #[Value.int p.1 t,Value.int p.2 u] _ _) _ _ s
 rw[<- kY]))
local macro_rules|`(tactic|sleep 128)=>`(tactic|(
 subst ex ey
 obtain rfl:u=Value.ref d:=rx
 obtain rfl:iv=Value.ref b:=ry))
local macro_rules|`(tactic|sleep 129)=>`(tactic|(
 rintro i ys H' _ ⟨s',_⟩))
local macro_rules|`(tactic|sleep 130)=>`(tactic|(
 have e:b=it:=by simpa using hb
 subst e))
local macro_rules|`(tactic|sleep 131)=>`(tactic|(
 cases(show u=Value.ref a from rx)))
local macro_rules|`(tactic|sleep 132)=>`(tactic|(
 subst ey
 obtain⟨z,hd,vs,rel,dd⟩:=sr I.hok e))
local macro_rules|`(tactic|sleep 133)=>`(tactic|(
 intro pins s σ H x vs v us Q I rx rv h))
local macro_rules|`(tactic|sleep 134)=>`(tactic|(
 intro value slice pins s σ H x y v u Q I rx ry h hs
 obtain⟨p,xs,i,z,rfl,rfl,hq,he,q⟩:=h
 cases rx
 obtain⟨t,rfl⟩:=ry))
local macro_rules|`(tactic|sleep 135)=>`(tactic|(
 obtain⟨w,hw,rw'⟩:=rv.get ht
 cases rw'
 obtain⟨its2,Z4,pt,_⟩:=I.tuple (cM.of Z3)
 obtain⟨o,ho,hc',n,hd⟩:=pt))
local macro_rules|`(tactic|sleep 136)=>`(tactic|(
 have w:(q:Int)=(y:Int)+1:=aA.mp w
 exact⟨λ_=>(next (j:=k+1) w rfl (by omega)).1 (.inl (by omega)),λh=>by omega⟩))
local macro_rules|`(tactic|sleep 137)=>`(tactic|(
 clear n6 n7 h5 Nl s5
 walk_at "go"
 refine iI (cM.of O7) (by show ¬(HT.dz 5 0 none=0/\HT.dz 5 5 (some 1)=5);decide) ?_))
local macro_rules|`(tactic|sleep 138)=>`(tactic|(
 have mi:ps.getD i (0,0)∈ps:=by rw[mG,fN hi];exact jH hi
 have mj:ps.getD j (0,0)∈ps:=by rw[mG,fN hj];exact jH hj))
local macro_rules|`(tactic|sleep 139)=>`(tactic|(
 subst ex
 obtain rfl:u=Value.ref a:=rx))
local macro_rules|`(tactic|sleep 140)=>`(tactic|(
 have k1:=pA gA none (some (p:Int))
 have k2:=pA gA (some ((p:Int)+1)) none
 rw[qu] at k1 k2
 exact Paired.app' k1 k2))
local macro_rules|`(tactic|sleep 141)=>`(tactic|(
 walk_at "go"
 refine⟨l,p,vs,rs',r,rfl,hl2,gB,hr',λH3 s3=>?_⟩
 have hl3:=s3 _ _ hl2
 have fM:=gB.same s3))
local macro_rules|`(tactic|sleep 142)=>`(tactic|(
 have hi:i<us.length:=(fq hx).1))
local macro_rules|`(tactic|sleep 143)=>`(tactic|(
 have dd:(s.heap.push { cls:=.type "dict", data:=.dict #[] }).DictOf (bK prog w) s.heap.objs.size []:=Heap.DictOf.new s.heap))
local macro_rules|`(tactic|sleep 144)=>`(tactic|(
 refine⟨by walk_at "same", ?_,_,_,rfl⟩
 rw[e,if_pos (by rw[hm];exact decide_eq_true (by split<;>omega))];simp))
local macro_rules|`(tactic|sleep 145)=>`(tactic|(
 show(_:TS) (Ends.mk _ _ _ _) [_,_,_,_,_,_,_] H))
local macro_rules|`(tactic|sleep 146)=>`(tactic|(
 exact hR h' t rs (λb o b1 b2 q=>k' b o b1 (kp b o b1 b2 q)) (let⟨o,es,ep,q,r⟩:=dd;⟨o,es,ep,k' d o hd q,r⟩) rel))
local macro_rules|`(tactic|sleep 147)=>`(tactic|(
 have HD:IsPair h₂ TO a b:=hs₂.extBut _ _ D.TOi1 (hs₁.extBut _ _ D.TOz hTO)
 refine aq (wpAny_seqItems HD rfl ?_)))
local macro_rules|`(tactic|sleep 148)=>`(tactic|(
 rcases h with(h|⟨o,h⟩)|h
 .exact .inl (.inl (e _ _ h))
 .exact .inl (.inr ⟨o,e _ _ h⟩)
 .exact .inr h))
local macro_rules|`(tactic|sleep 149)=>`(tactic|(
 refine again λl3 H3 SR Pb s3 hl3 fM t3 h3=>?_
 walk_at "go"
 exact⟨l3,SR,Pb,rfl,s3,hl3,fM,t3,h3⟩))
local macro_rules|`(tactic|sleep 150)=>`(tactic|(
 show((vs.toArray.zip vs.toArray).map _).size<=_
 rw[Array.size_map,Array.size_zip,aV,sizeLine_eq]
 omega))
local macro_rules|`(tactic|sleep 151)=>`(tactic|(
 refine aq (wpAny_seqItems ho hd ?_)
 refine aq ?_
 show wpAny _ _ (forIn #[Value.int k.1 t,v] _ _) _ _ s
 rw[<- kY]))
local macro_rules|`(tactic|sleep 152)=>`(tactic|(
 walk_at "go"
 refine⟨a,ns,n,rfl,s1.seq hS,hn,h0,h1,λc H2 cs s2 hc hcl=>?_⟩
 have hp2:=s2 _ _ hp
 walk_at "go"))
local macro_rules|`(tactic|sleep 153)=>`(tactic|(
 have one:∀{o:Obj},∀p∈[(s2.heap.objs.size,o)],p.1=s2.heap.objs.size:=λp hp=>by
  have e:=aA.mp hp
  rw[e]))
local macro_rules|`(tactic|sleep 154)=>`(tactic|(
 obtain⟨o,e,r⟩:=x;exact⟨o,k o e,r⟩))
local macro_rules|`(tactic|sleep 155)=>`(tactic|(
 obtain⟨p,us,rs,rfl,_⟩:=h
 rfl))
local macro_rules|`(tactic|sleep 156)=>`(tactic|(
 rintro i σ' H' _ ⟨_,s',_⟩))
local macro_rules|`(tactic|sleep 157)=>`(tactic|(
 unfold setsByText
 refine aq (aq (wpAny_askSetting (aL ?_)))
 show wpAny _ _ (if cC w=true then _ else _) _ _ _))
local macro_rules|`(tactic|sleep 158)=>`(tactic|(
 unfold ofAClassStatement
 refine aq (wpAny_typeOf hT ?_)
 dsimp only
 refine aq (wpAny_of_eq (a:=true) rfl ?_)))
local macro_rules|`(tactic|sleep 159)=>`(tactic|(
 obtain⟨its,r',pl,hz⟩:=I.list hq
 have hlen:=r'.length))
local macro_rules|`(tactic|sleep 160)=>`(tactic|(
 refine⟨dd.typeIs,λb q=>?_,hd⟩
 cases q
 obtain⟨ob,_,_,h1,h2,_⟩:=dd
 exact⟨ob,h1,h2.2.1⟩))
local macro_rules|`(tactic|sleep 161)=>`(tactic|(
 refine codeAny_builtin PyProof.Rows.F.entry_set_update_loop ?_
 rw[iu PyProof.Rows.F.plain_set_update_loop]))
local macro_rules|`(tactic|sleep 162)=>`(tactic|(
 rename_i hlt
 have hp:p<rs'.length:=by omega
 obtain⟨r,hr'⟩:∃r,rs'[p]?=some r:=⟨_,fN hp⟩))
local macro_rules|`(tactic|sleep 163)=>`(tactic|(
 unfold setAddHashed setAddHashedIn
 refine wpAny_holding (aq (wpAny_setState_of ho hd T.fits ?_))
 dsimp only))
local macro_rules|`(tactic|sleep 164)=>`(tactic|(
 simp only[Bool.not_false,if_true]))
local macro_rules|`(tactic|sleep 165)=>`(tactic|(
 obtain⟨σ3,H3,I3,n3⟩:=q3
 obtain⟨m',hm,w3⟩:=hN σ3 H3 n3
 exact⟨m',hm,σ3,H3,I3,w3⟩))
local macro_rules|`(tactic|sleep 166)=>`(tactic|(
 obtain⟨o',e1⟩:=I.base.there b o e hx))
local macro_rules|`(tactic|sleep 167)=>`(tactic|(
 have fr:∀b,s1.heap.objs.size<=b->iF X pins H1 b:=λb hb=>I1.nI hb (I1.hok.fresh hb)
 refine fr b ?_))
local macro_rules|`(tactic|sleep 168)=>`(tactic|(
 refine aq ?_
 unfold Builtin.SmallTypes.ownedTupleIsFree))
local macro_rules|`(tactic|sleep 169)=>`(tactic|(
 obtain⟨d,e,hd,he,sd,se,q⟩:=h
 obtain⟨as,ra⟩:=hd.reads I rx
 obtain⟨bs,rb⟩:=he.reads I ry))
local macro_rules|`(tactic|sleep 170)=>`(tactic|(
 exact⟨rfl,q h' tk rs (λb o e=>k' b o (LV _ _ (k0 _ _ e)) (sz _ _ e) (k2 _ _ (k0 _ _ e))) d' rel⟩))
local macro_rules|`(tactic|sleep 171)=>`(tactic|(
 obtain⟨b,l,q,xs,ps,rfl,rfl,hb,hl,hp,k⟩:=h
 cases rx
 cases ry
 obtain⟨its,r,pl,hz⟩:=I.list hl))
local macro_rules|`(tactic|sleep 172)=>`(tactic|(
 walk_at "go"
 rename_i t4 H4 n4))
local macro_rules|`(tactic|sleep 173)=>`(tactic|(
 have s12:=qy.same (iJ.trans gO.same) fg
 have Ga:=qy.self
 clear qy tt Kz gO tP xQ iJ
 walk_at "go"))
local macro_rules|`(tactic|sleep 174)=>`(tactic|(
 subst hj
 rw[hi] at e1;cases e1
 rw[List.getElem?_set_self hiσ] at e2
 cases e2))
local macro_rules|`(tactic|sleep 175)=>`(tactic|(
 have iJ:=Cr.same (s8.trans n9.same) fg
 have xQ:=Cr.self
 clear Cr tt O9 n9 GA Ek s8
 walk_at "go"))
local macro_rules|`(tactic|sleep 176)=>`(tactic|(
 refine codeAny_builtin F.dQ ?_
 rw[iu F.bC _]
 show wpAny _ A.in1 (pyNext (.ref z) >>= _) _ _ _))
local macro_rules|`(tactic|sleep 177)=>`(tactic|(
 intro s1 acc k1 g1 o1 BA hp
 obtain⟨h1,gg,dd,VM,oo⟩:=s1
 dsimp only at k1 g1 o1 BA
 subst g1 o1))
local macro_rules|`(tactic|sleep 178)=>`(tactic|(
 walk_at "go"
 refine⟨l,p,vs,rs',rfl,hl3,fM,by omega,t2.ok,λc' us' H4 H5 s4 n5 gA=>?_⟩))
local macro_rules|`(tactic|sleep 179)=>`(tactic|(
 rw[pF (bu hj)] at e2
 obtain⟨u',r',q⟩:=hl j y v' e1 e2 e3
 refine⟨u',r',?_⟩))
local macro_rules|`(tactic|sleep 180)=>`(tactic|(
 exact codeAny_compStart_list loop (T.self _ 0 _ _ _ (T.keep _ _ _ st2 λb _ o e=>old b o e) loop)))
local macro_rules|`(tactic|sleep 181)=>`(tactic|(
 rw[List.length_erase_of_mem hx] at this
 have hp:=List.length_pos_of_mem hx
 rw[eB]
 omega))
local macro_rules|`(tactic|sleep 182)=>`(tactic|(
 walk_at "go"
 refine⟨l,p,vs,rs',rfl,hl3,fM,by omega,K5.ok,λc' us' H4 H5 s4 n5 gA=>?_⟩))
local macro_rules|`(tactic|sleep 183)=>`(tactic|(
 obtain⟨o,e,d⟩:=T.obj _ _ A7 b hb
 exact(I8.pin (b,o) (cA _ (cA _ (dZ hb e)))).2.1))
local macro_rules|`(tactic|sleep 184)=>`(tactic|(
 walk_at "go"
 rename_i t8 H8 n8 H9 p9
 have Ek:=n8.keep O8
 have tt:=eT Ek p9))
local macro_rules|`(tactic|sleep 185)=>`(tactic|(
 have q:=(rel.val k).iW
 rw[Option.isSome_map] at q
 rw[<- q,<- l]
 exact h _ (I.tok _)))
local macro_rules|`(tactic|sleep 186)=>`(tactic|(
 refine iI (cM.of K6) (by show ¬(HT.dz 5 0 (some 2)=0/\HT.dz 5 5 (some (-1))=5);decide) ?_))
local macro_rules|`(tactic|sleep 187)=>`(tactic|(
 exact sb.extBut b o b2 (k1 b o b1 (kp b o b1 b2 q))))
local macro_rules|`(tactic|sleep 188)=>`(tactic|(
 have:i=(lo+hi) / 2:=by omega
 subst this
 rw[hg] at hv
 cases hv))
local macro_rules|`(tactic|sleep 189)=>`(tactic|(
 have d1:h1.DictOf (bK prog w) d rs:=let⟨o,es,ep,q,r⟩:=dd;⟨o,es,ep,k1 d o hd q,r⟩))
local macro_rules|`(tactic|sleep 190)=>`(tactic|(
 simp only[show ¬((es.size:Int)<0) by omega,if_false,gE,qh (az es.size)]
 refine aq ?_))
local macro_rules|`(tactic|sleep 191)=>`(tactic|(
 rw[show its.toArray.any (K0 s.heap q)=its.any (K0 s.heap q) by simp,wR I q hp r]
 exact k))
local macro_rules|`(tactic|sleep 192)=>`(tactic|(
 exact hR v' h'' Ja VV λb o Dt Mp e=>Jb b o Dt Mp ((j9 _ _ (bu Mp)).trans (hk' b o Dt e))))
local macro_rules|`(tactic|sleep 193)=>`(tactic|(
 rw[bz] at hx
 obtain⟨z,hz,rfl⟩:=dg.mp hx))
local macro_rules|`(tactic|sleep 194)=>`(tactic|(
 refine⟨a,r, "box", rfl,ha,λp H1 s1 fp hp=>?_⟩
 rw[vN] at hp
 have ha1:=s1 _ _ ha))
local macro_rules|`(tactic|sleep 195)=>`(tactic|(
 have hl:=hrs.length
 have hp:p<rs.length:=(fq hr').1
 obtain⟨ra,hat,tG⟩:=oX hrs hr'))
local macro_rules|`(tactic|sleep 196)=>`(tactic|(
 walk_at "go"
 refine⟨rfl,?_⟩))
local macro_rules|`(tactic|sleep 197)=>`(tactic|(
 exact⟨o,e1,λv q=>by rw[d] at q;cases q⟩))
local macro_rules|`(tactic|sleep 198)=>`(tactic|(
 show(_:TS) (Ends.mk _ _ _ _) [_] H))
local macro_rules|`(tactic|sleep 199)=>`(tactic|(
 refine iI (cM.of ha) (by show ¬(HT.dz 5 0 none=0/\HT.dz 5 5 (some 1)=5);decide) ?_))
local macro_rules|`(tactic|sleep 200)=>`(tactic|(
 refine iI (cM.of qD) (by show ¬(HT.dz 5 0 (some 2)=0/\HT.dz 5 5 none=5);decide) ?_))
local macro_rules|`(tactic|sleep 201)=>`(tactic|(
 intro pins s σ H v u Q I r hw
 obtain⟨a,xs,e1,hq,hl,hw⟩:=hw
 subst e1
 cases r))
local macro_rules|`(tactic|sleep 202)=>`(tactic|(
 show wpAny _ _ (Builtin.Dict.showsAll d >>= _) _ _ s
 unfold Builtin.Dict.showsAll))
local macro_rules|`(tactic|sleep 203)=>`(tactic|(
 refine wpAny_mono go (λb s2=>?_) λ_ _ x=>x))
local macro_rules|`(tactic|sleep 204)=>`(tactic|(
 refine ki (cT (ha pos pins s σ H _ I h) λus s1 ⟨vs,H1,I1,rv,q1⟩=>?_) he hpl))
local macro_rules|`(tactic|sleep 205)=>`(tactic|(
 obtain⟨sl,e1⟩:=I.base.slot b o e n hb hx))
local macro_rules|`(tactic|sleep 206)=>`(tactic|(
 refine⟨⟨o,e,ex.1⟩,λa e2=>?_⟩
 cases e2
 exact⟨o,e,ex.2.1⟩))
local macro_rules|`(tactic|sleep 207)=>`(tactic|(
 obtain⟨v,o,ho,hd⟩:=I2.cell y c (fJ y c e)
 exact⟨v,o,old _ _ ho,hd⟩))
local macro_rules|`(tactic|sleep 208)=>`(tactic|(
 show(_:TS) (Ends.mk _ _ _ _) [_,_,_,_,_,_] H))
local macro_rules|`(tactic|sleep 209)=>`(tactic|(
 have:X.env.scope.names.lookup x=some .free:=hk
 rw[k] at this;cases this))
local macro_rules|`(tactic|sleep 210)=>`(tactic|(
 walk_at "go"
 refine⟨⟨some (.int (i:Int)),some (.ref ra),?_⟩,s4,DY⟩))
local macro_rules|`(tactic|sleep 211)=>`(tactic|(
 obtain⟨t',rfl⟩:=ry))
local macro_rules|`(tactic|sleep 212)=>`(tactic|(
 have qu:=hrs.length))
local macro_rules|`(tactic|sleep 213)=>`(tactic|(
 rcases aO.mp a with a|a
 .exact .inr a
 .rw[aA.mp a];exact .inl h))
local macro_rules|`(tactic|sleep 214)=>`(tactic|(
 obtain⟨u,rfl,r1⟩:=vals1 r
 cases r1
 obtain⟨its,rv,pl,hz⟩:=I.list hS))
local macro_rules|`(tactic|sleep 215)=>`(tactic|(
 rw[lm] at hi hj
 obtain⟨e1,m1⟩:=Om i hi
 obtain⟨e2,m2⟩:=Om j hj))
local macro_rules|`(tactic|sleep 216)=>`(tactic|(
 walk_at "go"
 rename_i l H1 n1
 refine q l [] H1 n1.same n1.1 n1.self ?_))
local macro_rules|`(tactic|sleep 217)=>`(tactic|(
 rename_i f H1 n1
 have ff:=n1.1
 have s1:=n1.same
 have hf1:=n1.self
 clear n1))
local macro_rules|`(tactic|sleep 218)=>`(tactic|(
 obtain⟨oi,xY,ri⟩:=Rg
 exact⟨oi,sb.extBut it oi (bu hd) xY,ri⟩))
local macro_rules|`(tactic|sleep 219)=>`(tactic|(
 obtain⟨p,us,rs,rfl,hp,hrs,hok,hn,q⟩:=h))
local macro_rules|`(tactic|sleep 220)=>`(tactic|(
 rcases aO.mp h with h|h
 .exact hok r' h
 .rw[aA.mp h];exact hr))
local macro_rules|`(tactic|sleep 221)=>`(tactic|(
 have h2':2<=vs.length:=by rw[aV] at h2;omega
 rw[if_neg h2,if_neg h2]))
local macro_rules|`(tactic|sleep 222)=>`(tactic|(
 rintro i ys H' hi ⟨rfl,rfl⟩
 refine⟨bV (by rw[av,gT];omega),?_⟩))
local macro_rules|`(tactic|sleep 223)=>`(tactic|(
 have c1:=fF us none (some (p:Int))
 have c2:=fF us (some ((p:Int)+1)) none))
local macro_rules|`(tactic|sleep 224)=>`(tactic|(
 have bk:=hlb k (by simp)
 have bi:=hlb i (by simp)
 have bj:=hlb j (by simp)))
local macro_rules|`(tactic|sleep 225)=>`(tactic|(
 obtain⟨o,e,c,d⟩:=st
 exact⟨o,e,λv z=>by rw[d] at z;cases z⟩))
local macro_rules|`(tactic|sleep 226)=>`(tactic|(
 obtain⟨_,_,_,_,o,_,_,e,ex,_⟩:=I.hok p _ hk
 exact⟨o,e,ex⟩))
local macro_rules|`(tactic|sleep 227)=>`(tactic|(
 rw[at_ i hil] at hi
 rw[<- Option.some.inj hi]
 exact b2 i (by omega)))
local macro_rules|`(tactic|sleep 228)=>`(tactic|(
 have Bl:∀b∈fp,b≠s2.heap.objs.size:=λb hb=>(below b (Bk b hb)).2))
local macro_rules|`(tactic|sleep 229)=>`(tactic|(
 obtain⟨HN,v1,EY,z1⟩:=I.src q1
 obtain⟨its2,v2,EZ,z2⟩:=I.src q2))
local macro_rules|`(tactic|sleep 230)=>`(tactic|(
 intro hn
 obtain⟨j,hj,e5⟩:=pH.mp hn
 refine⟨j,hj,?_⟩))
local macro_rules|`(tactic|sleep 231)=>`(tactic|(
 have hyl:=hys.length
 rw[av,cG] at hyl))
local macro_rules|`(tactic|sleep 232)=>`(tactic|(
 obtain⟨d,rfl,q⟩:=q1
 cases r1
 exact wpAny_truthy_bool ⟨H1,I1,q⟩))
local macro_rules|`(tactic|sleep 233)=>`(tactic|(
 rw[exec_Assign_Name_used _ _ _ _ hsw]
 refine aq (wpAny_standAt (aq ?_))))
local macro_rules|`(tactic|sleep 234)=>`(tactic|(
 rintro v rest r s' ⟨hr,rfl,hall⟩
 obtain⟨i,t,rfl⟩:=hall v i8))
local macro_rules|`(tactic|sleep 235)=>`(tactic|(
 rintro i zs τ H' hi ⟨sm,rfl,x,y,rfl⟩))
local macro_rules|`(tactic|sleep 236)=>`(tactic|(
 show wpAny _ _ (setField (.ref it) 1 (rawInt ((i:Int)+1)) >>= _) _ _ s))
local macro_rules|`(tactic|sleep 237)=>`(tactic|(
 subst e2
 rw[e] at h5
 cases h5
 exact hx))
local macro_rules|`(tactic|sleep 238)=>`(tactic|(
 cases x<;>first
  | (cases rx;rfl)
  | (obtain⟨t,rfl⟩:=rx;rfl)))
local macro_rules|`(tactic|sleep 239)=>`(tactic|(
 obtain⟨p,ys,rfl,hq,q⟩:=h
 obtain⟨u,rfl,rx⟩:=vals1 r
 cases rx))
local macro_rules|`(tactic|sleep 240)=>`(tactic|(
 have I2:Inv X pins σ H1 { s1 with heap:=h',toks:=s1.toks }:=I1.kept hk))
local macro_rules|`(tactic|sleep 241)=>`(tactic|(
 simp only[show ¬((i:Int)<0) by omega,if_false,gE,he]
 refine aq ?_))
local macro_rules|`(tactic|sleep 242)=>`(tactic|(
 obtain⟨p,a⟩:=x
 obtain⟨q,b⟩:=y))
local macro_rules|`(tactic|sleep 243)=>`(tactic|(
 intro us' p' H6 H7 s6 n7 ud
 exact q p' us' H6 H7 (Xc.trans s6) n7 ud))
local macro_rules|`(tactic|sleep 244)=>`(tactic|(
 exact⟨_,_,us,rs,rfl,s1,ha1,gC,skip⟩))
local macro_rules|`(tactic|sleep 245)=>`(tactic|(
 exact UI.extBut b o (Bl b hb) (I8.pin (b,o) (cA _ (cA _ (dZ hb e)))).1))
local macro_rules|`(tactic|sleep 246)=>`(tactic|(
 have all:∀t∈cR,(t.1=0\/t.1=1)/\0<=t.2/\t.2<8:=by decide))
local macro_rules|`(tactic|sleep 247)=>`(tactic|(
 exact gc PySem.W.kitx_dict I.wm ⟨o,h1,h2.1⟩ e (λz=>nomatch z) h))
local macro_rules|`(tactic|sleep 248)=>`(tactic|(
 cases rx
 obtain⟨u,rfl,ru⟩:=rv.one))
local macro_rules|`(tactic|sleep 249)=>`(tactic|(
 have hl:(putK kvs k v).length<=sizeLine:=by have:=lD kvs k v;omega))
local macro_rules|`(tactic|sleep 250)=>`(tactic|(
 simp only[k6]
 exact jG (by omega)))
local macro_rules|`(tactic|sleep 251)=>`(tactic|(
 rw[if_pos h2,if_pos h2]
 refine aq (aL ?_)
 rw[StateT.run_pure]))
local macro_rules|`(tactic|sleep 252)=>`(tactic|(
 intro x hx
 obtain⟨b,_,rfl⟩:=aF.mp hx
 simpa using e))
local macro_rules|`(tactic|sleep 253)=>`(tactic|(
 show wL _ (.bl true) H3
 walk_at "go"
 rename_i u H4 n4))
local macro_rules|`(tactic|sleep 254)=>`(tactic|(
 exact gc PySem.W.kitx_list I.wm ⟨_,h1,rfl⟩ e (λz=>nomatch z) h))
local macro_rules|`(tactic|sleep 255)=>`(tactic|(
 unfold d9
 dsimp only))
local macro_rules|`(tactic|sleep 256)=>`(tactic|(
 obtain⟨d,ep,kvs,L,rfl,_⟩:=h
 rfl))
local macro_rules|`(tactic|sleep 257)=>`(tactic|(
 have e':¬q.1=k:=λz=>e (h1.trans z)))
local macro_rules|`(tactic|sleep 258)=>`(tactic|(
 rw[decide_eq_false (by omega)] at h
 exact kat_yes (kat_nil h)))
local macro_rules|`(tactic|sleep 259)=>`(tactic|(
 cases h3
 exact .inr ⟨h2,h4⟩))
local macro_rules|`(tactic|sleep 260)=>`(tactic|(
 rintro i ys H' hi ⟨sm,ls,rfl,hl,hlb⟩
 have hi:i<3:=by omega))
local macro_rules|`(tactic|sleep 261)=>`(tactic|(
 refine aq (wpAny_setField ho hf (by simp) (aq (wpAny_holding ?_)))))
local macro_rules|`(tactic|sleep 262)=>`(tactic|(
 rw[next (by omega) (aA.mp w)]
 have eu:=stay rfl lf
 subst eu))
local macro_rules|`(tactic|sleep 263)=>`(tactic|(
 obtain⟨c,us,rs,n,rfl,_⟩:=h
 rfl))
local macro_rules|`(tactic|sleep 264)=>`(tactic|(
 sleep 16
 obtain⟨hd,hi⟩:=hg
 obtain⟨_,_,es,rd,hs,hat⟩:=I.raw hd
 sleep 50))
local macro_rules|`(tactic|sleep 265)=>`(tactic|(
 have ty:=I.ty
 obtain⟨ho,⟨ot,nt,AW,hdt⟩,oi,xY,hc,hf⟩:=I
 sleep 7
 sleep 106))
local macro_rules|`(tactic|sleep 266)=>`(tactic|(
 sleep 45
 walk_at "go"))
local macro_rules|`(tactic|sleep 267)=>`(tactic|(
 have ty:=I.ty
 obtain⟨ho,oi,sl,xY,hc,hf,hb⟩:=I
 sleep 7
 sleep 59))
set_option hygiene true
namespace L2
open PySem PySem.Spec PyProof.Rows
variable {x:Str}{u:Value}{H:Hp}{a b:Addr}{o:HO}{P:Program}{w:World}{h base:Heap}{t' i k n:Nat}{ch fp:List Addr}{N ps:List Str}{M:Model}{A:Around}{E:Value->Shared->Prop}{v:V}{Q:Unit->Shared->Prop}{X:Cx}{e c tg:Expr}{s:Shared}{pins:List (Addr×Obj)}{pos:Pos}{op:CmpOp}{t te:TE}{K:aD}{D:Ends}{g:TG}{body:List Stmt}{tb:TS}{xs:List V}{f:Value->Value->Sem Value}{r:R2}{us:List Value}{mg:Str->Option Value}{CX:EK}
abbrev Key:=Sum Int Str
def uP:Key->Value->Bool
 | .inl k,v=>Value.isInt k v
 | .inr x,v=>Value.isStrOf x v
def Y6(w:World):Key->Int
 | .inl k=>hashInt k
 | .inr x=>hashStr w x
theorem dS:∀{k:Key}{v:Value},uP k v=true->(∃i t,k=Sum.inl i/\v=Value.int i t)\/(∃x t,k=Sum.inr x/\v=Value.str x t)
 | .inl i,v,h=>by
  obtain⟨t,e⟩:=Value.isInt_shape (k:=i) (v:=v) h;exact .inl ⟨i,t,rfl,e⟩
 | .inr x,v,h=>by obtain⟨t,e⟩:=Value.isStrOf_shape (x:=x) (v:=v) h;exact .inr ⟨x,t,rfl,e⟩
def Et(i:Int)(t:Tok):uP (.inl i) (.int i t)=true:=by simp[uP,Value.isInt]
def Eu(x:Str)(t:Tok):uP (.inr x) (.str x t)=true:=by simp[uP,Value.isStrOf]
def Pf(a b:Int):decide ((Sum.inl a:Key)=Sum.inl b)=(a==b):=by
 by_cases e:a=b
 .subst e;simp
 .have h:¬(Sum.inl a:Key)=Sum.inl b:=λq=>e (Sum.inl.inj q);rw[decide_eq_false h];exact(beq_eq_false_iff_ne.mpr e).symm
def Pg(a b:Str):decide ((Sum.inr a:Key)=Sum.inr b)=decide (a=b):=by
 by_cases e:a=b
 .subst e;simp
 .have h:¬(Sum.inr a:Key)=Sum.inr b:=λq=>e (Sum.inr.inj q);rw[decide_eq_false h,decide_eq_false e]
def Ph(a:Int)(b:Str):decide ((Sum.inl a:Key)=Sum.inr b)=false:=decide_eq_false (λq=>nomatch q)
def Pj(a:Str)(b:Int):decide ((Sum.inr a:Key)=Sum.inl b)=false:=decide_eq_false (λq=>nomatch q)
def bK(prog:Program)(w:World):PySem.KeyKind prog w Key where
 is:=uP
 hash:=Y6 w
 inj:=λv a b ha hb=>by
  rcases dS ha with⟨i,t,rfl,rfl⟩|⟨x,t,rfl,rfl⟩
  .rcases dS hb with⟨j,u,rfl,e⟩|⟨y,u,rfl,e⟩
   .injection e with e1 _;rw[e1]
   .exact nomatch e
  .rcases dS hb with⟨j,u,rfl,e⟩|⟨y,u,rfl,e⟩
   .exact nomatch e
   .injection e with e1 _;rw[e1]
 byValue:=λk v h=>by rcases dS h with⟨i,t,rfl,rfl⟩|⟨x,t,rfl,rfl⟩<;>rfl
 pyHash:=λhv h=>by
  rcases dS hv with⟨i,t,rfl,rfl⟩|⟨x,t,rfl,rfl⟩
  .exact wpAny_pyHash_int h
  .exact wpAny_pyHash_str h
 eqBool:=λhu hv h=>by
  rcases dS hu with⟨i,t,rfl,rfl⟩|⟨x,t,rfl,rfl⟩
  .rcases dS hv with⟨j,u,rfl,rfl⟩|⟨y,u,rfl,rfl⟩
   .rw[Pf] at h;exact wpAny_eqBool_int h
   .rw[Ph] at h;exact SeqAt.EqAt.int_str i t y u _ _ _ _ h
  .rcases dS hv with⟨j,u,rfl,rfl⟩|⟨y,u,rfl,rfl⟩
   .rw[Pj] at h;exact SeqAt.EqAt.str_int x t j u _ _ _ _ h
   .rw[Pg] at h;exact wpAny_eqBool_str h
 «strs»:=λk x t v h=>by
  rcases dS h with⟨i,u,rfl,e⟩|⟨y,u,rfl,e⟩
  .exact nomatch e
  .injection e with e1 _;subst e1;cases v<;>rfl
def yd(prog:Program)(w:World)(i:Int)(t:Tok):(bK prog w).is (.inl i) (.int i t)=true:=Et i t
def lu(prog:Program)(w:World)(x:Str)(t:Tok):(bK prog w).is (.inr x) (.str x t)=true:=Eu x t
inductive V where
 | cX|bl (b:Bool)|int (i:Int)|str (x:Str) | Ew (b:Array UInt8) | S4 (b:UInt64)|ref (a:Addr)|ty (n:String)
 deriving DecidableEq
def RelV:V->Value->Prop
 | .cX,u=>u=Value.none
 | .bl b,u=>u=Value.bool b
 | .int i,u=>∃t,u=Value.int i t
 | .str x,u=>∃t,u=Value.str x t
 | .Ew b,u=>∃t,u=Value.bytes b t
 | .S4 b,u=>∃t,u=Value.float b t
 | .ref a,u=>u=Value.ref a
 | .ty n,u=>u=Value.type n
abbrev Vals:List V->List Value->Prop:=Paired RelV
theorem Vals.length{xs:List V}{us:List Value}(r:Vals xs us):xs.length=us.length:=g9 r
theorem Vals.get:∀{xs:List V}{us:List Value}{i:Nat}{x:V},Vals xs us->xs[i]?=some x->∃u,us[i]?=some u/\RelV x u
 | _,_,_,_,.nil,e=>by simp at e
 | _,_,0,_,.cons r _,e=>by simp at e;subst e;exact⟨_,rfl,r⟩
 | _,_,i+1,x,.cons _ t,e=>by obtain⟨u,h1,h2⟩:=Vals.get (i:=i) (x:=x) t (by simpa using e);exact⟨u,by simpa using h1,h2⟩
theorem Vals.set{x:V}(r:RelV x u):∀{xs:List V}{us:List Value}(i:Nat),Vals xs us->Vals (xs.set i x) (us.set i u)
 | _,_,_,.nil=>.nil
 | _,_,0,.cons _ t=>.cons r t
 | _,_,i+1,.cons q t=>.cons q (Vals.set r i t)
theorem Vals.append:∀{xs ys:List V}{us ws:List Value},Vals xs us->Vals ys ws->Vals (xs++ys) (us++ws)
 | _,_,_,_,.nil,s=>s
 | _,_,_,_,.cons r t,s=>.cons r (Vals.append t s)
theorem Vals.take:∀{xs:List V}{us:List Value}(n:Nat),Vals xs us->Vals (xs.take n) (us.take n)
 | _,_,0,_=>.nil
 | _,_,_+1,.nil=>.nil
 | _,_,n+1,.cons r t=>.cons r (Vals.take n t)
theorem Vals.drop:∀{xs:List V}{us:List Value}(n:Nat),Vals xs us->Vals (xs.drop n) (us.drop n)
 | _,_,0,r=>r
 | _,_,_+1,.nil=>.nil
 | _,_,n+1,.cons _ t=>Vals.drop n t
def ly:Option V->Option Value->Prop
 | some v,some u=>RelV v u
 | none,none=>True
 | _,_=>False
def KV{κ:Type}:List (κ×V)->List (κ×Value)->Prop:=Paired λ(p:κ×V)(q:κ×Value)=>p.1=q.1/\RelV p.2 q.2
def kV:Key->V
 | .inl i=>.int i
 | .inr x=>.str x
inductive HO where
 | lst (xs:List V)
 | tup (xs:List V)
 | dK (kvs:List (Key×V))|dT (kvs:List (List Key×V))
 | set (S:Int->Bool) (n:Nat)
 | ins (C dx:Addr) (fs:List (Str×V))
 | own (x:Addr)
 | xd (fs:List (Str×V))
 | met (f x:Addr)
 | Y7 (lo hi:Int)
 | Cy (o:Obj) (u:HO)
 | Pk (ps:Array Value)
 | ext (φ:Heap->Prop)
abbrev Hp:=Addr->Option HO
def upd(H:Hp)(a:Addr)(o:HO):Hp:=λb=>if b=a then some o else H b
def jU:upd H a o a=some o:=by unfold upd;rw[if_pos rfl]
def ck(h:b≠a):upd H a o b=H b:=by unfold upd;rw[if_neg h]
def rW{H:Hp}{o u:HO}(h:H a=some o)(h':H b=some u)(d:o≠u):a≠b:=by intro e;subst e;rw[h] at h';exact d (Option.some.inj h')
def aW{H:Hp}{o:HO}(h:H a=some o)(h':H b=none):a≠b:=by intro e;subst e;rw[h] at h';cases h'
section
variable (P:Program)(w:World)
def cZ(H:Hp)(h:Heap)(a:Addr):HO->Prop
 | .lst xs=>xs.length<=sizeLine/\∃(its:List Value)(n:Nat),Vals xs its/\h.get? a=some { cls:=.type "list", data:=.seq its.toArray n }
 | .tup xs=>xs.length<=sizeLine/\∃its:List Value,Vals xs its/\IsTup h a its.toArray
 | .dK kvs=>kvs.length<=sizeLine/\(a==sysModules)=false/\∃vs,KV kvs vs/\h.DictOf (bK P w) a vs
 | .dT kvs=>kvs.length<=sizeLine/\(a==sysModules)=false/\∃xs:List (List Key×Addr×Value),
   Paired (λ(p:List Key×V)(q:List Key×Addr×Value)=>p.1=q.1/\H q.2.1=some (.tup (p.1.map kV))/\RelV p.2 q.2.2) kvs xs /\
   ∃o es ep,h.get? a=some o/\o.ExactDict/\o.data=.dict es ep/\es.toList=xs.map (entryOfKey (tupleKind (bK P w)))/\(xs.map (·.1)).Nodup
 | .set S n=>h.SetOf (intKind P w) a S n
 | .ins C dx fs=>H dx=some (.own a)/\fs.length<=1000/\dx≠a/\h.get? a=some (PySem.W.instObj C dx) /\
   ∃mA,h.Ns1 dx mA/\(∀f,ly (fs.lookup f) (mA f))/\PySem.Within mA (fs.map (·.1))
 | .own _=>∃o,h.get? a=some o
 | .xd fs=>∃mA,h.Ns1 a mA/\∀f,ly (fs.lookup f) (mA f)
 | .Y7 lo hi=>∃t u v,h.get? a=some { cls:=.type "range", data:=.fields #[.int lo t,.int hi u,.int 1 v] }
 | .Cy o u=>h.get? a=some o/\cZ H h a u
 | .Pk ps=>h.get? a=some { cls:=.none,data:=.fields ps }
 | .met f x=>h.get? a=some (PySem.W.methodObj (.ref f) (.ref x))
 | .ext φ=>φ h/\(∃o,h.get? a=some o)/\∀h1 h2:Heap,φ h1->(∀o,h1.get? a=some o->h2.get? a=some o)->φ h2
def m9(H:Hp)(h:Heap):Prop:=∀a o,H a=some o->cZ P w H h a o
end
section
variable {P:Program}{w:World}{H H':Hp}{h h':Heap}{a:Addr}{o:HO}
theorem cZ.lt(x:cZ P w H h a o):a<h.objs.size:=by
 cases o with
 | lst xs=>obtain⟨_,_,_,_,e⟩:=x;exact aK e
 | tup xs=>obtain⟨_,_,_,p⟩:=x;exact p.lt
 | dK kvs=>obtain⟨_,_,_,_,o,_,_,e,_⟩:=x;exact aK e
 | dT kvs=>obtain⟨_,_,_,_,o,_,_,e,_⟩:=x;exact aK e
 | set S n=>obtain⟨o,_,_,_,e,_⟩:=x;exact aK e
 | ins C dx fs=>obtain⟨_,_,_,e,_⟩:=x;exact aK e
 | own y=>obtain⟨_,e⟩:=x;exact aK e
 | xd fs=>obtain⟨_,⟨_,_,_,e,_⟩,_⟩:=x;exact aK e
 | Y7 lo hi=>obtain⟨_,_,_,e⟩:=x;exact aK e
 | Cy ob u=>obtain⟨e,_⟩:=x;exact aK e
 | Pk ps=>exact aK (show h.get? a=some _ from x)
 | met f y=>exact aK (show h.get? a=some _ from x)
 | ext φ=>obtain⟨_,⟨_,e⟩,_⟩:=x;exact aK e
theorem Paired.Ex{α β:Type}{F G:α->β->Prop}:∀{l₁:List α}{l₂:List β},Paired F l₁ l₂->(∀a b,F a b->G a b)->Paired G l₁ l₂
 | _,_,.nil,_=>.nil
 | _,_,.cons r t,f=>.cons (f _ _ r) (Paired.Ex t f)
def cZ.stay(x:cZ P w H h a o)(k:∀b u,(b=a\/H b=some (.own a))->h.get? b=some u->h'.get? b=some u)
  (ho:∀b,H b=some (.own a)->H' b=some (.own a))(ht:∀b xs,H b=some (.tup xs)->H' b=some (.tup xs)):cZ P w H' h' a o:=by
 induction o with
 | lst xs=>obtain⟨z,its,n,r,e⟩:=x;exact⟨z,its,n,r,k _ _ (.inl rfl) e⟩
 | tup xs=>obtain⟨z,its,r,ob,e,c⟩:=x;exact⟨z,its,r,ob,k _ _ (.inl rfl) e,c⟩
 | dK kvs=>obtain⟨z,y,vs,r,ob,es,ep,e,c⟩:=x;exact⟨z,y,vs,r,ob,es,ep,k _ _ (.inl rfl) e,c⟩
 | dT kvs =>
  obtain⟨z,y,xs,r,ob,es,ep,e,c⟩:=x;exact⟨z,y,xs,Paired.Ex r λp q z=>⟨z.1,ht _ _ z.2.1,z.2.2⟩,ob,es,ep,k _ _ (.inl rfl) e,c⟩
 | set S n=>obtain⟨ob,es,ep,t,e,c⟩:=x;exact⟨ob,es,ep,t,k _ _ (.inl rfl) e,c⟩
 | ins C dx fs =>
  obtain⟨d,z,ne,e,mA,⟨od,es,ep,e2,c⟩,r⟩:=x;exact⟨ho _ d,z,ne,k _ _ (.inl rfl) e,mA,⟨od,es,ep,k _ _ (.inr d) e2,c⟩,r⟩
 | own y=>obtain⟨ob,e⟩:=x;exact⟨ob,k _ _ (.inl rfl) e⟩
 | xd fs=>obtain⟨mA,⟨od,es,ep,e,c⟩,r⟩:=x;exact⟨mA,⟨od,es,ep,k _ _ (.inl rfl) e,c⟩,r⟩
 | Y7 lo hi=>obtain⟨t,u,v,e⟩:=x;exact⟨t,u,v,k _ _ (.inl rfl) e⟩
 | Cy ob u ih=>obtain⟨e,q⟩:=x;exact⟨k _ _ (.inl rfl) e,ih q⟩
 | Pk ps =>
  have e:h.get? a=some { cls:=.none,data:=.fields ps }:=x;show h'.get? a=some { cls:=.none,data:=.fields ps };exact k a _ (.inl rfl) e
 | met f y =>
  have e:h.get? a=some (PySem.W.methodObj (.ref f) (.ref y)):=x;show h'.get? a=some (PySem.W.methodObj (.ref f) (.ref y));exact k a _ (.inl rfl) e
 | ext φ=>obtain⟨p,⟨o,e⟩,st⟩:=x;exact⟨st _ _ p λo q=>k _ _ (.inl rfl) q,⟨o,k _ _ (.inl rfl) e⟩,st⟩
theorem m9.lt(x:m9 P w H h)(e:H a=some o):a<h.objs.size:=(x a o e).lt
def m9.fresh(x:m9 P w H h)(e:h.objs.size<=a):H a=none:=by
 cases q:H a with
 | none=>rfl
 | some u=>exact absurd (bT (x.lt q) e) (fY _)
def m9.kept(x:m9 P w H h)(k:∀b u,h.get? b=some u->h'.get? b=some u):m9 P w H h':=λa o e =>
 (x a o e).stay (λb u _ q=>k b u q) (λ_ q=>q) λ_ _ q=>q
def m9.laid(x:m9 P w H h)(k:∀b u,h.get? b=some u->h'.get? b=some u)(hp:h.objs.size<=a)(new:cZ P w (upd H a o) h' a o):m9 P w (upd H a o) h':=λb u e=>by
 have hn:=x.fresh hp;by_cases hb:b=a
 .subst hb;rw[jU] at e;cases e;exact new
 .rw[ck hb] at e;exact(x b u e).stay (λc v _ q=>k c v q) (λc q=>by rw[ck (aW q hn)];exact q) λc xs q=>by rw[ck (aW q hn)];exact q
end
def Rd(H:Hp)(a:Addr)(u:HO):Prop:=H a=some u\/∃o,H a=some (.Cy o u)
def Rd.of{u:HO}(h:H a=some u):Rd H a u:=.inl h
def Rd.ok{u:HO}(r:Rd H a u)(x:m9 P w H h):cZ P w H h a u:=by
 rcases r with r|⟨o,r⟩
 .exact x a u r
 .obtain⟨_,q⟩:=x a _ r;exact q
def TF:Option HO->Prop
 | some (.lst _)=>True
 | some (.dK _)=>True
 | some (.dT _)=>True
 | some (.set _ _)=>True
 | some (.ins _ _ _)=>True
 | some (.ext _)=>True
 | _=>False
section
variable {P:Program}{w:World}{H:Hp}{h h':Heap}{x e:Addr}{o':HO}
def m9.write(ok:m9 P w H h)(mu:TF (H x))(he:e=x\/H e=some (.own x))(k:∀b u,b≠e->h.get? b=some u->h'.get? b=some u)(S5:∃u,h'.get? e=some u)
  (new:cZ P w (upd H x o') h' x o'):m9 P w (upd H x o') h':=λb u q=>by
 have TH:∀c y,H c=some (.own y)->c≠x:=λc y r z=>by subst z;rw[r] at mu;exact mu
 have Y8:∀c xs,H c=some (.tup xs)->c≠x:=λc xs r z=>by subst z;rw[r] at mu;exact mu
 by_cases hb:b=x
 .subst hb;rw[jU] at q;cases q;exact new
 .rw[ck hb] at q;by_cases Pn:b=e
  .have q':H b=some (.own x):=by
    rcases he with z|z
    .exact absurd (Pn.trans z) hb
    .rw[Pn];exact z
   rw[q] at q';cases q';obtain⟨v,hv⟩:=S5;exact⟨v,by rw[Pn];exact hv⟩
  .refine(ok b u q).stay (λc v hc r=>k c v ?_ r) (λc r=>by rw[ck (TH c b r)];exact r) λc xs r=>by rw[ck (Y8 c xs r)];exact r
   rcases hc with rfl|hc
   .exact Pn
   .rintro rfl;rcases he with z|z
    .exact TH c b hc z
    .rw[hc] at z;cases z;exact hb rfl
end
structure Un (fs ex:List Addr) (H H':Hp) (h h':Heap):Prop where
 keep:∀b o,h.get? b=some o->H b=none->b∉fs->b∉ex->h'.get? b=some o
 slot:∀b o,h.get? b=some o->H b=none->b∈fs->b∉ex->∃sl,h'.get? b=some { o with slots:=sl }
 free:∀b o,h.get? b=some o->H b=none->b∉ex->H' b=none
 there:∀b o,h.get? b=some o->b∉ex->∃o',h'.get? b=some o'
 tups:∀b xs,H b=some (.tup xs)->H' b=some (.tup xs)
 pJ:∀b o u,H b=some (.Cy o u)->H' b=some (.Cy o u)
 qA:∀b ps,H b=some (.Pk ps)->∃more,H' b=some (.Pk (ps++more))
section
variable {fs fs' ex ex':List Addr}{H H1 H2:Hp}{h h1 h2 h':Heap}{a x e:Addr}{o:HO}
def Un.any(u:Un fs ex H H1 h h1){ob:Obj}(q:h.get? b=some ob)(n:H b=none)(hx:b∉ex):∃sl,h1.get? b=some { ob with slots:=sl }:=by
 by_cases hb:b∈fs
 .exact u.slot b ob q n hb hx
 .exact⟨ob.slots,u.keep b ob q n hb hx⟩
def Un.trans(a:Un fs ex H H1 h h1)(b:Un fs ex H1 H2 h1 h2):Un fs ex H H2 h h2 where
 keep:=λc ob q n hc hx=>b.keep c ob (a.keep c ob q n hc hx) (a.free c ob q n hx) hc hx
 slot:=λc ob q n hc hx=>by obtain⟨sl,e1⟩:=a.slot c ob q n hc hx;obtain⟨Gw,e2⟩:=b.slot c _ e1 (a.free c ob q n hx) hc hx;exact⟨Gw,e2⟩
 free:=λc ob q n hx=>by obtain⟨o',e1⟩:=a.there c ob q hx;exact b.free c o' e1 (a.free c ob q n hx) hx
 there:=λc ob q hx=>by obtain⟨o',e1⟩:=a.there c ob q hx;exact b.there c o' e1 hx
 tups:=λc xs q=>b.tups c xs (a.tups c xs q)
 pJ:=λc ob xs q=>b.pJ c ob xs (a.pJ c ob xs q)
 qA:=λc ps q=>by obtain⟨m1,e1⟩:=a.qA c ps q;obtain⟨m2,e2⟩:=b.qA c _ e1;exact⟨m1++m2,by rw[e2,Array.append_assoc]⟩
def Un.kept(k:∀b u,h.get? b=some u->h'.get? b=some u):Un fs ex H H h h' :=
 ⟨λb ob q _ _ _=>k b ob q,λb ob q _ _ _=>⟨ob.slots,k b ob q⟩,λ_ _ _ n _=>n,λb ob q _=>⟨ob,k b ob q⟩,λ_ _ q=>q,λ_ _ _ q=>q,λ_ ps q=>⟨#[],by rw[q];simp⟩⟩
def Un.refl:Un fs ex H H h h:=Un.kept λ_ _ q=>q
def Un.laid(k:∀b u,h.get? b=some u->h'.get? b=some u)(hp:h.objs.size<=a)(hn:H a=none):Un fs ex H (upd H a o) h h' where
 keep:=λb u q _ _ _=>k b u q
 slot:=λb u q _ _ _=>⟨u.slots,k b u q⟩
 free:=λb u q n _=>by rw[ck (aQ (bT (aK q) hp))];exact n
 there:=λb u q _=>⟨u,k b u q⟩
 tups:=λb xs q=>by rw[ck (aW q hn)];exact q
 pJ:=λb u xs q=>by rw[ck (aW q hn)];exact q
 qA:=λb ps q=>⟨#[],by rw[ck (aW q hn),q];simp⟩
def Un.write(mu:TF (H x))(he:e=x\/H e=some (.own x))(k:∀b u,b≠e->h.get? b=some u->h'.get? b=some u)(S5:∃u,h'.get? e=some u):Un fs ex H (upd H x o) h h':=by
 have hx:∀b,H b=none->b≠x:=λb n z=>by subst z;rw[n] at mu;exact mu
 have hb:∀b,H b=none->b≠e:=λb n z=>by
  subst z;rcases he with r|r
  .exact hx b n r
  .rw[n] at r;cases r
 have hm:∀b u,H b=some u->¬TF (some u)->b≠x:=λb u q nm z=>by subst z;rw[q] at mu;exact nm mu
 refine⟨λb u q n _ _=>k b u (hb b n) q,λb u q n _ _=>⟨u.slots,k b u (hb b n) q⟩,λb u q n _=>by rw[ck (hx b n)];exact n,λb u q _=>?_,
  λb xs q=>by rw[ck (hm b _ q λz=>z)];exact q,λb u xs q=>by rw[ck (hm b _ q λz=>z)];exact q,λb ps q=>⟨#[],by rw[ck (hm b _ q λz=>z),q];simp⟩⟩
 by_cases Pn:b=e
 .subst Pn;exact S5
 .exact⟨u,k b u Pn q⟩
def Un.mono(u:Un fs ex H H1 h h1)(hs:∀b∈fs,b∈fs')(hx:∀b∈ex,b∈ex'):Un fs' ex' H H1 h h1 :=
 ⟨λb ob q n hb he=>u.keep b ob q n (λz=>hb (hs b z)) λz=>he (hx b z),λ_ _ q n _ he=>u.any q n λz=>he (hx _ z),λb ob q n he=>u.free b ob q n λz=>he (hx b z),λb ob q he=>u.there b ob q λz=>he (hx b z),u.tups,u.pJ,u.qA⟩
end
def XC(h:Heap)(H:Hp):List Addr:=(List.range h.objs.size).filter λa=>(H a).isSome
def wk(h:Heap)(H:Hp):Heap:=PySem.W.hideAll h (XC h H)
def Ey(h:Heap)(H:Hp):(wk h H).objs.size=h.objs.size:=PySem.W.hideAll_size _ _
def GB{o:Obj}(e:h.get? b=some o)(n:H b=none):(wk h H).get? b=some o :=
 PySem.W.hideAll_get _ e λhm=>by have q:(H b).isSome=true:=(dJ.mp hm).2;rw[n] at q;simp at q
def Lc{o:Obj}(e:(wk h H).get? b=some o):h.get? b=some o/\H b=none:=by
 have e':h.get? b=some o:=PySem.W.of_hideAll (XC h H) e;refine⟨e',?_⟩;cases q:H b with
 | none=>rfl
 | some x =>
  have hm:b∈XC h H:=dJ.mpr ⟨fW.mpr (aK e'),by simp[q]⟩;have z:(wk h H).get? b=none:=PySem.W.hideAll_none (XC h H) hm;rw[z] at e;cases e
def Ld(g h:Heap)(L:Addr):List (Addr×Obj):=(List.range h.objs.size).filterMap λa=>if a=L\/(g.get? a).isSome=true then none else(h.get? a).map λo=>(a,o)
def rest(g h:Heap)(L d:Addr):List (Addr×Obj):=(Ld g h L).filter λp=>decide (p.1≠d)
structure Mod (K:aD) (mg:Str->Option Value) (base:Heap):Prop where
 TJ:K.In base
 glob:base.Ns mainGlobals mg
 blt:∃mb,base.Ns builtinsNs mb/\∀x:Str,x ≠ "__name__" -> mb x=bootBuiltins x
 nolimit:base.NoLimit
structure Cx where
 prog:Program
 w:World
 K:aD
 mg:Str->Option Value
 base:Heap
 A:Around
 N:List Str
 s₀:Shared
 H₀:Hp
 env:Env
 outer:List Env
 stack:List Env
 ex:List Addr
 fn:Str->Bool
 calm:Bool
 pn:List (Addr×Obj)
 xe:Value->Shared->Prop
def frs(l:List Env):List Addr:=l.filterMap (·.frame)
abbrev Cx.fs(X:Cx):List Addr:=frs X.outer
def XD(sc:Scope)(x:Str):Prop:=sc.names.lookup x=some .local\/sc.names.lookup x=some .cell\/sc.names.lookup x=some .free
def Loc(sc:Scope)(x:Str):Prop:=sc.names.lookup x=some .local\/sc.names.lookup x=some .cell
def Look(env:Env)(h:Heap)(m:Str->Option Value)(x:Str)(u:Value):Prop :=
 (env.kindOf x=some .local/\m x=some u)\/((env.kindOf x=some .cell\/env.kindOf x=some .free)/\∃c,env.cells.lookup x=some c/\h.IsCell c (some u))
structure Cx.Ok (X:Cx):Prop where
 mod:Mod X.K X.mg X.base
 kind:X.env.scope.kind=.function
 glob:X.env.globals=mainGlobals
 blt:X.env.builtins=builtinsNs
 above:X.s₀.heap.objs.size<=X.env.locals
 inj:∀x y c,X.env.cells.lookup x=some c->X.env.cells.lookup y=some c->x=y
 has:∀x,(X.env.kindOf x=some .cell\/X.env.kindOf x=some .free)->∃c,X.env.cells.lookup x=some c
 TL:∀x c,X.fn x=true->X.env.cells.lookup x=some c->X.s₀.heap.objs.size<=c
 hd:X.calm=true->X.A.handled=none
 frames:X.A.frames=some X.stack
 stk:X.stack=X.outer\/(X.stack=X.env::X.outer/\X.env.frame=some X.env.locals)
 exf:∀b∈X.ex,b≠X.env.locals/\∀x c,X.env.cells.lookup x=some c->c≠b
 bs:∀b o,X.base.get? b=some o->X.s₀.heap.get? b=some o/\X.H₀ b=none
 KR:X.base.objs.size<=X.s₀.heap.objs.size
 Ez:∀b o,X.base.get? b=some o->b∉X.ex
 EA:∀b∈X.ex,b∉X.fs
 qB:X.s₀.heap.FunFrames X.base X.outer
 Po:∀b∈X.fs,X.H₀ b=none
structure Inv (X:Cx) (pins:List (Addr×Obj)) (σ:List (Option V)) (H:Hp) (s:Shared):Prop where
 ok:X.Ok
 os:s.os=X.s₀.os
 bare:AllBare s.gens
 base:Un X.fs X.ex X.H₀ H X.s₀.heap s.heap
 loc:∃m,s.heap.Ns X.env.locals m/\∀(i:Nat)(x:Str)(v:V),X.N[i]?=some x->σ[i]?=some (some v)->XD X.env.scope x->∃u,RelV v u/\Look X.env s.heap m x u
 cell:∀x c,X.env.cells.lookup x=some c->∃v,s.heap.IsCell c v
 free:H X.env.locals=none
 kO:∀x c,X.env.cells.lookup x=some c->H c=none
 pin:∀p∈X.pn++pins,s.heap.get? p.1=some p.2/\H p.1=none/\p.1≠X.env.locals/\p.1∉X.fs/\∀v,p.2.data≠.cell v
 hok:m9 X.prog X.w H s.heap
 len:σ.length=X.N.length
section
variable {X:Cx}{pins:List (Addr×Obj)}{σ:List (Option V)}{H H':Hp}{s:Shared}{h':Heap}
def Cx.Ok.Y9(ok:X.Ok){o:Obj}(e:X.base.get? b=some o):b∉X.fs:=λhb=>by have:=(ok.qB.mem hb).1;rw[e] at this;cases this
theorem Inv.bs(I:Inv X pins σ H s):∀b o,X.base.get? b=some o->s.heap.get? b=some o/\H b=none:=λb o e =>
 ⟨I.base.keep b o (I.ok.bs b o e).1 (I.ok.bs b o e).2 (I.ok.Y9 e) (I.ok.Ez b o e),I.base.free b o (I.ok.bs b o e).1 (I.ok.bs b o e).2 (I.ok.Ez b o e)⟩
def Inv.bk(I:Inv X pins σ H s):∀b o,X.base.get? b=some o->s.heap.get? b=some o:=λb o e=>(I.bs b o e).1
theorem Inv.mod(I:Inv X pins σ H s):Mod X.K X.mg X.base:=I.ok.mod
def Inv.wm(I:Inv X pins σ H s):X.K.In s.heap:=I.ok.mod.TJ.keeps I.bk
theorem Inv.nolimit(I:Inv X pins σ H s):s.heap.NoLimit:=I.ok.mod.nolimit.keeps I.bk
def Inv.fr(I:Inv X pins σ H s):∃m,Fr X.base X.env.locals s.heap m :=
 let⟨m,hn,_⟩:=I.loc
 ⟨m,hn,I.bk,bJ I.ok.KR I.ok.above⟩
theorem Inv.lt(I:Inv X pins σ H s):X.env.locals<s.heap.objs.size:=let⟨_,hn,_⟩:=I.loc;hn.lt
def Inv.sz(I:Inv X pins σ H s):X.s₀.heap.objs.size<=s.heap.objs.size:=bJ I.ok.above (jJ I.lt)
def Inv.Pp(I:Inv X pins σ H s)(h:s.heap.objs.size<=a):a∉X.fs:=λhb=>by obtain⟨_,o,ho,_⟩:=I.ok.qB.mem hb;exact absurd (bT (aK ho) (bJ I.sz h)) (fY _)
def Inv.Pq(I:Inv X pins σ H s):∀x c,X.env.cells.lookup x=some c->c≠X.env.locals:=λx c e z=>by obtain⟨v,o,ho,hd⟩:=I.cell x c e;obtain⟨m,⟨o',es,ep,ho',hd',_⟩,_⟩:=I.loc;rw[z,ho'] at ho;cases ho;rw[hd'] at hd;cases hd
theorem Inv.qB(I:Inv X pins σ H s):s.heap.FunFrames X.base X.outer:=by
 have all:∀(l:List Env),(∀b∈frs l,b∈X.fs)->X.s₀.heap.FunFrames X.base l->s.heap.FunFrames X.base l:=by
  intro l;induction l with
  | nil=>intro _ _;trivial
  | cons env r ih =>
   intro hs hl;obtain⟨hk,⟨L,o,hf,hn,ho,hd⟩,hr⟩:=hl;have hL:L∈X.fs:=hs L (by unfold frs;rw[List.filterMap_cons,hf];exact i8);obtain⟨sl,e⟩:=I.base.slot L o ho (I.ok.Po L hL) hL λz=>I.ok.EA L z hL;exact⟨hk,⟨L,_,hf,hn,e,hd⟩,ih (λb hb=>hs b (by unfold frs;rw[List.filterMap_cons,hf];exact c9 _ hb)) hr⟩
 exact all X.outer (λ_ hb=>hb) I.ok.qB
theorem Inv.stack(I:Inv X pins σ H s):s.heap.FunFrames X.base X.stack:=by
 rcases I.ok.stk with e|⟨e,hf⟩
 .rw[e];exact I.qB
 .rw[e];obtain⟨m,hn,_⟩:=I.loc;refine .cons (by rw[I.ok.kind];decide) hf hn ?_ I.qB;exact Heap.get?_none_of_le (bJ I.ok.KR I.ok.above)
def Inv.wo(I:Inv X pins σ H s):∀b∈frs X.stack,b∈X.env.locals::X.fs:=λb hb=>by
 rcases I.ok.stk with e|⟨e,hf⟩
 .rw[e] at hb;exact c9 _ hb
 .rw[e] at hb;unfold frs at hb;rw[List.filterMap_cons,hf] at hb;exact hb
def Inv.wu(I:Inv X pins σ H s):∀b∈frs X.stack,H b=none:=λb hb=>by
 rcases aI.mp (I.wo b hb) with e|hb
 .rw[e];exact I.free
 .obtain⟨_,o,ho,_⟩:=I.ok.qB.mem hb;exact I.base.free b o ho (I.ok.Po b hb) λz=>I.ok.EA b z hb
def Inv.step{g':Array GenState}{d':Drawn}(I:Inv X pins σ H s)
  (hch:∀b∈ch,(b∈X.ex\/X.s₀.heap.objs.size<=b)/\b≠X.env.locals/\(∀x c,X.env.cells.lookup x=some c->c≠b)/\∀p∈X.pn++pins,p.1≠b)
  (keep:∀b o,b≠X.env.locals->b∉X.fs->b∉ch->s.heap.get? b=some o->H b=none->h'.get? b=some o)
  (slot:∀b o,b≠X.env.locals->b∈X.fs->b∉ch->s.heap.get? b=some o->H b=none->∃sl,h'.get? b=some { o with slots:=sl })(free:∀b o,b∉ch->s.heap.get? b=some o->H b=none->H' b=none)
  (there:∀b o,b∉ch->s.heap.get? b=some o->∃o',h'.get? b=some o')
  (tups:∀b xs,H b=some (.tup xs)->H' b=some (.tup xs))(pJ:∀b o u,H b=some (.Cy o u)->H' b=some (.Cy o u))(qA:∀b ps,H b=some (.Pk ps)->∃more,H' b=some (.Pk (ps++more)))
  (ns:∀m,s.heap.Ns X.env.locals m->h'.Ns X.env.locals m)(hok:m9 X.prog X.w H' h')(hg:AllBare g'):
  Inv X pins σ H' { s with heap:=h',gens:=g',drawn:=d',toks:=t' }:=by
 have neL:∀b o,X.s₀.heap.get? b=some o->b≠X.env.locals:=λb o e=>aQ (bT (aK e) I.ok.above);have XE:∀b o,X.s₀.heap.get? b=some o->b∉X.ex->b∉ch:=λb o e hx hb=>by
  rcases(hch b hb).1 with z|z
  .exact hx z
  .exact absurd (bT (aK e) z) (fY _)
 have cellK:∀x c,X.env.cells.lookup x=some c->∀v,s.heap.IsCell c v->h'.IsCell c v:=λx c e v ⟨o,ho,hd⟩=>by
  have TM:c∉ch:=λz=>(hch c z).2.2.1 x c e rfl;by_cases hc:c∈X.fs
  .obtain⟨sl,q⟩:=slot c o (I.Pq x c e) hc TM ho (I.kO x c e);exact⟨_,q,hd⟩
  .exact⟨o,keep c o (I.Pq x c e) hc TM ho (I.kO x c e),hd⟩
 refine⟨I.ok,I.os,hg,⟨λb o e n hb hx=>?_,λb o e n hb hx=>?_,λb o e n hx=>?_,λb o e hx=>?_,λb xs e=>tups b xs (I.base.tups b xs e),λb o xs e=>pJ b o xs (I.base.pJ b o xs e),λb ps e=>?_⟩,?_,λx c e=>?_,?_,λx c e=>?_,λp hp=>?_,hok,I.len⟩
 .exact keep b o (neL b o e) hb (XE b o e hx) (I.base.keep b o e n hb hx) (I.base.free b o e n hx)
 .sleep 205;obtain⟨Gw,e2⟩:=slot b _ (neL b o e) hb (XE b o e hx) e1 (I.base.free b o e n hx);exact⟨Gw,e2⟩
 .sleep 166;exact free b o' (XE b o e hx) e1 (I.base.free b o e n hx)
 .sleep 166;exact there b o' (XE b o e hx) e1
 .obtain⟨m1,e1⟩:=I.base.qA b ps e;obtain⟨m2,e2⟩:=qA b _ e1;exact⟨m1++m2,by rw[e2,Array.append_assoc]⟩
 .obtain⟨m,hn,hl⟩:=I.loc;refine⟨m,ns m hn,λi x v e1 e2 e3=>?_⟩;obtain⟨u,r,l⟩:=hl i x v e1 e2 e3;refine⟨u,r,?_⟩;rcases l with l|⟨k,c,e,z⟩
  .exact .inl l
  .exact .inr ⟨k,c,e,cellK x c e _ z⟩
 .obtain⟨v,z⟩:=I.cell x c e;exact⟨v,cellK x c e v z⟩
 .obtain⟨m,⟨o,_,_,ho,_⟩,_⟩:=I.loc;exact free _ o (λz=>(hch _ z).2.1 rfl) ho I.free
 .obtain⟨v,o,ho,hd⟩:=I.cell x c e;exact free c o (λz=>(hch c z).2.2.1 x c e rfl) ho (I.kO x c e)
 .obtain⟨e,n,ne,nf,d⟩:=I.pin p hp;have TM:p.1∉ch:=λz=>(hch p.1 z).2.2.2 p hp rfl;exact⟨keep p.1 p.2 ne nf TM e n,free p.1 p.2 TM e n,ne,nf,d⟩
def Inv.un(I:Inv X pins σ H s)(u:Un X.fs [] H H' s.heap h')(hok:m9 X.prog X.w H' h'):Inv X pins σ H' { s with heap:=h',toks:=t' }:=by
 obtain⟨m,⟨o,es,ep,ho,r⟩,_⟩:=id I.loc;obtain⟨sl,hL⟩:=u.any ho I.free (by simp);exact I.step (g':=s.gens) (d':=s.drawn) (ch:=[]) (λ_ z=>nomatch z) (λb o _ hb _ e n=>u.keep b o e n hb (by simp)) (λb o _ hb _ e n=>u.slot b o e n hb (by simp)) (λb o _ e n=>u.free b o e n (by simp)) (λb o _ e=>u.there b o e (by simp)) u.tups u.pJ u.qA (λm' hm=>by
  obtain⟨o',es',qi,ho',r'⟩:=hm;rw[ho] at ho';cases ho';exact⟨_,es',qi,hL,r'⟩) hok I.bare
def Inv.call{g':Array GenState}{d':Drawn}(I:Inv X pins σ H s)(u:Un (frs X.stack) ch H H' s.heap h')(hok:m9 X.prog X.w H' h')(hg:AllBare g')
  (hch:∀b∈ch,(b∈X.ex\/X.s₀.heap.objs.size<=b)/\b≠X.env.locals/\(∀x c,X.env.cells.lookup x=some c->c≠b)/\∀p∈X.pn++pins,p.1≠b):
  Inv X pins σ H' { s with heap:=h',gens:=g',drawn:=d',toks:=t' }:=by
 obtain⟨m,⟨o,es,ep,ho,r⟩,_⟩:=id I.loc;obtain⟨sl,hL⟩:=u.any ho I.free λz=>(hch _ z).2.1 rfl;exact I.step (ch:=ch) hch (λb o hL hb hc e n=>u.keep b o e n (λz=>(aI.mp (I.wo b z)).elim hL hb) hc) (λb o _ _ hc e n=>u.any e n hc) (λb o hc e n=>u.free b o e n hc) (λb o hc e=>u.there b o e hc) u.tups u.pJ u.qA (λm' hm=>by
  obtain⟨o',es',qi,ho',r'⟩:=hm;rw[ho] at ho';cases ho';exact⟨_,es',qi,hL,r'⟩) hok hg
def Inv.turned{it:Addr}(I:Inv X pins σ H s)(k:∀b o,b≠it->s.heap.get? b=some o->h'.get? b=some o)(hn:H it=none)(hL:it≠X.env.locals)
  (h1:it∈X.ex\/X.s₀.heap.objs.size<=it)(h2:∀x c,X.env.cells.lookup x=some c->c≠it)(h3:∀p∈X.pn++pins,p.1≠it):Inv X pins σ H { s with heap:=h',toks:=t' }:=by
 have TN:∀b u,H b=some u->b≠it:=λb u e z=>by rw[z,hn] at e;cases e
 refine I.step (g':=s.gens) (d':=s.drawn) (ch:=[it]) (λb hb=>?_) (λb o _ _ hc e _=>k b o (λz=>hc (by simp[z])) e) (λb o _ _ hc e _=>⟨o.slots,k b o (λz=>hc (by simp[z])) e⟩) (λ_ _ _ _ n=>n)
  (λb o hc e=>⟨o,k b o (λz=>hc (by simp[z])) e⟩) (λ_ _ e=>e) (λ_ _ _ e=>e) (λb ps e=>⟨#[],by rw[e];simp⟩) (λm hm=>?_) (λb u e=>?_) I.bare
 .sleep 130;exact⟨h1,hL,h2,h3⟩
 .obtain⟨o,es,ep,ho,r⟩:=hm;exact⟨o,es,ep,k _ o (bu hL) ho,r⟩
 .sleep 118
def Inv.tok(I:Inv X pins σ H s)(t:Nat):Inv X pins σ H { s with toks:=t }:=I.un (h':=s.heap) (t':=t) Un.refl I.hok
theorem Inv.kept(I:Inv X pins σ H s)(k:∀b u,s.heap.get? b=some u->h'.get? b=some u):Inv X pins σ H { s with heap:=h',toks:=t' }:=I.un (Un.kept k) (I.hok.kept k)
theorem Inv.laid(I:Inv X pins σ H s)(k:∀b u,s.heap.get? b=some u->h'.get? b=some u)(hp:s.heap.objs.size<=a)(new:cZ X.prog X.w (upd H a o) h' a o):
  Inv X pins σ (upd H a o) { s with heap:=h',toks:=t' }:=I.un (Un.laid k hp (I.hok.fresh hp)) (I.hok.laid k hp new)
theorem Inv.write{x e:Addr}(I:Inv X pins σ H s)(mu:TF (H x))(he:e=x\/H e=some (.own x))(k:∀b u,b≠e->s.heap.get? b=some u->h'.get? b=some u)(S5:∃u,h'.get? e=some u)
  (new:cZ X.prog X.w (upd H x o) h' x o):Inv X pins σ (upd H x o) { s with heap:=h',toks:=t' }:=I.un (Un.write mu he k S5) (I.hok.write mu he k S5 new)
def Inv.lY{ND:List (Addr×Obj)}(I:Inv X pins σ H s)(h:∀p∈ND,s.heap.get? p.1=some p.2/\H p.1=none/\p.1≠X.env.locals/\p.1∉X.fs/\∀v,p.2.data≠.cell v):Inv X ND σ H s :=
 ⟨I.ok,I.os,I.bare,I.base,I.loc,I.cell,I.free,I.kO,λp hp=>(aO.mp hp).elim (λz=>I.pin p (mX _ z)) (h p),I.hok,I.len⟩
def ye(hN:N.Nodup){j:Nat}(a:N[i]?=some x)(b:N[j]?=some x):i=j:=by obtain⟨h1,e1⟩:=fq a;obtain⟨h2,e2⟩:=fq b;exact(rP hN).mp (e1.trans e2.symm)
def pK(I:Inv X pins σ H s)(hN:X.N.Nodup)(hi:X.N[i]?=some x)(hx:Loc X.env.scope x)(r:RelV v u)
  (h:∀s',Inv X pins (σ.set i (some v)) H s'->(∃a,Heap.SameBut a s.heap s'.heap/\(a=X.env.locals\/X.env.cells.lookup x=some a))->Q () s')(hf:X.fn x=true\/X.env.scope.names.lookup x=some .local:=by first|exact .inl rfl|exact .inr rfl|assumption):wpAny M A (storeName X.env x u) Q E s:=by
 obtain⟨m,hn,hl⟩:=id I.loc;have hcls:(X.env.scope.kind==.class||(X.env.scope.kind==.module&&X.env.locals != X.env.globals))=false:=by rw[I.ok.kind];rfl
 have hiσ:i<σ.length:=by rw[I.len];exact(fq hi).1
 have Pq:=I.Pq;have tracked:∀{a:Addr}{h':Heap},(∃o,s.heap.get? a=some o/\H a=none)->Heap.SameBut a s.heap h'->m9 X.prog X.w H h':=λ{a h'} ha hs b ob e=>by
  obtain⟨_,_,hfree⟩:=ha;refine(I.hok b ob e).stay (λc w' hc q=>(hs.2 c ?_).trans q) (λ_ q=>q) λ_ _ q=>q;rintro rfl;rcases hc with rfl|hc
  .rw[hfree] at e;cases e
  .rw[hfree] at hc;cases hc
 rcases hx with hk|hk
 .refine wpAny_storeName_local hk hn (λh' hn' hs=>?_) hcls;obtain⟨oL,_,_,hoL,_⟩:=id hn;refine h _ ⟨I.ok,I.os,I.bare,⟨λb o e n hb hx=>?_,λb o e n hb hx=>?_,I.base.free,λb o e hx=>?_,I.base.tups,I.base.pJ,I.base.qA⟩,⟨_,hn',λj y v' e1 e2 e3=>?_⟩,λy c e=>?_,I.free,I.kO,λp hp=>?_,tracked ⟨oL,hoL,I.free⟩ hs,by simpa using I.len⟩ ⟨_,hs,.inl rfl⟩
  .exact(hs.2 b (aQ (bT (aK e) I.ok.above))).trans (I.base.keep b o e n hb hx)
  .sleep 205;exact⟨sl,(hs.2 b (aQ (bT (aK e) I.ok.above))).trans e1⟩
  .sleep 166;exact⟨o',(hs.2 b (aQ (bT (aK e) I.ok.above))).trans e1⟩
  .by_cases hj:j=i
   .sleep 174;exact⟨u,r,.inl ⟨hk,by simp⟩⟩
   .sleep 179;rcases q with⟨k,e⟩|⟨k,c,e,z⟩
    .refine .inl ⟨k,?_⟩;have:y≠x:=λe=>hj (ye hN e1 (e▸hi));simp[this,e]
    .exact .inr ⟨k,c,e,z.sameBut hs (Pq y c e)⟩
  .obtain⟨w',z⟩:=I.cell y c e;exact⟨w',z.sameBut hs (Pq y c e)⟩
  .obtain⟨e,n,ne,nf,d⟩:=I.pin p hp;exact⟨(hs.2 p.1 ne).trans e,n,ne,nf,d⟩
 .have hfn:X.fn x=true:=by
   rcases hf with z|z
   .exact z
   .rw[z] at hk;cases hk
  obtain⟨c,hc⟩:=I.ok.has x (.inl hk);obtain⟨w',z⟩:=I.cell x c hc;refine wpAny_storeName_cell I.ok.kind hk hc z (λh' hc' hs=>?_);obtain⟨oc,hoc,Za⟩:=id z;refine h { s with heap:=h' } ⟨I.ok,I.os,I.bare,⟨λb o e n hb hx=>?_,λb o e n hb hx=>?_,I.base.free,λb o e hx=>?_,I.base.tups,I.base.pJ,I.base.qA⟩,⟨m,hn.sameBut hs (bu (Pq x c hc)),λj y v' e1 e2 e3=>?_⟩,λy c' e=>?_,I.free,I.kO,λp hp=>?_,tracked ⟨oc,hoc,I.kO x c hc⟩ hs,by simpa using I.len⟩ ⟨c,hs,.inr hc⟩
  .exact(hs.2 b (aQ (bT (aK e) (I.ok.TL x c hfn hc)))).trans (I.base.keep b o e n hb hx)
  .sleep 205;exact⟨sl,(hs.2 b (aQ (bT (aK e) (I.ok.TL x c hfn hc)))).trans e1⟩
  .sleep 166;exact⟨o',(hs.2 b (aQ (bT (aK e) (I.ok.TL x c hfn hc)))).trans e1⟩
  .by_cases hj:j=i
   .sleep 174;exact⟨u,r,.inr ⟨.inl hk,c,hc,hc'⟩⟩
   .sleep 179;rcases q with q|⟨k,c',e,z'⟩
    .exact .inl q
    .refine .inr ⟨k,c',e,z'.sameBut hs ?_⟩;rintro rfl;exact hj (ye hN e1 (I.ok.inj _ _ _ e hc▸hi))
  .by_cases hcc:c'=c
   .subst hcc;exact⟨_,hc'⟩
   .obtain⟨w2,z2⟩:=I.cell y c' e;exact⟨w2,z2.sameBut hs hcc⟩
  .obtain⟨e,n,ne,nf,d⟩:=I.pin p hp;refine⟨(hs.2 p.1 ?_).trans e,n,ne,nf,d⟩;intro q;rw[q,hoc] at e;have q':oc=p.2:=Option.some.inj e;exact d w' (by rw[<- q'];exact Za)
def nH(I:Inv X pins σ H s)(hN:X.N.Nodup)(hi:X.N[i]?=some x)(hx:Loc X.env.scope x)(r:RelV v u)
  (h:∀s',Inv X pins (σ.set i (some v)) H s'->Q () s')(hf:X.fn x=true\/X.env.scope.names.lookup x=some .local:=by first|exact .inl rfl|exact .inr rfl|assumption):wpAny M A (storeName X.env x u) Q E s :=
 pK I hN hi hx r (λs' I' _=>h s' I') hf
def Inv.NF{s':Shared}(I:Inv X pins σ H s)(ho:s'.os=s.os)(u:Un (frs X.stack) ch H H' s.heap s'.heap)(hok:m9 X.prog X.w H' s'.heap)(hg:AllBare s'.gens)
  (hch:∀b∈ch,(b∈X.ex\/X.s₀.heap.objs.size<=b)/\b≠X.env.locals/\(∀x c,X.env.cells.lookup x=some c->c≠b)/\∀p∈X.pn++pins,p.1≠b):Inv X pins σ H' s':=by obtain⟨h',g',d',t',o'⟩:=s';have e:o'=s.os:=ho;subst e;exact I.call (g':=g') (t':=t') (d':=d') u hok hg hch
end
abbrev XK:=Value->Option Addr->Hp->Prop
abbrev St:=List (Option V)
abbrev VK:=V->Hp->Prop
abbrev TE:=St->Hp->VK->Prop
abbrev TT:=St->Hp->(Bool->Hp->Prop)->Prop
abbrev TA:=St->Hp->(List V->Hp->Prop)->Prop
structure Ends where
 nx:St->Hp->Prop
 rt:VK
 bk:St->Hp->Prop:=λ_ _=>False
 ct:St->Hp->Prop:=λ_ _=>False
abbrev TS:=Ends->St->Hp->Prop
def EP(X:Cx)(pins:List (Addr×Obj))(σ:St)(Q:VK)(u:Value)(s':Shared):Prop:=∃v H',Inv X pins σ H' s'/\RelV v u/\Q v H'
def TP(X:Cx)(pins:List (Addr×Obj))(σ:St)(Q:Bool->Hp->Prop)(b:Bool)(s':Shared):Prop:=∃H',Inv X pins σ H' s'/\Q b H'
def AP(X:Cx)(pins:List (Addr×Obj))(σ:St)(Q:List V->Hp->Prop)(us:List Value)(s':Shared):Prop:=∃vs H',Inv X pins σ H' s'/\Vals vs us/\Q vs H'
def SP(X:Cx)(pins:List (Addr×Obj))(D:Ends)(f:Flow)(s':Shared):Prop :=
 match f with
 | .next=>∃σ' H',Inv X pins σ' H' s'/\D.nx σ' H'
 | .brk=>∃σ' H',Inv X pins σ' H' s'/\D.bk σ' H'
 | .cont=>∃σ' H',Inv X pins σ' H' s'/\D.ct σ' H'
 | .ret u=>∃v σ' H',Inv X pins σ' H' s'/\RelV v u/\D.rt v H'
def PE(X:Cx)(e:Expr)(t:TE):Prop :=
 ∀(pins:List (Addr×Obj))(s:Shared)(σ:St)(H:Hp)(Q:VK),Inv X pins σ H s->t σ H Q->wpAny (model X.prog X.w) X.A (eval e X.env) (EP X pins σ Q) X.xe s
def PT(X:Cx)(e:Expr)(t:TT):Prop :=
 ∀(pins:List (Addr×Obj))(s:Shared)(σ:St)(H:Hp)(Q:Bool->Hp->Prop),Inv X pins σ H s->t σ H Q->wpAny (model X.prog X.w) X.A (isTrue e X.env (eval e X.env)) (TP X pins σ Q) X.xe s
def PW(X:Cx)(e:Expr)(t:TT):Prop :=
 ∀(whole:Sem Value)(pins:List (Addr×Obj))(s:Shared)(σ:St)(H:Hp)(Q:Bool->Hp->Prop),Inv X pins σ H s->t σ H Q->wpAny (model X.prog X.w) X.A (isTrue e X.env whole) (TP X pins σ Q) X.xe s
def PW.pt{t:TT}(h:PW X e t):PT X e t:=h _
def PA(X:Cx)(es:List Expr)(t:TA):Prop :=
 ∀(pos:Pos)(pins:List (Addr×Obj))(s:Shared)(σ:St)(H:Hp)(Q:List V->Hp->Prop),Inv X pins σ H s->t σ H Q->wpAny (model X.prog X.w) X.A (spliced (backTo pos (starEach es X.env))) (AP X pins σ Q) X.xe s
def PS(X:Cx)(st:Stmt)(t:TS):Prop :=
 ∀(pins:List (Addr×Obj))(s:Shared)(σ:St)(H:Hp)(D:Ends),Inv X pins σ H s->t D σ H->wpAny (model X.prog X.w) X.A (exec st X.env) (SP X pins D) X.xe s
def uQ(X:Cx)(st:List Stmt)(t:TS):Prop :=
 ∀(pins:List (Addr×Obj))(s:Shared)(σ:St)(H:Hp)(D:Ends),Inv X pins σ H s->t D σ H->wpAny (model X.prog X.w) X.A (execs st X.env) (SP X pins D) X.xe s
def cT{α:Type}{t:Sem α}{Q Q':α->Shared->Prop}(h:wpAny M A t Q E s)(hQ:∀a s,Q a s->Q' a s):wpAny M A t Q' E s:=wpAny_mono h hQ λ_ _ x=>x
section
variable {X:Cx}
def bin{a b:Expr}{ta tb:TE}(ha:PE X a ta)(hb:PE X b tb){σ:St}{R:V->V->Hp->Prop}(I:Inv X pins σ H s)(h:ta σ H λx H1=>tb σ H1 λy H2=>R x y H2)
  {α:Type}{Q:α->Shared->Prop}{f:Value->Value->Sem α}
  (hf:∀v u s2 x y H2,Inv X pins σ H2 s2->RelV x v->RelV y u->R x y H2->wpAny (model X.prog X.w) X.A (f v u) Q X.xe s2):
  wpAny (model X.prog X.w) X.A (eval a X.env) (λv s₁=>wpAny (model X.prog X.w) X.A (eval b X.env) (λu s₂=>wpAny (model X.prog X.w) X.A (f v u) Q X.xe s₂) X.xe s₁) X.xe s:=by sleep 98
def mF(i:Nat):TE:=λσ H Q=>∃v,σ[i]?=some (some v)/\Q v H
def tC(v:V):TE:=λ_ H Q=>Q v H
def Pr(hN:X.N[i]?=some x)(hv:XD X.env.scope x)(hd:(x==("__debug__" : Str))=false:=by decide)(hcd:(x==("__classdict__" : Str))=false:=by decide):PE X (.Name x pos) (mF i):=by
 sleep 31;obtain⟨v,e,h⟩:=h;obtain⟨m,hn,hl⟩:=I.loc;obtain⟨u,r,l⟩:=hl i x v hN e hv;have fin:EP X pins σ Q u s:=⟨v,H,I,r,h⟩;rcases l with⟨hk,hm⟩|⟨hk,c,hc,hcell⟩
 .exact wpAny_Name (wpAny_loadName_local I.ok.kind hk hn hm fin) hd
 .rcases hk with hk|hk
  .exact wpAny_Name (wpAny_loadName_cell I.ok.kind hk hc hcell fin) hd
  .exact wpAny_Name (wpAny_loadName_free I.ok.kind hk hc hcell fin hcd) hd
def af{i j pos}:PE X (.Constant (.int i) j pos) (tC (.int i)):=λ_ _ _ H _ I h=>wpAny_Constant_int ⟨.int i,H,I.tok _,⟨_,rfl⟩,h⟩
def yf{b j pos}:PE X (.Constant (.bool b) j pos) (tC (.bl b)):=λ_ _ _ H _ I h=>Constant_bool ⟨.bl b,H,I,rfl,h⟩
def nc{j pos}:PE X (.Constant .none j pos) (tC .cX):=λ_ _ _ H _ I h=>Constant_none ⟨.cX,H,I,rfl,h⟩
def bA{x j pos}:PE X (.Constant (.str x) j pos) (tC (.str x)):=λ_ _ _ H _ I h=>Calls.Constant_str ⟨.str x,H,I.tok _,⟨_,rfl⟩,h⟩
def Gl(X:Cx)(x:Str):Prop:=X.env.kindOf x=some .globalImplicit
def Cz{σ:St}{Q:Value->Shared->Prop}(I:Inv X pins σ H s)(hg:Gl X x)(hm:X.mg x=some u)(h:Q u s)
  (hd:(x==("__debug__" : Str))=false:=by decide):wpAny (model X.prog X.w) X.A (eval (.Name x pos) X.env) Q E s :=
 Calls.Name_function_global I.ok.kind hg (Calls.loadGlobal_global (by rw[I.ok.glob];exact I.mod.glob.keeps I.bk) hm h) hd
def jK{σ:St}{Q:Value->Shared->Prop}(I:Inv X pins σ H s)(hg:Gl X x)(hm:X.mg x=none)(hv:bootBuiltins x=some u)(h:Q u s)
  (hn:x ≠ "__name__" := by decide)(hd:(x==("__debug__" : Str))=false:=by decide):wpAny (model X.prog X.w) X.A (eval (.Name x pos) X.env) Q E s:=by obtain⟨mb,h1,h2⟩:=I.mod.blt;exact Calls.Name_function_global I.ok.kind hg (Calls.loadGlobal_builtin (by rw[I.ok.glob];exact I.mod.glob.keeps I.bk) hm (by rw[I.ok.blt];exact h1.keeps I.bk) ((h2 x hn).trans hv) h) hd
def gh(hg:Gl X x)(hm:X.mg x=some u)(r:RelV v u)(hd:(x==("__debug__" : Str))=false:=by decide):PE X (.Name x pos) (tC v) :=
 λ_ _ _ H _ I h=>Cz I hg hm ⟨v,H,I,r,h⟩ hd
def Le{u:Value}(hg:Gl X x)(hm:X.mg x=none)(hv:bootBuiltins x=some u)(r:RelV v u)(hn:x ≠ "__name__" := by decide)(hd:(x==("__debug__" : Str))=false:=by decide):PE X (.Name x pos) (tC v) :=
 λ_ _ _ H _ I h=>jK I hg hm hv ⟨v,H,I,r,h⟩ hn hd
variable {a b:Expr}{ta tb:TE}{pos:Pos}
def PC(X:Cx)(op:CmpOp)(a b:Expr)(t:TE):Prop :=
 ∀(pins:List (Addr×Obj))(s:Shared)(σ:St)(H:Hp)(Q:VK),Inv X pins σ H s->t σ H Q ->
  wpAny (model X.prog X.w) X.A (eval a X.env) (λv s₁=>wpAny (model X.prog X.w) X.A (eval b X.env) (λu s₂=>wpAny (model X.prog X.w) X.A (compareOp op v u) (EP X pins σ Q) X.xe s₂) X.xe s₁) X.xe s
def GC(b:Expr)(h:op≠.In)(h2:op≠.NotIn):behindInMarks op b=false:=by sleep 72
def tB(t:TE):TT:=λσ H Q=>t σ H λx H1=>∃c,x=.bl c/\Q c H1
def A1(h:PC X op a b t)(h1:behindInMarks op b=false:=by first|exact GC _ (by decide) (by decide)|rfl):PT X (.Compare a [op] [b] pos) (tB t):=by intro pins s σ H Q I hw;refine wpAny_isTrue_Compare1 (cT (h pins s σ H _ I hw) λv s1 h1=>cT h1 λu s2 h2=>cT h2 λc s3 ⟨x,H1,I1,r1,q1⟩=>?_) h1;sleep 232
def rX(h:PE X e t)(he:∀whole,isTrue e X.env whole=(do let v <- whole;standAt e.pos;holding [v] (truthy v)):=by intro _;rfl):PT X e (tB t):=by intro pins s σ H Q I hw;refine isTrue_plain (cT (h pins s σ H _ I hw) λv s1 ⟨x,H1,I1,r1,q1⟩=>?_) (he _);sleep 232
variable {tA XF:TT}{rest:List Expr}
def TQ(t u:TT):TT:=λσ H Q=>t σ H λc H1=>if c=true then u σ H1 Q else Q false H1
def tOr(t u:TT):TT:=λσ H Q=>t σ H λc H1=>if c=true then Q true H1 else u σ H1 Q
def TR(t:TT):TT:=λσ H Q=>t σ H λc H1=>Q (!c) H1
def ju(ha:PT X a tA):PW X (.BoolOp .And [a] pos) tA:=by
 intro wh pins s σ H Q I h;refine isTrue_and (cT (ha pins s σ H Q I h) λc s1 e=>?_);cases c with
 | true=>exact isTrue_and_nil e
 | false=>exact e
def pL(ha:PT X a tA):PW X (.BoolOp .Or [a] pos) tA:=by
 intro wh pins s σ H Q I h;refine isTrue_or (cT (ha pins s σ H Q I h) λc s1 e=>?_);cases c with
 | false=>exact isTrue_or_nil e
 | true=>exact e
def kj(ha:PT X a tA)(hb:PW X (.BoolOp .And (b::rest) pos) XF):PW X (.BoolOp .And (a::b::rest) pos) (TQ tA XF):=by
 intro wh pins s σ H Q I h;refine isTrue_and (cT (ha pins s σ H _ I h) λc s1 ⟨H1,I1,q1⟩=>?_);cases c with
 | true=>exact hb wh pins s1 σ H1 Q I1 q1
 | false=>exact⟨H1,I1,q1⟩
def rY(ha:PT X a tA)(hb:PW X (.BoolOp .Or (b::rest) pos) XF):PW X (.BoolOp .Or (a::b::rest) pos) (tOr tA XF):=by
 intro wh pins s σ H Q I h;refine isTrue_or (cT (ha pins s σ H _ I h) λc s1 ⟨H1,I1,q1⟩=>?_);cases c with
 | true=>exact⟨H1,I1,q1⟩
 | false=>exact hb wh pins s1 σ H1 Q I1 q1
def wz(ha:PT X a tA):PT X (.UnaryOp .Not a pos) (TR tA):=by sleep 31;exact isTrue_not (ha pins s σ H (λc H1=>Q (!c) H1) I h)
def NG(ta tb:TE):TE:=λσ H Q=>ta σ H λx H1=>∃c,x=.bl c/\if c=true then tb σ H1 Q else Q (.bl false) H1
def TU(ta tb:TE):TE:=λσ H Q=>ta σ H λx H1=>∃c,x=.bl c/\if c=true then Q (.bl true) H1 else tb σ H1 Q
def rZ{op}(h:PE X a t):PE X (.BoolOp op [a] pos) t:=λpins s σ H Q I hw=>BoolOp_one (h pins s σ H Q I hw)
def A2(ha:PE X a ta)(hb:PE X (.BoolOp .And (b::rest) pos) tb):PE X (.BoolOp .And (a::b::rest) pos) (NG ta tb):=by
 sleep 31;refine BoolOp_and (cT (ha pins s σ H _ I h) λv s1 ⟨x,H1,I1,r1,q1⟩=>?_);obtain⟨c,rfl,q1⟩:=q1;cases r1;refine wpAny_truthy_bool ?_;cases c with
 | true=>exact hb pins s1 σ H1 Q I1 q1
 | false=>exact⟨.bl false,H1,I1,rfl,q1⟩
def NH(ha:PE X a ta)(hb:PE X (.BoolOp .Or (b::rest) pos) tb):PE X (.BoolOp .Or (a::b::rest) pos) (TU ta tb):=by
 sleep 31;refine BoolOp_or (cT (ha pins s σ H _ I h) λv s1 ⟨x,H1,I1,r1,q1⟩=>?_);obtain⟨c,rfl,q1⟩:=q1;cases r1;refine wpAny_truthy_bool ?_;cases c with
 | false=>exact hb pins s1 σ H1 Q I1 q1
 | true=>exact⟨.bl true,H1,I1,rfl,q1⟩
def tIf(t:TT)(ta tb:TE):TE:=λσ H Q=>t σ H λc H1=>if c=true then ta σ H1 Q else tb σ H1 Q
def f6(hc:PT X c tA)(ha:PE X a ta)(hb:PE X b tb):PE X (.IfExp c a b pos) (tIf tA ta tb):=by
 sleep 31;refine wpAny_IfExp (cT (hc pins s σ H _ I h) λd s1 ⟨H1,I1,q1⟩=>?_);cases d with
 | true=>exact ha pins s1 σ H1 Q I1 q1
 | false=>exact hb pins s1 σ H1 Q I1 q1
end
def bE(K:aD)(H:Hp)(a:Addr)(xs:List V):Prop :=
 Rd H a (.lst xs) \/
  ∃(o:Obj)(its:Array Value)(n:Nat),K.lookup a=some o/\o.cls=.type "list" /\ o.dict=none/\o.data=.seq its n/\its.size<=sizeLine/\Vals xs its.toList
def cM(K:aD)(H:Hp)(a:Addr)(xs:List V):Prop :=
 Rd H a (.tup xs) \/
  ∃(o:Obj)(its:Array Value)(n:Nat),K.lookup a=some o/\o.cls=.type "tuple" /\ o.data=.seq its n/\its.size<=sizeLine/\Vals xs its.toList
def Zb:Value->Option V
 | .none=>some .cX
 | .bool b=>some (.bl b)
 | .int i _=>some (.int i)
 | .str x _=>some (.str x)
 | .bytes b _=>some (.Ew b)
 | .float b _=>some (.S4 b)
 | .ref a=>some (.ref a)
 | .type n=>some (.ty n)
 | _=>none
def RelV.abs{x:V}(r:RelV x u):Zb u=some x:=by
 cases x with
 | cX=>cases r;rfl
 | bl _=>cases r;rfl
 | int _=>obtain⟨t,rfl⟩:=r;rfl
 | str _=>obtain⟨t,rfl⟩:=r;rfl
 | Ew _=>obtain⟨t,rfl⟩:=r;rfl
 | S4 _=>obtain⟨t,rfl⟩:=r;rfl
 | ref _=>cases r;rfl
 | ty _=>cases r;rfl
theorem RelV.inj{x y:V}(r:RelV x u)(q:RelV y u):x=y:=Option.some.inj (r.abs.symm.trans q.abs)
theorem Vals.inj:∀{xs ys:List V}{us:List Value},Vals xs us->Vals ys us->xs=ys
 | _,_,_,.nil,.nil=>rfl
 | _,_,_,.cons r t,.cons r' t'=>by rw[r.inj r',Vals.inj t t']
section
variable {X:Cx}{pins:List (Addr×Obj)}{σ:St}{H:Hp}{s:Shared}{a:Addr}{xs ys:List V}
def bE.of(h:H a=some (.lst xs)):bE K H a xs:=.inl (.inl h)
def cM.of(h:H a=some (.tup xs)):cM K H a xs:=.inl (.inl h)
def Inv.list(I:Inv X pins σ H s)(h:bE X.K H a xs):∃its:List Value,Vals xs its/\PlainL s.heap a its.toArray/\xs.length<=sizeLine:=by
 rcases h with h|⟨o,its,n,hk,hc,hd,hs,hz,r⟩
 .obtain⟨z,its,n,r,e⟩:=h.ok I.hok;exact⟨its,r,⟨_,n,e,rfl,rfl,rfl⟩,z⟩
 .refine⟨its.toList,r,⟨o,n,I.wm a o hk,hc,hd,by simpa using hs⟩,?_⟩;have e:=r.length;simp only[cY] at e;omega
def Inv.tuple(I:Inv X pins σ H s)(h:cM X.K H a xs):∃its:List Value,Vals xs its/\IsTup s.heap a its.toArray/\xs.length<=sizeLine:=by
 rcases h with h|⟨o,its,n,hk,hc,hs,hz,r⟩
 .obtain⟨z,its,r,p⟩:=h.ok I.hok;exact⟨its,r,p,z⟩
 .refine⟨its.toList,r,⟨o,I.wm a o hk,hc,n,by simpa using hs⟩,?_⟩;have e:=r.length;simp only[cY] at e;omega
def Inv.GD(I:Inv X pins σ H s)(h:bE X.K H a xs)(h':bE X.K H a ys):xs=ys:=by obtain⟨its,r,⟨o,n,e,_,_,d⟩,_⟩:=I.list h;obtain⟨its',r',⟨o',n',e',_,_,d'⟩,_⟩:=I.list h';sleep 119
def Inv.EB(I:Inv X pins σ H s)(h:cM X.K H a xs)(h':cM X.K H a ys):xs=ys:=by obtain⟨its,r,⟨o,e,_,n,d⟩,_⟩:=I.tuple h;obtain⟨its',r',⟨o',e',_,n',d'⟩,_⟩:=I.tuple h';sleep 119
end
abbrev Cx.pM(X:Cx)(E:Value->Shared->Prop):Cx:={ X with xe:=E }
abbrev Cx.GF(X:Cx):Cx:=X.pM λ_ _=>False
theorem Cx.Ok.pM(ok:X.Ok)(E:Value->Shared->Prop):(X.pM E).Ok :=
 ⟨ok.mod,ok.kind,ok.glob,ok.blt,ok.above,ok.inj,ok.has,ok.TL,ok.hd,ok.frames,ok.stk,ok.exf,ok.bs,ok.KR,ok.Ez,ok.EA,ok.qB,ok.Po⟩
def Cx.Ok.jL(ok:(X.pM E).Ok):X.Ok :=
 ⟨ok.mod,ok.kind,ok.glob,ok.blt,ok.above,ok.inj,ok.has,ok.TL,ok.hd,ok.frames,ok.stk,ok.exf,ok.bs,ok.KR,ok.Ez,ok.EA,ok.qB,ok.Po⟩
section
variable {X:Cx}{pins:List (Addr×Obj)}{σ:St}{H:Hp}{s:Shared}{E:Value->Shared->Prop}
theorem Inv.pM(I:Inv X pins σ H s)(E:Value->Shared->Prop):Inv (X.pM E) pins σ H s:=⟨I.ok.pM E,I.os,I.bare,I.base,I.loc,I.cell,I.free,I.kO,I.pin,I.hok,I.len⟩
theorem Inv.jL(I:Inv (X.pM E) pins σ H s):Inv X pins σ H s:=⟨I.ok.jL,I.os,I.bare,I.base,I.loc,I.cell,I.free,I.kO,I.pin,I.hok,I.len⟩
theorem SP.jL{f:Flow}{s':Shared}(h:SP (X.pM E) pins D f s'):SP X pins D f s':=by
 cases f with
 | next=>obtain⟨σ',H',I,q⟩:=h;exact⟨σ',H',I.jL,q⟩
 | brk=>obtain⟨σ',H',I,q⟩:=h;exact⟨σ',H',I.jL,q⟩
 | cont=>obtain⟨σ',H',I,q⟩:=h;exact⟨σ',H',I.jL,q⟩
 | ret u=>obtain⟨v,σ',H',I,r,q⟩:=h;exact⟨v,σ',H',I.jL,r,q⟩
theorem PE.GF(h:PE X.GF e t):PE X e t:=λpins s σ H Q I hw =>
 wpAny_mono (h pins s σ H Q (I.pM _) hw) (λ_ _ ⟨v,H',I',r,q⟩=>⟨v,H',I'.jL,r,q⟩) λ_ _ z=>False.elim z
theorem PT.GF{t:TT}(h:PT X.GF e t):PT X e t:=λpins s σ H Q I hw =>
 wpAny_mono (h pins s σ H Q (I.pM _) hw) (λ_ _ ⟨H',I',q⟩=>⟨H',I'.jL,q⟩) λ_ _ z=>False.elim z
theorem uQ.GF{st:List Stmt}{t:TS}(h:uQ X.GF st t):uQ X st t:=λpins s σ H D I hw =>
 wpAny_mono (h pins s σ H D (I.pM _) hw) (λ_ _ q=>q.jL) λ_ _ z=>False.elim z
end
section
variable {X:Cx}{st:Stmt}{rest:List Stmt}{t u:TS}{e:Expr}{te:TE}{pos:Pos}
def NI:TS:=λD σ H=>D.nx σ H
def Pu(t u:TS):TS:=λD σ H=>t { D with nx:=u D } σ H
def bw:uQ X [] NI:=λ_ _ σ H _ I h=>wpAny_execs_nil ⟨σ,H,I,h⟩
def ak(h1:PS X st t)(h2:uQ X rest u):uQ X (st::rest) (Pu t u):=by
 sleep 62;refine wpAny_execs_cons (cT (h1 pins s σ H { D with nx:=u D } I h) λf s1 q=>?_);cases f with
 | next =>
  obtain⟨σ',H',I',q⟩:=q;exact h2 pins s1 σ' H' D I' q
 | ret v=>exact q
 | brk=>exact q
 | cont=>exact q
def au(h1:PS X st t):uQ X [st] t:=by
 sleep 62;refine wpAny_execs_cons (cT (h1 pins s σ H D I h) λf s1 q=>?_);cases f with
 | next=>exact wpAny_execs_nil q
 | ret v=>exact q
 | brk=>exact q
 | cont=>exact q
def Inv.quiet{σ:St}(I:Inv X pins σ H s):interactive X.env=false:=by simp[interactive,I.ok.kind]
def NJ(te:TE):TS:=λD σ H=>te σ H λ_ H1=>D.nx σ H1
def fj(he:PE X e te)(hs:swapsWith e none pos.line X.env=pure false:=by rfl):PS X (.Expr e pos) (NJ te):=by sleep 62;exact wpAny_Expr_any (cT (he pins s σ H _ I h) λv s1 ⟨x,H1,I1,r1,q1⟩=>⟨σ,H1,I1,q1⟩) I.quiet hs
def TV(te:TE):TS:=λD σ H=>te σ H D.rt
def aJ(he:PE X e te):PS X (.Return (some e) pos) (TV te):=by sleep 62;exact wpAny_Return_some (cT (he pins s σ H _ I h) λv s1 ⟨x,H1,I1,r1,q1⟩=>⟨x,σ,H1,I1,r1,q1⟩)
def TX(c:TT)(t u:TS):TS:=λD σ H=>c σ H λb H1=>if b=true then t D σ H1 else u D σ H1
def cN{a b:List Stmt}{tc:TT}(hc:PT X c tc)(ha:uQ X a t)(hb:uQ X b u):PS X (.If c a b pos) (TX tc t u):=by
 sleep 62;refine wpAny_If (cT (hc pins s σ H _ I h) λd s1 ⟨H1,I1,q1⟩=>?_);cases d with
 | true=>exact ha pins s1 σ H1 D I1 q1
 | false=>exact hb pins s1 σ H1 D I1 q1
def Pw:TS:=λ_ _ _=>False
def GG:PS X st Pw:=λ_ _ _ _ _ _ h=>h.elim
end
abbrev TG:=V->St->Hp->(St->Hp->Prop)->Prop
abbrev EC:=List V->St->Hp->(St->Hp->Prop)->Prop
def PG(X:Cx)(target:Expr)(t:TG):Prop :=
 ∀(pins:List (Addr×Obj))(s:Shared)(σ:St)(H:Hp)(v:V)(u:Value)(Q:St->Hp->Prop),Inv X pins σ H s->RelV v u->t v σ H Q ->
  wpAny (model X.prog X.w) X.A (assign target X.env u) (λ_ s'=>∃σ' H',Inv X pins σ' H' s'/\Q σ' H') X.xe s
def S6(X:Cx)(ts:List Expr)(t:EC):Prop :=
 ∀(pins:List (Addr×Obj))(s:Shared)(σ:St)(H:Hp)(vs:List V)(us:List Value)(Q:St->Hp->Prop),Inv X pins σ H s->Vals vs us->t vs σ H Q ->
  wpAny (model X.prog X.w) X.A (assignInOrder ((assignEach ts X.env).map (·.2)) us) (λ_ s'=>∃σ' H',Inv X pins σ' H' s'/\Q σ' H') X.xe s
abbrev Lf:=V->V->V->Hp->(Hp->Prop)->Prop
def TY(X:Cx)(t:Lf):Prop :=
 ∀(pins:List (Addr×Obj))(s:Shared)(σ:St)(H:Hp)(o i v:V)(ov iv u:Value)(Q:Hp->Prop),Inv X pins σ H s->RelV o ov->RelV i iv->RelV v u->t o i v H Q ->
  wpAny (model X.prog X.w) X.A (setItem ov iv u) (λ_ s'=>∃H',Inv X pins σ H' s'/\Q H') X.xe s
abbrev TZ:=V->V->Hp->VK->Prop
def PIp(X:Cx)(op:Operator)(t:TZ):Prop :=
 ∀(pins:List (Addr×Obj))(s:Shared)(σ:St)(H:Hp)(x y:V)(v u:Value)(Q:VK),Inv X pins σ H s->RelV x v->RelV y u->t x y H Q ->
  wpAny (model X.prog X.w) X.A (inplaceOp op v u) (EP X pins σ Q) X.xe s
section
variable {X:Cx}{pos:Pos}
def iw(i:Nat):TG:=λv σ H Q=>Q (σ.set i (some v)) H
def aX(hN:X.N.Nodup)(hi:X.N[i]?=some x)(hx:Loc X.env.scope x)(hf:X.fn x=true\/X.env.scope.names.lookup x=some .local:=by first|exact .inl rfl|exact .inr rfl|assumption):PG X (.Name x pos) (iw i):=by intro pins s σ H v u Q I r h;exact wpAny_assign_Name (nH I hN hi hx r (λs' I'=>⟨_,H,I',h⟩) hf)
def T3:EC:=λvs σ H Q=>vs=[]/\Q σ H
def NK(t:TG)(u:EC):EC:=λvs σ H Q=>∃v r,vs=v::r/\t v σ H λσ' H'=>u r σ' H' Q
def gj:S6 X [] T3:=by intro pins s σ H vs us Q I r h;obtain⟨e,h⟩:=h;subst e;cases r;exact assignInOrder_nil ⟨σ,H,I,h⟩
def bG{es:List Expr}{t:TG}{u:EC}(h1:PG X e t)(h2:S6 X es u)
  (hs:(assignEach (e::es) X.env).map (·.2)=assign e X.env::(assignEach es X.env).map (·.2):=by rfl):S6 X (e::es) (NK t u):=by
 intro pins s σ H vs us Q I r h;obtain⟨v,vr,e1,h⟩:=h;subst e1;cases r with
 | cons r rr =>
  rw[hs];refine assignInOrder_cons (cT (h1 pins s σ H _ _ _ I r h) λ_ s1 ⟨σ1,H1,I1,q1⟩=>?_);exact h2 pins s1 σ1 H1 _ _ Q I1 rr q1
def Px(K:aD)(n:Nat)(t:EC):TG:=λv σ H Q=>∃a xs,v=.ref a/\cM K H a xs/\xs.length=n/\t xs σ H Q
def ng{es:List Expr}{t:EC}(hc:X.calm=true)(h:S6 X es t)
  (hn:(assignEach es X.env).length=n:=by rfl)(hst:(assignEach es X.env).findIdx? (·.1)=none:=by rfl):PG X (.Tuple es k pos) (Px X.K n t):=by sleep 201;obtain⟨its,rv,ht,hz⟩:=I.tuple hq;refine assign_Tuple_tuple (I.ok.hd hc) ht (by simp[hn,<- hl,rv.length]) hst λh' hx=>?_;sleep 116
def T4(to ti:TE)(t:Lf):TG:=λv σ H Q=>to σ H λo H1=>ti σ H1 λi H2=>t o i v H2 λH3=>Q σ H3
def ko{o i:Expr}{to ti:TE}{t:Lf}(ho:PE X o to)(hi:PE X i ti)(hs:TY X t)
  (ha:∀v,assign (.Subscript o i pos) X.env v=(do
   let ov <- holding [v] (eval o X.env);let iv <- holding [v,ov] (eval i X.env)
   standAt pos
   holding [v,ov,iv] (setItem ov iv v)
   release [v,ov,iv] []):=by intro _;rfl):PG X (.Subscript o i pos) (T4 to ti t):=by intro pins s σ H v u Q I r h;rw[ha];refine aq (wpAny_holding (cT (ho pins s σ H _ I h) λov s1 ⟨x,H1,I1,r1,q1⟩=>?_));refine aq (wpAny_holding (cT (hi pins s1 σ H1 _ I1 q1) λiv s2 ⟨y,H2,I2,r2,q2⟩=>?_));refine aq (wpAny_standAt (aq (wpAny_holding (cT (hs pins s2 σ H2 x y v ov iv u _ I2 r1 r2 r q2) λ_ s3 ⟨H3,I3,q3⟩=>?_))));exact wpAny_release ⟨σ,H3,I3,q3⟩
def Py(te:TE)(g:TG):TS:=λD σ H=>te σ H λx H1=>g x σ H1 D.nx
def i9(he:PE X e te)(hg:PG X tg g)(hs:swapsWithSole [tg] e pos.line X.env=pure false:=by rfl)(hw:swappedStores [tg] e X.env=pure none:=by rfl)
  (h1:(assignEach [tg] X.env).map (·.2)=[assign tg X.env]:=by rfl):PS X (.Assign [tg] e pos) (Py te g):=by sleep 62;refine wpAny_Assign_stores (cT (he pins s σ H _ I h) λv s1 ⟨x,H1,I1,r1,q1⟩=>?_) hs hw;rw[h1];exact cT (hg pins s1 σ H1 x v _ I1 r1 q1) λ_ s2 q=>q
def aE{pos':Pos}(hN:X.N.Nodup)(hi:X.N[i]?=some x)(hx:Loc X.env.scope x)(he:PE X e te)(hs:swapsWith e (some (.Name x pos')) pos.line X.env=pure false:=by rfl)(hf:X.fn x=true\/X.env.scope.names.lookup x=some .local:=by first|exact .inl rfl|exact .inr rfl|assumption):
  PS X (.Assign [.Name x pos'] e pos) (Py te (iw i)):=by sleep 62;refine wpAny_Assign_Name (cT (he pins s σ H _ I h) λv s1 ⟨y,H1,I1,r1,q1⟩=>?_) hs;exact nH I1 hN hi hx r1 (λs2 I2=>⟨_,H1,I2,q1⟩) hf
def T5(i:Nat)(te:TE)(ti:TZ):TS:=λD σ H=>∃x,σ[i]?=some (some x)/\te σ H λy H1=>ti x y H1 λz H2=>D.nx (σ.set i (some z)) H2
def A3{op:Operator}{ti:TZ}{pos':Pos}(hN:X.N.Nodup)(hi:X.N[i]?=some x)(hx:Loc X.env.scope x)(he:PE X e te)(ho:PIp X op ti)(hf:X.fn x=true\/X.env.scope.names.lookup x=some .local:=by first|exact .inl rfl|exact .inr rfl|assumption):
  PS X (.AugAssign (.Name x pos') op e pos) (T5 i te ti):=by
 sleep 62;obtain⟨v,e1,h⟩:=h;obtain⟨m,hn,hl⟩:=I.loc;have vis:XD X.env.scope x:=by rcases hx with k|k;exact .inl k;exact .inr (.inl k)
 obtain⟨u,r,l⟩:=hl i x v hi e1 vis;refine wpAny_AugAssign_Name ?_;have go:wpAny (model X.prog X.w) X.A (eval e X.env) (λw s₂=>wpAny (model X.prog X.w) X.A (inplaceOp op u w) (λr s₃=>wpAny (model X.prog X.w) X.A (storeName X.env x r) (λ_=>SP X pins D .next) X.xe s₃) X.xe s₂) X.xe s:=by refine cT (he pins s σ H _ I h) λw s1 ⟨y,H1,I1,r1,q1⟩=>?_;refine cT (ho pins s1 σ H1 v y u w _ I1 r r1 q1) λz s2 ⟨zv,H2,I2,r2,q2⟩=>?_;exact nH I2 hN hi hx r2 (λs3 I3=>⟨_,H2,I3,q2⟩) hf
 rcases l with⟨hk,hm⟩|⟨hk,c,hc,hcell⟩
 .exact wpAny_loadName_local I.ok.kind hk hn hm go
 .rcases hk with hk|hk
  .exact wpAny_loadName_cell I.ok.kind hk hc hcell go
  .rcases hx with k|k
   .sleep 209
   .sleep 209
def ipI(f:Int->Int->Int):TZ:=λx y H Q=>∃i j,x=.int i/\y=.int j/\Q (.int (f i j)) H
def A4:PIp X .Add (ipI λi j=>i+j):=by intro pins s σ H x y v u Q I r1 r2 h;obtain⟨i,j,e1,e2,q⟩:=h;subst e1;subst e2;obtain⟨t,rfl⟩:=r1;obtain⟨t',rfl⟩:=r2;exact iadd_int ⟨.int _,H,I.tok _,⟨_,rfl⟩,q⟩
def GH(c:TT)(tb:TS):TS:=λD σ H=>∃W:Nat->St->Hp->Prop,(∃m,W m σ H)/\∀m σ H,W m σ H ->
 c σ H λb H1=>if b=true then ∃N:St->Hp->Prop,(∀σ' H',N σ' H'->∃m',m'<m/\W m' σ' H')/\tb { D with nx:=N,ct:=N,bk:=D.nx } σ H1 else D.nx σ H1
def jV{tc:TT}(hp:PassesOwn (model X.prog X.w) X.A X.env X.xe)(hc:PT X c tc)(hb:uQ X body tb):PS X (.While c body [] pos) (GH tc tb):=by
 sleep 62;obtain⟨W,⟨m0,w0⟩,turn⟩:=h;refine wpAny_While (codeAny_whileLoop (λn s'=>∃σ' H',Inv X pins σ' H' s'/\W n σ' H') ?_ m0 ⟨σ,H,I,w0⟩);rintro n s1 ⟨σ1,H1,I1,w1⟩;refine wpAny_passesOwn hp (cT (hc pins s1 σ1 H1 _ I1 (turn n σ1 H1 w1)) λb s2 ⟨H2,I2,q2⟩=>?_);cases b with
 | true =>
  obtain⟨N,hN,q2⟩:=q2;rw[if_pos rfl];refine wpAny_passesOwn hp (cT (hb pins s2 σ1 H2 _ I2 q2) λf s3 q3=>?_);cases f with
  | next =>
   sleep 165
  | cont =>
   sleep 165
  | brk=>exact q3
  | ret v=>exact q3
 | false =>
  rw[if_neg jT];exact wpAny_execs_nil ⟨σ1,H2,I2,q2⟩
end
structure It where
 go:Nat->Hp->Prop
 Gx:Nat->Hp->V->Hp->Prop
 stop:Nat->Hp->Prop
def iF(X:Cx)(pins:List (Addr×Obj))(H:Hp)(b:Addr):Prop :=
 H b=none/\b≠X.env.locals/\b∉X.fs/\(b∈X.ex\/X.s₀.heap.objs.size<=b)/\(∀x c,X.env.cells.lookup x=some c->c≠b)/\∀p∈X.pn++pins,p.1≠b
def Inv.nI{σ:St}{H':Hp}{s:Shared}(I:Inv X pins σ H s)(hb:s.heap.objs.size<=b)(hn:H' b=none):iF X pins H' b:=by
 refine⟨hn,jo (bT I.lt hb),I.Pp hb,.inr (bJ I.sz hb),λx c e z=>?_,λp hp z=>?_⟩
 .obtain⟨v,q⟩:=I.cell x c e;exact absurd (bT q.lt (by rw[z];exact hb)) (fY _)
 .exact absurd (bT (aK (I.pin p hp).1) (by rw[z];exact hb)) (fY _)
structure Turn (P:Program) (w:World) (K:aD) (tg:Expr) (J:It) (fp:List Addr) (it:Addr) (tn:Nat->Heap->Prop):Prop where
 mem:it∈fp
 obj:∀i h,tn i h->∀b∈fp,∃o,h.get? b=some o/\∀v,o.data≠.cell v
 keep:∀i h h',tn i h->(∀b∈fp,∀o,h.get? b=some o->h'.get? b=some o)->tn i h'
 item:∀(X:Cx),X.prog=P->X.w=w->X.K=K->X.calm=true->∀(i:Nat)(pins:List (Addr×Obj))(s:Shared)(σ:St)(H:Hp)(E:Value->Shared->Prop),Inv X pins σ H s->(∀b∈fp,iF X pins H b)->tn i s.heap->J.go i H ->
  wpAny (model P w) X.A (pyNext (.ref it)) (λr s1=>∃u,r=some u /\
   wpAny (model P w) X.A (letOwnedTupleGo tg (.ref it) u) (λ_ s2=>∃x H',Inv X pins σ H' s2/\RelV x u/\J.Gx i H x H'/\tn (i+1) s2.heap/\∀b∈fp,H' b=none) E s1) E s
 done:∀(X:Cx),X.prog=P->X.w=w->X.K=K->X.calm=true->∀(i:Nat)(pins:List (Addr×Obj))(s:Shared)(σ:St)(H:Hp)(E:Value->Shared->Prop),Inv X pins σ H s->(∀b∈fp,iF X pins H b)->tn i s.heap->J.stop i H ->
  wpAny (model P w) X.A (pyNext (.ref it)) (λr s1=>r=none/\Inv X pins σ H s1) E s
 self:∀(A:Around)(i:Nat)(s:Shared)(Q:Value->Shared->Prop)(E:Value->Shared->Prop),tn i s.heap->Q (.ref it) s->wpAny (model P w) A (pyIter (.ref it)) Q E s
abbrev TI:=St->Hp->(It->Hp->Prop)->Prop
def PIE(X:Cx)(pins:List (Addr×Obj))(σ:St)(tg:Expr)(R:It->Hp->Prop)(itv:Value)(s2:Shared):Prop :=
 ∃(it:Addr)(fp:List Addr)(tn:Nat->Heap->Prop)(J:It)(H':Hp),itv=.ref it/\Inv X pins σ H' s2/\Turn X.prog X.w X.K tg J fp it tn/\tn 0 s2.heap/\(∀b∈fp,iF X pins H' b)/\R J H'
def PI(X:Cx)(tg iter:Expr)(wi:TI):Prop :=
 ∀(pins:List (Addr×Obj))(s:Shared)(σ:St)(H:Hp)(R:It->Hp->Prop),Inv X pins σ H s->wi σ H R ->
  wpAny (model X.prog X.w) X.A (eval iter X.env) (λv s1=>wpAny (model X.prog X.w) X.A (pyIter v) (PIE X pins σ tg R) X.xe s1) X.xe s
def CA{it:Addr}{o:Obj}{n:String}{vs:Array Value}(ho:s.heap.get? it=some o)(hc:o.cls=.type n)(hd:o.data=.fields vs)
    (hn:["enumerate", "zip", "dict_itemiterator", "dict_reverseitemiterator", "odict_iterator", "itertools.zip_longest", "itertools.pairwise"].contains n=false)(hQ:Q () s):wpAny M A (letOwnedTupleGo tg (.ref it) u) Q E s:=by
  unfold letOwnedTupleGo;cases tg<;>first
    | exact aL hQ
    | (cases u<;>first
        | exact aL hQ
        | (refine aq (wpAny_load ho ?_)
           rw[hc,hd];show wpAny M A (if(["enumerate", "zip", "dict_itemiterator", "dict_reverseitemiterator", "odict_iterator", "itertools.zip_longest", "itertools.pairwise"].contains n&&vs[0]?==some (rawInt _))=true then _ else _) Q E s;rw[if_neg (by intro h;rw[hn,rG] at h;cases h)];exact aL hQ))
def KS(K:aD)(a:Addr):It :=
 ⟨λi H=>∃xs x,bE K H a xs/\xs[i]?=some x,λi H x H'=>H'=H/\∀xs,bE K H a xs->xs[i]?=some x,λi H=>∃xs,bE K H a xs/\xs.length<=i⟩
def KU(K:aD)(a:Addr):It :=
 ⟨λi H=>∃xs x,cM K H a xs/\xs[i]?=some x,λi H x H'=>H'=H/\∀xs,cM K H a xs->xs[i]?=some x,λi H=>∃xs,cM K H a xs/\xs.length<=i⟩
def mJ(lo:Int)(n:Nat):It:=⟨λi _=>i<n,λi H x H'=>H'=H/\x=.int (lo+i),λi _=>n<=i⟩
def ED(a it:Addr):Turn P w K tg (KS K a) [it] it (λi h=>h.IsListIter it a i) where
 mem:=by simp
 obj:=λi h st b hb=>by sleep 130;sleep 225
 keep:=λi h h' st k=>st.at λo e=>k it (by simp) o e
 item:=by sleep 16;obtain⟨xs,x,hq,hx⟩:=hg;obtain⟨its,rv,p,hz⟩:=I.list hq;obtain⟨u,hu,ru⟩:=rv.get hx;sleep 50;refine wpAny_pyNext_list_item st p.isList (x:=u) (by simpa using hu) λh' st' sb=>?_;sleep 65;obtain⟨o,e,c,d⟩:=id st';exact⟨u,rfl,CA (s:={ s with heap:=h' }) e c d (by decide) ⟨x,H,I1,ru,⟨rfl,λys hy=>by rw[I.GD hy hq];exact hx⟩,st',λb hb=>(hf b hb).1⟩⟩
 done:=by sleep 16;obtain⟨xs,hq,hx⟩:=hg;obtain⟨its,rv,p,hz⟩:=I.list hq;sleep 50;have hl:=rv.length;exact wpAny_pyNext_list_end (I.ok.hd hc) st p.isList (by simp;omega) λh' eb=>⟨rfl,I.turned (t':=s.toks) (λb o hb e=>eb b o hb e) f0 f1 f3 f4 f5⟩
 self:=λ_ _ _ _ _ st h=>wpAny_pyIter_listiter st h
def A5(a it:Addr):Turn P w K tg (KU K a) [it] it (λi h=>h.IsTupleIter it a i) where
 mem:=by simp
 obj:=λi h st b hb=>by sleep 130;sleep 225
 keep:=λi h h' st k=>st.at λo e=>k it (by simp) o e
 item:=by sleep 16;obtain⟨xs,x,hq,hx⟩:=hg;obtain⟨its,rv,p,hz⟩:=I.tuple hq;obtain⟨u,hu,ru⟩:=rv.get hx;sleep 50;refine wpAny_pyNext_tuple_item st (show s.heap.IsTuple a its.toArray from p) (x:=u) (by simpa using hu) λh' st' sb=>?_;sleep 65;obtain⟨o,e,c,d⟩:=id st';exact⟨u,rfl,CA (s:={ s with heap:=h' }) e c d (by decide) ⟨x,H,I1,ru,⟨rfl,λys hy=>by rw[I.EB hy hq];exact hx⟩,st',λb hb=>(hf b hb).1⟩⟩
 done:=by sleep 16;obtain⟨xs,hq,hx⟩:=hg;obtain⟨its,rv,p,hz⟩:=I.tuple hq;sleep 50;have hl:=rv.length;exact wpAny_pyNext_tuple_end (I.ok.hd hc) st (show s.heap.IsTuple a its.toArray from p) (by simp;omega) λh' eb=>⟨rfl,I.turned (t':=s.toks) (λb o hb e=>eb b o hb e) f0 f1 f3 f4 f5⟩
 self:=λ_ _ _ _ _ st h=>wpAny_pyIter_tupleiter st h
def A6(it:Addr)(lo:Int)(n:Nat):Turn P w K tg (mJ lo n) [it] it (λi h=>IsRangeIter h it (lo+(i:Nat)*1) ((n:Int)-(i:Nat)) 1) where
 mem:=by simp
 obj:=λi h st b hb=>by
  sleep 130;exact⟨_,st,λv z=>by
   have z':Data.fields _=Data.cell v:=z;cases z'⟩
 keep:=λi h h' st k=>k it (by simp) _ st
 item:=by sleep 16;sleep 50;have W:=Walks.range (prog:=X.prog) (w:=X.w) (I.ok.hd hc) it lo 1 n;refine W.item i s _ _ hg st λv h' tk hv st' kk=>?_;obtain⟨t,rfl⟩:=hv;have I1:Inv X pins σ H { s with heap:=h',toks:=tk }:=I.turned (λb o hb e=>kk b o (by simpa using hb) e) f0 f1 f3 f4 f5;refine⟨_,rfl,CA (s:={ s with heap:=h',toks:=tk }) (n := "range_iterator") st' rfl rfl (by decide) ⟨.int (lo+i),H,I1,⟨t,?_⟩,⟨rfl,rfl⟩,st',λb hb=>(hf b hb).1⟩⟩;rw[Int.mul_one]
 done:=by sleep 16;sleep 50;exact wpAny_pyNext_range_end (I.ok.hd hc) st (by have:n<=i:=hg;omega) λh' eb=>⟨rfl,I.turned (t':=s.toks) (λb o hb e=>eb b o hb e) f0 f1 f3 f4 f5⟩
 self:=λ_ _ _ _ _ st h=>wpAny_pyIter_rangeiter st h
section
variable {X:Cx}{tg:Expr}
def GI(K:aD)(tl:TE):TI:=λσ H R=>tl σ H λx H1=>∃a,x=.ref a/\(∃xs,bE K H1 a xs)/\R (KS K a) H1
def T6(K:aD)(tl:TE):TI:=λσ H R=>tl σ H λx H1=>∃a,x=.ref a/\(∃xs,cM K H1 a xs)/\R (KU K a) H1
def cJ{l:Expr}{tl:TE}(hl:PE X l tl):PI X tg l (GI X.K tl):=by sleep 100;obtain⟨a,e,⟨xs,hq⟩,q⟩:=q1;subst e;cases r1;obtain⟨its,rv,p,hz⟩:=I1.list hq;refine wpAny_pyIter_list p.isList ?_;refine⟨s1.heap.objs.size,[s1.heap.objs.size],_,_,H1,rfl,I1.kept (t':=s1.toks) λb o e=>c8 _ e,ED a _,⟨_,iC _ rfl,rfl,rfl⟩,λb hb=>?_,q⟩;sleep 83
def GJ{l:Expr}{tl:TE}(hl:PE X l tl):PI X tg l (T6 X.K tl):=by sleep 100;obtain⟨a,e,⟨xs,hq⟩,q⟩:=q1;subst e;cases r1;obtain⟨its,rv,p,hz⟩:=I1.tuple hq;refine wpAny_pyIter_tuple (show s1.heap.IsTuple a its.toArray from p) ?_;refine⟨s1.heap.objs.size,[s1.heap.objs.size],_,_,H1,rfl,I1.kept (t':=s1.toks) λb o e=>c8 _ e,A5 a _,⟨_,iC _ rfl,rfl,rfl⟩,λb hb=>?_,q⟩;sleep 83
def yg{σ:St}{R:It->Hp->Prop}{lo hi:Int}{t u v:Tok}{tk:Nat}(I:Inv X pins σ H s)(h1:-(2 ^ 62)<=lo)(h2:lo<2 ^ 62)(h3:-(2 ^ 62)<=hi)(h4:hi<2 ^ 62)
  (q:R (mJ lo (hi-lo).toNat) H):wpAny (model X.prog X.w) X.A (pyIter (.ref s.heap.objs.size)) (PIE X pins σ tg R) E { s with heap:=s.heap.push { cls:=.type "range", data:=.fields #[.int lo t,.int hi u,.int 1 v] },toks:=tk }:=by
 refine wpAny_pyIter_range (IsRange.new ..) (small_one h1 h2 h3 h4) ?_;have I1:Inv X pins σ H { s with heap:=s.heap.push { cls:=.type "range", data:=.fields #[.int lo t,.int hi u,.int 1 v] },toks:=tk }:=I.kept λb o e=>c8 _ e;refine⟨(s.heap.push { cls:=.type "range", data:=.fields #[.int lo t,.int hi u,.int 1 v] }).objs.size,[(s.heap.push { cls:=.type "range", data:=.fields #[.int lo t,.int hi u,.int 1 v] }).objs.size],_,_,H,rfl,
  I1.kept (t':=tk) λb o e=>c8 _ e,A6 _ lo (hi-lo).toNat,?_,λb hb=>?_,q⟩
 .have e1:lo+((0:Nat):Int)*1=lo:=by simp
  have e2:(((hi-lo).toNat:Nat):Int)-((0:Nat):Int)=Builtin.Range.rangeSize lo hi 1:=by rw[rangeSize_one];split<;>omega
  show IsRangeIter _ _ (lo+((0:Nat):Int)*1) ((((hi-lo).toNat:Nat):Int)-((0:Nat):Int)) 1;rw[e1,e2];exact iC _ rfl
 .have e:b=(s.heap.push { cls:=.type "range", data:=.fields #[.int lo t,.int hi u,.int 1 v] }).objs.size:=by simpa using hb
  subst e;exact I1.nI (az _) (I1.hok.fresh (az _))
def NL(ta:TA):TI:=λσ H R=>ta σ H λvs H1=>∃j:Int,vs=[.int j] /\ -(2 ^ 62)<=j/\j<2 ^ 62/\R (mJ 0 j.toNat) H1
def NN(ta:TA):TI:=λσ H R=>ta σ H λvs H1=>∃i j:Int,vs=[.int i,.int j]/\(-(2 ^ 62)<=i/\i<2 ^ 62 /\ -(2 ^ 62)<=j/\j<2 ^ 62)/\R (mJ i (j-i).toNat) H1
def dj{a:Expr}{ta:TA}{p:Pos}(hg:Gl X "range")(hm:X.mg "range" = none)(ha:PA X [a] ta)(hs:starEach [a] X.env=[(false,eval a X.env)]:=by rfl):PI X tg (.Call (.Name "range" p) [a] [] pos) (NL ta):=by
 intro pins s σ H R I h;refine Call_ (jK I hg hm boot_range (ki (cT (ha pos pins s σ H _ I h) λus s1 ⟨vs,H1,I1,r1,q1⟩=>?_) hs rfl));obtain⟨j,e,q1,q2,q⟩:=q1;subst e;cases r1 with
 | cons r rr =>
  cases rr;obtain⟨t,rfl⟩:=r;exact call_range_1 (yg I1 (by omega) (by omega) q1 q2 (by simpa using q))
def EE{a b:Expr}{ta:TA}{p:Pos}(hg:Gl X "range")(hm:X.mg "range" = none)(ha:PA X [a,b] ta)(hs:starEach [a,b] X.env=[(false,eval a X.env),(false,eval b X.env)]:=by rfl)(hs2:starEach [b] X.env=[(false,eval b X.env)]:=by rfl):
  PI X tg (.Call (.Name "range" p) [a,b] [] pos) (NN ta):=by
 intro pins s σ H R I h;refine Call_ (jK I hg hm boot_range (ki (cT (ha pos pins s σ H _ I h) λus s1 ⟨vs,H1,I1,r1,q1⟩=>?_) (by rw[hs,hs2]) (by rw[hs2];rfl)));obtain⟨i,j,e,⟨q1,q2,q3,q4⟩,q⟩:=q1;subst e;cases r1 with
 | cons r rr =>
  cases rr with
  | cons r' rr =>
   cases rr;obtain⟨t,rfl⟩:=r;obtain⟨t',rfl⟩:=r';exact call_range_2 (yg I1 q1 q2 q3 q4 q)
def T7(wi:TI)(g:TG)(tb:TS):TS:=λD σ H=>wi σ H λJ H1=>∃W:Nat->Nat->St->Hp->Prop,(∃m,W 0 m σ H1)/\∀i m σ H,W i m σ H ->
 (J.stop i H/\D.nx σ H)\/(J.go i H/\∃N:St->Hp->Prop,(∀σ' H',N σ' H'->∃m',m'<m/\W (i+1) m' σ' H')/\∀x H',J.Gx i H x H'->g x σ H' λσ2 H2=>tb { D with nx:=N,ct:=N,bk:=D.nx } σ2 H2)
def lz(fp:List Addr)(h:Heap):List (Addr×Obj):=fp.filterMap λb=>(h.get? b).map λo=>(b,o)
def dZ{o:Obj}(hb:b∈fp)(e:h.get? b=some o):(b,o)∈lz fp h:=List.mem_filterMap.mpr ⟨b,hb,by rw[e];rfl⟩
def pN{p:Addr×Obj}(hp:p∈lz fp h):p.1∈fp/\h.get? p.1=some p.2:=by
 obtain⟨b,hb,e⟩:=List.mem_filterMap.mp hp;cases q:h.get? b with
 | none=>rw[q] at e;cases e
 | some o =>
  rw[q] at e;have e':(b,o)=p:=Option.some.inj e;subst e';exact⟨hb,q⟩
def Inv.pinned{σ:St}(I:Inv X pins σ H s)(hf:∀b∈fp,iF X pins H b)(ho:∀b∈fp,∃o,s.heap.get? b=some o/\∀v,o.data≠.cell v):Inv X (pins++lz fp s.heap) σ H s :=
 I.lY λp hp=>(aO.mp hp).elim (λz=>I.pin p (cA _ z)) λz=>by obtain⟨hb,e⟩:=pN z;obtain⟨f0,f1,f2,_⟩:=hf p.1 hb;obtain⟨o,e',d⟩:=ho p.1 hb;rw[e] at e';cases e';exact⟨e,f0,f1,f2,d⟩
def Inv.lA{pl:List (Addr×Obj)}{σ:St}(I:Inv X (pins++pl) σ H s):Inv X pins σ H s:=I.lY λp hp=>I.pin p (cA _ (mX _ hp))
def eK{iter:Expr}{wi:TI}(hp:PassesOwn (model X.prog X.w) X.A X.env X.xe)(hc:X.calm=true)(hi:PI X tg iter wi)(hg:PG X tg g)(hb:uQ X body tb)
  (hs:∀x,foldedSetIterable iter X.env x=pure x:=by intro _;rfl):PS X (.For tg iter body [] pos) (T7 wi g tb):=by
 sleep 62;refine wpAny_For (cT (hi pins s σ H _ I h) λv s1 h1=>cT h1 λitv s2 h2=>?_) hs;sleep 51;have r6:∀{H':Hp},(∀b∈fp,H' b=none)->∀b∈fp,iF X pins H' b:=λhn b hb=>⟨hn b hb,(f2 b hb).2⟩;refine codeAny_forLoop_any (λn s'=>∃i σ' H',Inv X pins σ' H' s'/\tn i s'.heap/\(∀b∈fp,H' b=none)/\W i n σ' H') ?_ m0 ⟨0,σ,H2,I2,st2,λb hb=>(f2 b hb).1,w0⟩;rintro n s3 ⟨i,σ3,H3,I3,st3,NO,w3⟩;rcases turn i n σ3 H3 w3 with⟨stop,qn⟩|⟨go,N,hN,step⟩
 .refine wpAny_passesOwn hp (cT (T.done X rfl rfl rfl hc i pins s3 σ3 H3 X.xe I3 (r6 NO) st3 stop) λr s4 ⟨hr,I4⟩=>?_);subst hr;exact wpAny_execs_nil ⟨σ3,H3,I4,qn⟩
 .refine wpAny_passesOwn hp (cT (T.item X rfl rfl rfl hc i pins s3 σ3 H3 X.xe I3 (r6 NO) st3 go) λr s4 ⟨u,hr,h4⟩=>?_);subst hr;refine wpAny_passesOwn hp (cT h4 λ_ s5 ⟨x,H5,I5,r5,y5,A7,T8⟩=>?_);have T9:=I5.pinned (r6 T8) (T.obj _ _ A7);refine wpAny_passesOwn hp (cT (hg _ s5 σ3 H5 x u _ T9 r5 (step x H5 y5)) λ_ s6 ⟨σ6,H6,I6,q6⟩=>?_);refine wpAny_passesOwn hp (cT (hb _ s6 σ6 H6 _ I6 q6) λf s7 q7=>?_);have again:∀{σ7:St}{H7:Hp},Inv X (pins++lz fp s5.heap) σ7 H7 s7->N σ7 H7->∃m,m<n/\∃i σ' H',Inv X pins σ' H' s7/\tn i s7.heap/\(∀b∈fp,H' b=none)/\W i m σ' H':=λ{σ7 H7} I7 n7=>by obtain⟨m',hm,w7⟩:=hN σ7 H7 n7;refine⟨m',hm,i+1,σ7,H7,I7.lA,T.keep _ _ _ A7 λb hb o e=>(I7.pin (b,o) (cA _ (cA _ (dZ hb e)))).1,λb hb=>?_,w7⟩;sleep 93
  cases f with
  | next=>obtain⟨σ7,H7,I7,n7⟩:=q7;exact again I7 n7
  | cont=>obtain⟨σ7,H7,I7,n7⟩:=q7;exact again I7 n7
  | brk=>obtain⟨σ7,H7,I7,q7⟩:=q7;exact⟨σ7,H7,I7.lA,q7⟩
  | ret v=>obtain⟨x7,σ7,H7,I7,r7,q7⟩:=q7;exact⟨x7,σ7,H7,I7.lA,r7,q7⟩
end
def GK{σ:St}(Pv:Nat->St->Hp->Prop)(h0:Pv 0 σ H)(hl:∀i σ H,i<=xs.length->Pv i σ H->bE K H a xs)
  (hs:∀i x σ H,xs[i]?=some x->Pv i σ H->g x σ H λσ2 H2=>tb { D with nx:=Pv (i+1),ct:=Pv (i+1),bk:=D.nx } σ2 H2)(hd:∀σ H,Pv xs.length σ H->D.nx σ H):
  ∃W:Nat->Nat->St->Hp->Prop,(∃m,W 0 m σ H)/\∀i m σ H,W i m σ H ->
   ((KS K a).stop i H/\D.nx σ H)\/((KS K a).go i H/\∃N:St->Hp->Prop,(∀σ' H',N σ' H'->∃m',m'<m/\W (i+1) m' σ' H')/\∀x H',(KS K a).Gx i H x H'->g x σ H' λσ2 H2=>tb { D with nx:=N,ct:=N,bk:=D.nx } σ2 H2):=by sleep 24
def Lg{σ:St}(Pv:Nat->St->Hp->Prop)(h0:Pv 0 σ H)(hl:∀i σ H,i<=xs.length->Pv i σ H->cM K H a xs)
  (hs:∀i x σ H,xs[i]?=some x->Pv i σ H->g x σ H λσ2 H2=>tb { D with nx:=Pv (i+1),ct:=Pv (i+1),bk:=D.nx } σ2 H2)(hd:∀σ H,Pv xs.length σ H->D.nx σ H):
  ∃W:Nat->Nat->St->Hp->Prop,(∃m,W 0 m σ H)/\∀i m σ H,W i m σ H ->
   ((KU K a).stop i H/\D.nx σ H)\/((KU K a).go i H/\∃N:St->Hp->Prop,(∀σ' H',N σ' H'->∃m',m'<m/\W (i+1) m' σ' H')/\∀x H',(KU K a).Gx i H x H'->g x σ H' λσ2 H2=>tb { D with nx:=N,ct:=N,bk:=D.nx } σ2 H2):=by sleep 24
def EF{lo:Int}{σ:St}(Pv:Nat->St->Hp->Prop)(h0:Pv 0 σ H)
  (hs:∀i σ H,i<n->Pv i σ H->g (.int (lo+i)) σ H λσ2 H2=>tb { D with nx:=Pv (i+1),ct:=Pv (i+1),bk:=D.nx } σ2 H2)(hd:∀σ H,Pv n σ H->D.nx σ H):
  ∃W:Nat->Nat->St->Hp->Prop,(∃m,W 0 m σ H)/\∀i m σ H,W i m σ H ->
   ((mJ lo n).stop i H/\D.nx σ H)\/((mJ lo n).go i H/\∃N:St->Hp->Prop,(∀σ' H',N σ' H'->∃m',m'<m/\W (i+1) m' σ' H')/\∀x H',(mJ lo n).Gx i H x H'->g x σ H' λσ2 H2=>tb { D with nx:=N,ct:=N,bk:=D.nx } σ2 H2):=by
 refine⟨λi m σ H=>m=n-i/\i<=n/\Pv i σ H,⟨n,by simp,aH _,h0⟩,?_⟩;rintro i m σ H ⟨rfl,hi,p⟩;by_cases hlt:i<n
 .refine .inr ⟨hlt,Pv (i+1),λσ' H' p'=>⟨n-(i+1),by omega,rfl,hlt,p'⟩,λx H' y=>?_⟩;obtain⟨e,y⟩:=y;subst e y;exact hs i σ _ hlt p
 .have e:i=n:=by omega
  subst e;exact .inl ⟨az _,hd σ H p⟩
abbrev R2:=V->V->Hp->VK->Prop
def jS(X:Cx)(f:Value->Value->Sem Value)(r:R2):Prop :=
 ∀(pins:List (Addr×Obj))(s:Shared)(σ:St)(H:Hp)(x y:V)(v u:Value)(Q:VK),Inv X pins σ H s->RelV x v->RelV y u->r x y H Q ->
  wpAny (model X.prog X.w) X.A (f v u) (EP X pins σ Q) X.xe s
def Zc(X:Cx)(f:Value->Sem Value)(r:V->Hp->VK->Prop):Prop :=
 ∀(pins:List (Addr×Obj))(s:Shared)(σ:St)(H:Hp)(x:V)(v:Value)(Q:VK),Inv X pins σ H s->RelV x v->r x H Q ->
  wpAny (model X.prog X.w) X.A (f v) (EP X pins σ Q) X.xe s
def di(X:Cx)(f:Value)(r:List V->Hp->VK->Prop):Prop :=
 ∀(pins:List (Addr×Obj))(s:Shared)(σ:St)(H:Hp)(xs:List V)(us:List Value)(Q:VK),Inv X pins σ H s->Vals xs us->r xs H Q ->
  wpAny (model X.prog X.w) X.A (call f us) (EP X pins σ Q) X.xe s
def Zd(X:Cx)(r:V->Hp->(Bool->Hp->Prop)->Prop):Prop :=
 ∀(pins:List (Addr×Obj))(s:Shared)(σ:St)(H:Hp)(x:V)(v:Value)(Q:Bool->Hp->Prop),Inv X pins σ H s->RelV x v->r x H Q ->
  wpAny (model X.prog X.w) X.A (truthy v) (TP X pins σ Q) X.xe s
def Pz(r:R2)(ta tb:TE):TE:=λσ H Q=>ta σ H λx H1=>tb σ H1 λy H2=>r x y H2 Q
def tUn(r:V->Hp->VK->Prop)(ta:TE):TE:=λσ H Q=>ta σ H λx H1=>r x H1 Q
def rI(C:Int->Int->Prop)(g:Int->Int->V):R2:=λx y H Q=>∃i j,x=.int i/\y=.int j/\C i j/\Q (g i j) H
def Lh(g:Int->Int->V):R2:=λx y H Q=>∃i j,x=.int i/\y=.int j/\Q (g i j) H
def rU(g:Int->V):V->Hp->VK->Prop:=λx H Q=>∃i,x=.int i/\Q (g i) H
section
variable {X:Cx}{a b c:Expr}{ta tb tc:TE}{pos:Pos}
def PB(ha:PE X a ta)(hb:PE X b tb){σ:St}{R:V->V->Hp->Prop}(I:Inv X pins σ H s)
  (h:ta σ H λx H1=>tb σ H1 λy H2=>R x y H2){Q:Value->Shared->Prop}
  (hf:∀v u s2 x y H2,Inv X pins σ H2 s2->RelV x v->RelV y u->R x y H2->wpAny (model X.prog X.w) X.A (f v u) Q X.xe s2):
  wpAny (model X.prog X.w) X.A (eval a X.env) (λv s₁=>wpAny (model X.prog X.w) X.A (eval b X.env) (λu s₂=>wpAny (model X.prog X.w) X.A (f v u) Q X.xe s₂) X.xe s₁) X.xe s:=by sleep 98
def ay{op:Operator}(ho:jS X (binaryOp op) r)(ha:PE X a ta)(hb:PE X b tb):PE X (.BinOp a op b pos) (Pz r ta tb):=by sleep 31;exact wpAny_BinOp (PB ha hb I h λv u s2 x y H2 I2 rx ry q=>ho pins s2 σ H2 x y v u Q I2 rx ry q)
def lB{op:UnaryOp}{r:V->Hp->VK->Prop}(ho:Zc X (unaryOp op) r)(ha:PE X a ta):PE X (.UnaryOp op a pos) (tUn r ta):=by sleep 31;exact UnaryOp_ (cT (ha pins s σ H _ I h) λv s1 ⟨x,H1,I1,r1,q1⟩=>ho pins s1 σ H1 x v Q I1 r1 q1)
def Ua{C:Int->Int->Prop}{g:Int->Int->Int}
  (rule:∀(i j:Int)(t u:Tok)(s:Shared)(Q:Value->Shared->Prop)(E:Value->Shared->Prop),C i j->Q (.int (g i j) s.toks) { s with toks:=s.toks+1 }->wpAny (model X.prog X.w) X.A (f (.int i t) (.int j u)) Q E s):
  jS X f (rI C λi j=>.int (g i j)):=by sleep 30;obtain⟨i,j,rfl,rfl,hc,q⟩:=h;sleep 89;sleep 211;exact rule i j t t' s _ _ hc ⟨.int (g i j),H,I.tok _,⟨_,rfl⟩,q⟩
def Ub{g:Int->Int->Int}
  (rule:∀(i j:Int)(t u:Tok)(s:Shared)(Q:Value->Shared->Prop)(E:Value->Shared->Prop),Q (.int (g i j) s.toks) { s with toks:=s.toks+1 }->wpAny (model X.prog X.w) X.A (f (.int i t) (.int j u)) Q E s):
  jS X f (Lh λi j=>.int (g i j)):=by sleep 30;obtain⟨i,j,rfl,rfl,q⟩:=h;sleep 89;sleep 211;exact rule i j t t' s _ _ ⟨.int (g i j),H,I.tok _,⟨_,rfl⟩,q⟩
def Li{g:Int->Int->Bool}
  (rule:∀(i j:Int)(t u:Tok)(s:Shared)(Q:Value->Shared->Prop)(E:Value->Shared->Prop),Q (.bool (g i j)) s->wpAny (model X.prog X.w) X.A (f (.int i t) (.int j u)) Q E s):
  jS X f (Lh λi j=>.bl (g i j)):=by sleep 30;obtain⟨i,j,rfl,rfl,q⟩:=h;sleep 89;sleep 211;exact rule i j t t' s _ _ ⟨.bl (g i j),H,I,rfl,q⟩
def Ze(i j:Int):Prop:=0<j/\j<1073741824
def Zf(i j:Int):Prop:=0<=j/\j<=1000000/\i.natAbs<2 ^ 64
def PD(i j:Int):Prop:=(-(2 ^ 64)<i/\i<2 ^ 64)\/(-(2 ^ 64)<j/\j<2 ^ 64)
def PD.ok{i j:Int}(h:PD i j):IntMulOk i j:=by
 rcases h with⟨h1,h2⟩|⟨h1,h2⟩
 .exact .of_left (intBits_le_64 h1 h2)
 .exact .of_right (intBits_le_64 h1 h2)
def aZ:jS X (binaryOp .Add) (Lh λi j=>.int (i+j)):=Ub λ_ _ _ _ _ _ _ q=>add_int q
def iG:jS X (binaryOp .Sub) (Lh λi j=>.int (i-j)):=Ub λ_ _ _ _ _ _ _ q=>sub_int q
def ja:jS X (binaryOp .Mult) (rI PD λi j=>.int (i*j)):=Ua λ_ _ _ _ _ _ _ hc q=>mul_int q hc.ok
def bU:jS X (binaryOp .FloorDiv) (rI Ze λi j=>.int (i / j)):=Ua λi j _ _ _ _ _ hc q=>by have h1:(0:Int)<j:=hc.1;have h2:j<1073741824:=hc.2;exact floordiv_int (by omega) (by rw[Int.fdiv_eq_ediv_of_nonneg i (by omega)];exact q) (.inl (PyProof.noPylong_small (by omega)))
def bh:jS X (binaryOp .Mod) (rI (λ_ j=>0<j) λi j=>.int (i % j)):=Ua λi j _ _ _ _ _ hc q=>by have h1:(0:Int)<j:=hc;exact mod_int' (by omega) (by rw[Int.fmod_eq_emod_of_nonneg i (by omega)];exact q)
def GL:jS X (binaryOp .Pow) (rI Zf λi j=>.int (i ^ j.toNat)):=Ua λ_ _ _ _ _ _ _ hc q=>pow_int_small hc.1 hc.2.1 hc.2.2 q
def unI{f:Value->Sem Value}{g:Int->Int}
  (rule:∀(i:Int)(t:Tok)(s:Shared)(Q:Value->Shared->Prop)(E:Value->Shared->Prop),Q (.int (g i) s.toks) { s with toks:=s.toks+1 }->wpAny (model X.prog X.w) X.A (f (.int i t)) Q E s):
  Zc X f (rU λi=>.int (g i)):=by intro pins s σ H x v Q I rx h;obtain⟨i,rfl,q⟩:=h;sleep 89;exact rule i t s _ _ ⟨.int (g i),H,I.tok _,⟨_,rfl⟩,q⟩
def jb:Zc X (unaryOp .USub) (rU λi=>.int (-i)):=unI λ_ _ _ _ _ q=>neg_int q
end
def Uc:V->V->Bool
 | .cX,.cX=>true|.cX,.int _=>true|.int _,.cX=>true|.cX,.bl _=>true|.bl _,.cX=>true|.cX,.str _=>true|.str _,.cX=>true
 | .int _,.int _=>true|.bl _,.bl _=>true|.str _,.str _=>true|.Ew _,.Ew _=>true
 | .int _,.str _=>true|.str _,.int _=>true|.bl _,.str _=>true|.str _,.bl _=>true
 | _,_=>false
def Zg:R2:=λx y H Q=>Uc x y=true/\Q (.bl (decide (x=y))) H
def rNe:R2:=λx y H Q=>Uc x y=true/\Q (.bl (!decide (x=y))) H
def CB{i j:Int}:decide (V.int i=V.int j)=(i==j):=by rw[Bool.eq_iff_iff];simp
def GN{i j:Bool}:decide (V.bl i=V.bl j)=(i==j):=by rw[Bool.eq_iff_iff];simp
def CC{i j:Str}:decide (V.str i=V.str j)=(i==j):=by rw[Bool.eq_iff_iff];simp
def CD{i j:Array UInt8}:decide (V.Ew i=V.Ew j)=(i.toList==j.toList):=by rw[Bool.eq_iff_iff];cases i;cases j;simp
section
variable {X:Cx}{a b c:Expr}{ta tb tc:TE}{pos:Pos}
def b7{σ:St}{Q:VK}{k k':Bool}(I:Inv X pins σ H s)(q:Q (.bl k) H)(e:k=k'):EP X pins σ Q (.bool k') s:=by subst e;exact⟨.bl k,H,I,rfl,q⟩
def dU:jS X (compareOp .Eq) Zg:=by
 sleep 30;obtain⟨hs,q⟩:=h;cases x with
 | cX =>
  cases rx;cases y with
  | cX=>cases ry;exact PySem.EqNone.eq_none_none (b7 I q (by simp))
  | bl j=>cases ry;exact PySem.EqNone.eq_none_bool (b7 I q (by simp))
  | int j=>obtain⟨t',rfl⟩:=ry;exact PySem.EqNone.eq_none_int (b7 I q (by simp))
  | str j=>obtain⟨t',rfl⟩:=ry;exact PySem.EqNone.eq_none_str (b7 I q (by simp))
  | _=>exact absurd (show false=true from hs) jT
 | bl i =>
  cases rx;cases y with
  | cX=>cases ry;exact PySem.EqNone.eq_bool_none (b7 I q (by simp))
  | bl j=>cases ry;exact eq_bool (b7 I q GN)
  | str j=>obtain⟨t',rfl⟩:=ry;exact PySem.EqMixed.eq_bool_str (b7 I q (by simp))
  | _=>exact absurd (show false=true from hs) jT
 | int i =>
  sleep 89;cases y with
  | cX=>cases ry;exact PySem.EqNone.eq_int_none (b7 I q (by simp))
  | int j=>obtain⟨t',rfl⟩:=ry;exact eq_int (b7 I q CB)
  | str j=>obtain⟨t',rfl⟩:=ry;exact PySem.EqMixed.eq_int_str (b7 I q (by simp))
  | _=>exact absurd (show false=true from hs) jT
 | str i =>
  sleep 89;cases y with
  | cX=>cases ry;exact PySem.EqNone.eq_str_none (b7 I q (by simp))
  | bl j=>cases ry;exact PySem.EqMixed.eq_str_bool (b7 I q (by simp))
  | int j=>obtain⟨t',rfl⟩:=ry;exact PySem.EqMixed.eq_str_int (b7 I q (by simp))
  | str j=>obtain⟨t',rfl⟩:=ry;exact eq_str (b7 I q CC)
  | _=>exact absurd (show false=true from hs) jT
 | Ew i =>
  sleep 89;cases y with
  | Ew j=>obtain⟨t',rfl⟩:=ry;exact PySem.W.eq_bytes (b7 I q CD)
  | _=>exact absurd (show false=true from hs) jT
 | _=>cases y<;>exact absurd (show false=true from hs) jT
def Ud:jS X (compareOp .NotEq) rNe:=by
 sleep 30;obtain⟨hs,q⟩:=h;cases x with
 | cX =>
  cases rx;cases y with
  | cX=>cases ry;exact PySem.EqNone.ne_none_none (b7 I q (by simp))
  | bl j=>cases ry;exact PySem.EqNone.ne_none_bool (b7 I q (by simp))
  | int j=>obtain⟨t',rfl⟩:=ry;exact PySem.EqNone.ne_none_int (b7 I q (by simp))
  | str j=>obtain⟨t',rfl⟩:=ry;exact PySem.EqNone.ne_none_str (b7 I q (by simp))
  | _=>exact absurd (show false=true from hs) jT
 | bl i =>
  cases rx;cases y with
  | cX=>cases ry;exact PySem.EqNone.ne_bool_none (b7 I q (by simp))
  | bl j=>cases ry;exact ne_bool (b7 I q (congrArg not GN))
  | str j=>obtain⟨t',rfl⟩:=ry;exact PySem.EqMixed.ne_bool_str (b7 I q (by simp))
  | _=>exact absurd (show false=true from hs) jT
 | int i =>
  sleep 89;cases y with
  | cX=>cases ry;exact PySem.EqNone.ne_int_none (b7 I q (by simp))
  | int j=>obtain⟨t',rfl⟩:=ry;exact ne_int (b7 I q (congrArg not CB))
  | str j=>obtain⟨t',rfl⟩:=ry;exact PySem.EqMixed.ne_int_str (b7 I q (by simp))
  | _=>exact absurd (show false=true from hs) jT
 | str i =>
  sleep 89;cases y with
  | cX=>cases ry;exact PySem.EqNone.ne_str_none (b7 I q (by simp))
  | bl j=>cases ry;exact PySem.EqMixed.ne_str_bool (b7 I q (by simp))
  | int j=>obtain⟨t',rfl⟩:=ry;exact PySem.EqMixed.ne_str_int (b7 I q (by simp))
  | str j=>obtain⟨t',rfl⟩:=ry;exact ne_str (b7 I q (congrArg not CC))
  | _=>exact absurd (show false=true from hs) jT
 | Ew i =>
  sleep 89;cases y with
  | Ew j=>obtain⟨t',rfl⟩:=ry;exact PySem.W.ne_bytes (b7 I q (congrArg not CD))
  | _=>exact absurd (show false=true from hs) jT
 | _=>cases y<;>exact absurd (show false=true from hs) jT
def iy:jS X (compareOp .Lt) (Lh λi j=>.bl (decide (i<j))):=Li λ_ _ _ _ _ _ _ q=>lt_int q
def CF:jS X (compareOp .LtE) (Lh λi j=>.bl (decide (i<=j))):=Li λ_ _ _ _ _ _ _ q=>le_int q
def yh:jS X (compareOp .Gt) (Lh λi j=>.bl (decide (j<i))):=Li λ_ _ _ _ _ _ _ q=>gt_int q
def Ue:jS X (compareOp .GtE) (Lh λi j=>.bl (decide (j<=i))):=Li λ_ _ _ _ _ _ _ q=>ge_int q
def PJ:jS X (compareOp .Is) (λx y H Q=>y=.cX/\Q (.bl (decide (x=.cX))) H):=by sleep 30;obtain⟨rfl,q⟩:=h;cases ry;refine is_none_gen (b7 I q ?_);sleep 238
def Lj:jS X (compareOp .IsNot) (λx y H Q=>y=.cX/\Q (.bl (!decide (x=.cX))) H):=by sleep 30;obtain⟨rfl,q⟩:=h;cases ry;refine isnot_none_gen (b7 I q ?_);sleep 238
def jS.or{r':R2}(h:jS X f r)(h':jS X f r'):jS X f (λx y H Q=>r x y H Q\/r' x y H Q):=by
 intro pins s σ H x y v u Q I rx ry q;rcases q with q|q
 .exact h pins s σ H x y v u Q I rx ry q
 .exact h' pins s σ H x y v u Q I rx ry q
def aM(b:Expr)(h:op≠.In:=by decide)(h2:op≠.NotIn:=by decide):behindInMarks op b=false:=by sleep 72
def gG(ho:jS X (compareOp op) r)(ha:PE X a ta)(hb:PE X b tb)(hm:behindInMarks op b=false):PE X (.Compare a [op] [b] pos) (Pz r ta tb):=by sleep 31;exact wpAny_Compare1 (PB ha hb I h λv u s2 x y H2 I2 rx ry q=>ho pins s2 σ H2 x y v u Q I2 rx ry q) hm
def GO(t:TE):TT:=λσ H Q=>t σ H λx H'=>∃k,x=.bl k/\Q k H'
def aG(ho:jS X (compareOp op) r)(ha:PE X a ta)(hb:PE X b tb)(hm:behindInMarks op b=false):PT X (.Compare a [op] [b] pos) (GO (Pz r ta tb)):=by
 sleep 31;refine wpAny_isTrue_Compare1 (cT (ha pins s σ H _ I h) λv s1 ⟨x,H1,I1,r1,q1⟩=>cT (hb pins s1 σ H1 _ I1 q1) λu s2 ⟨y,H2,I2,r2,q2⟩ =>
  cT (ho pins s2 σ H2 x y v u _ I2 r1 r2 q2) λc s3 ⟨z,H3,I3,r3,k,e,q3⟩=>?_) hm
 subst e;cases r3;exact wpAny_truthy_bool ⟨H3,I3,q3⟩
def GP(r r':R2)(ta tb tc:TE):TE:=λσ H Q=>ta σ H λx H1=>tb σ H1 λy H2=>r x y H2 λz H3=>∃k,z=.bl k /\
 (if k=true then tc σ H3 λw' H4=>r' y w' H4 Q else Q (.bl false) H3)
def GQ{op':CmpOp}{r':R2}(ho:jS X (compareOp op) r)(ho':jS X (compareOp op') r')(ha:PE X a ta)(hb:PE X b tb)(hc:PE X c tc)
  (hm:lastMarks [op,op'] [b,c]=false:=by with_unfolding_all rfl):PT X (.Compare a [op,op'] [b,c] pos) (GO (GP r r' ta tb tc)):=by
 sleep 31;refine isTrue_chain (cT (ha pins s σ H _ I h) λv s1 ⟨x,H1,I1,r1,q1⟩=>test_link (cT (hb pins s1 σ H1 _ I1 q1) λu s2 ⟨y,H2,I2,r2,q2⟩ =>
  cT (ho pins s2 σ H2 x y v u _ I2 r1 r2 q2) λd s3 ⟨z,H3,I3,r3,k,e,q3⟩=>?_)) hm
 subst e;cases r3;refine wpAny_truthy_bool ?_;cases k with
 | false =>
  obtain⟨k',e',q'⟩:=q3;cases e';exact ite_ff ⟨H3,I3,q'⟩
 | true =>
  refine ite_tt (test_last (cT (hc pins s3 σ H3 _ I3 q3) λw' s4 ⟨z',H4,I4,r4,q4⟩=>cT (ho' pins s4 σ H4 y z' u w' _ I4 r2 r4 q4) λd' s5 ⟨z2,H5,I5,r5,k2,e2,q5⟩=>?_));subst e2;cases r5;exact wpAny_truthy_bool ⟨H5,I5,q5⟩
def Ll(K:aD)(x:V)(H:Hp)(k:Bool):Prop :=
 match x with
 | .cX=>k=false
 | .bl b=>k=b
 | .int i=>k=(i != 0)
 | .str y=>y.length<=sizeLine/\k=((y.length:Int) != 0)
 | .Ew y=>y.size<=sizeLine/\k=((y.size:Int) != 0)
 | .ref p=>(∃xs,bE K H p xs/\k = !xs.isEmpty)\/(∃xs,cM K H p xs/\k = !xs.isEmpty)\/∃kvs,H p=some (.dK kvs)/\k = !kvs.isEmpty
 | _=>False
def A8{κ:Type}{kvs:List (κ×V)}{vs:List (κ×Value)}(r:KV kvs vs):(!vs.isEmpty) = !kvs.isEmpty:=by cases r<;>rfl
def r9{its:List Value}(r:Vals xs its):(!its.toArray.isEmpty) = !xs.isEmpty:=by cases r<;>simp
def pO:(sizeLine:Nat)<2 ^ 63:=by rw[sizeLine_eq];decide
def PK:Zd X (λx H Q=>∃k,Ll X.K x H k/\Q k H):=by
 intro pins s σ H x v Q I rx h;obtain⟨k,e,q⟩:=h;have hl:=pO;have hs:sizeLine=16777216:=sizeLine_eq;cases x with
 | cX =>
  cases rx;have e':k=false:=e;subst e';exact truthy_none ⟨H,I,q⟩
 | bl b =>
  cases rx;have e':k=b:=e;subst e';exact wpAny_truthy_bool ⟨H,I,q⟩
 | int i =>
  sleep 89;have e':k=(i != 0):=e;subst e';exact PySem.P.truthy_int ⟨H,I,q⟩
 | str y =>
  sleep 89;obtain⟨hy,e'⟩:y.length<=sizeLine/\k=((y.length:Int) != 0):=e;subst e';exact PySem.P.truthy_str (by omega) ⟨H,I.tok _,q⟩
 | Ew y =>
  sleep 89;obtain⟨hy,e'⟩:y.size<=sizeLine/\k=((y.size:Int) != 0):=e;subst e';exact PySem.W.truthy_bytes (by omega) ⟨H,I.tok _,q⟩
 | ref p =>
  cases rx;have e':(∃xs,bE X.K H p xs/\k = !xs.isEmpty)\/(∃xs,cM X.K H p xs/\k = !xs.isEmpty)\/∃kvs,H p=some (.dK kvs)/\k = !kvs.isEmpty:=e;rcases e' with⟨xs,hx,e'⟩|⟨xs,hx,e'⟩|⟨kvs,hx,e'⟩
  .subst e';obtain⟨its,r,pl,hz⟩:=I.list hx;have hlen:=r.length;exact wpAny_truthy_list pl.isList (by simp only[aV];omega) ⟨H,I.tok _,by rw[r9 r];exact q⟩
  .subst e';obtain⟨its,r,pl,hz⟩:=I.tuple hx;have hlen:=r.length;exact truthy_tuple pl (by simp only[aV];omega) ⟨H,I.tok _,by rw[r9 r];exact q⟩
  .subst e';obtain⟨hz,hS,vs,r,m⟩:kvs.length<=sizeLine/\(p==sysModules)=false/\∃vs,KV kvs vs/\s.heap.DictOf (bK X.prog X.w) p vs:=I.hok p _ hx;have hlen:kvs.length=vs.length:=g9 r;exact wpAny_truthy_dict hS m (by omega) ⟨H,I.tok _,by rw[A8 r];exact q⟩
 | _=>exact(show False from e).elim
def GR(ha:PE X a ta)(he:∀whole,isTrue a X.env whole=(do let v <- whole;standAt a.pos;holding [v] (truthy v))):
  PT X a (λσ H Q=>ta σ H λx H'=>∃k,Ll X.K x H' k/\Q k H'):=by sleep 31;exact isTrue_plain (cT (ha pins s σ H _ I h) λv s1 ⟨x,H1,I1,r1,q1⟩=>PK pins s1 σ H1 x v Q I1 r1 q1) (he _)
def vals1{x:V}(r:Vals [x] us):∃u,us=[u]/\RelV x u:=by
 cases r with
 | cons r1 r2=>cases r2;exact⟨_,rfl,r1⟩
def vals2{x y:V}(r:Vals [x,y] us):∃u w',us=[u,w']/\RelV x u/\RelV y w':=by
 cases r with
 | cons r1 r2 =>
  cases r2 with
  | cons r3 r4=>cases r4;exact⟨_,_,rfl,r1,r3⟩
def EG(hc:X.calm=true):di X (.builtin "min") (λxs H Q=>∃i j,xs=[.int i,.int j]/\Q (.int (if j<i then j else i)) H):=by
 sleep 38;obtain⟨i,j,rfl,q⟩:=h;obtain⟨u,w',rfl,⟨t,rfl⟩,⟨t',rfl⟩⟩:=vals2 r;refine min_two_ints (I.ok.hd hc) λh' tk k=>⟨_,H,I.kept k,?_,q⟩;by_cases hj:j<i
 .rw[if_pos hj,if_pos hj];exact⟨_,rfl⟩
 .rw[if_neg hj,if_neg hj];exact⟨_,rfl⟩
def EH:di X (.type "int") (λxs H Q=>(∃i,xs=[.int i]/\Q (.int i) H)\/∃k,xs=[.bl k]/\Q (.int (if k then 1 else 0)) H):=by
 sleep 38;rcases h with⟨i,rfl,q⟩|⟨k,rfl,q⟩
 .obtain⟨u,rfl,t,rfl⟩:=vals1 r;exact call_int_int ⟨.int i,H,I,⟨_,rfl⟩,q⟩
 .obtain⟨u,rfl,r1⟩:=vals1 r;cases r1;exact call_int_bool ⟨.int (if k then 1 else 0),H,I.tok _,⟨_,rfl⟩,q⟩
end
structure PL (h:Heap) (x dx C:Addr) (mA:Str->Option Value):Prop where
 obj:h.get? x=some (PySem.W.instObj C dx)
 ns:h.Ns1 dx mA
 ne:dx≠x
def EI{dx:Addr}{mA:Str->Option Value}(n:h.Ns1 dx mA):∃od,h.get? dx=some od/\∀name,PySem.W.lookIn name od=some (mA name):=by
 obtain⟨o,es,ep,ho,hd,hk,_,hm⟩:=n;refine⟨o,ho,λname=>?_⟩;have e:=hm name;unfold nsFind findBy at e;rw[<- Array.find?_toList] at e;unfold PySem.W.lookIn;rw[hd];dsimp only;split
 .rename_i y q;rw[q] at e;exact congrArg some e
 .rename_i q;rw[q] at e;have a:es.toList.any (·.refKey)=false:=by rw[List.any_eq_false];intro y hy;obtain⟨z,t,hkey⟩:=hk y (Array.mem_toList_iff.mp hy);simp[DictEntry.refKey,hkey]
  have a':¬es.toList.any (·.refKey)=true:=by rw[a];exact jT
  rw[if_neg a'];exact congrArg some e
def PL.look{h:Heap}{x dx C:Addr}{mA:Str->Option Value}(I:PL h x dx C mA):∃od,PySem.W.InstAt h x (PySem.W.instObj C dx) C (some od)/\∀name,PySem.W.lookIn name od=some (mA name) :=
 let⟨od,ho,hl⟩:=EI I.ns
 ⟨od,⟨I.obj,rfl,rfl,ho⟩,hl⟩
section
variable {prog:Program}{w:World}{A:Around}{E:Value->Shared->Prop}{s:Shared}{K:aD}{x dx C f:Addr}{mA:Str->Option Value}{name:Str}{v:Value}
end
def ly.some_of{o:Option Value}(r:ly (some v) o):∃u,o=some u/\RelV v u:=by
 cases o with
 | none=>exact(show False from r).elim
 | some u=>exact⟨u,rfl,r⟩
section
variable {P:Program}{w:World}{H H':Hp}{h h':Heap}{a C dx:Addr}{fs fs':List (Str×V)}
def Lm(hok:m9 P w H h)(e:H a=some (.ins C dx fs)):∃mA,PL h a dx C mA/\(∀f,ly (fs.lookup f) (mA f))/\PySem.Within mA (fs.map (·.1))/\fs.length<=1000/\H dx=some (.own a):=by obtain⟨d,z,ne,ob,mA,n,r,q⟩:=(show cZ P w H h a (.ins C dx fs) from hok a _ e);exact⟨mA,⟨ob,n,ne⟩,r,q,z,d⟩
end
structure Zh (K:aD) (C:Addr):Prop where
 pg:PySem.W.plainGet K C Str.empty=true
 hd:PySem.W.hasDictIn K C=true
 po:PySem.W.plainOver K C=true
 sa:PySem.W.findIn K (.ref C) "__setattr__" = some (some (.builtin "object.__setattr__"))
def Zh.get{C:Addr}(c:Zh K C)(f:Str):PySem.W.plainGet K C f=true:=c.pg
section
variable {X:Cx}{pins:List (Addr×Obj)}{σ:St}{H:Hp}{s:Shared}{a C dx:Addr}{fs:List (Str×V)}{f:Str}{v:V}{A:Around}{E:Value->Shared->Prop}
def Inv.made(I:Inv X pins σ H s):Inv X pins σ (upd (upd H s.heap.objs.size (.own (s.heap.objs.size+1))) (s.heap.objs.size+1) (.ins C s.heap.objs.size []))
  { s with heap:=(s.heap.push PySem.W.emptyDict).push (PySem.W.instObj C s.heap.objs.size) }:=by
 have e1:(s.heap.push PySem.W.emptyDict).get? s.heap.objs.size=some PySem.W.emptyDict:=iC s.heap rfl;have e2:((s.heap.push PySem.W.emptyDict).push (PySem.W.instObj C s.heap.objs.size)).get? (s.heap.objs.size+1)=some (PySem.W.instObj C s.heap.objs.size):=by
  have:=iC (s.heap.push PySem.W.emptyDict) (o:=PySem.W.instObj C s.heap.objs.size) rfl
  rwa [fE] at this
 have e3:(s.heap.push PySem.W.emptyDict).Ns s.heap.objs.size (λ_=>none):=⟨PySem.W.emptyDict,#[],_,e1,rfl,(λe he=>absurd he (by simp)),λ_=>rfl⟩;have I1:=I.laid (a:=s.heap.objs.size) (o:=.own (s.heap.objs.size+1)) (h':=s.heap.push PySem.W.emptyDict) (t':=s.toks) (λb u q=>c8 _ q) (az _) ⟨_,e1⟩;refine I1.laid (a:=s.heap.objs.size+1) (o:=.ins C s.heap.objs.size []) (t':=s.toks) (λb u q=>c8 _ q) (Nat.le_of_eq (fE _ _)) ?_;have ne:s.heap.objs.size≠s.heap.objs.size+1:=aQ (g8 _);refine⟨by rw[ck ne,jU],aH _,ne,e2,λ_=>none,(Heap.Ns1.of_empty e3).at λo q=>c8 _ q,λ_=>gf,λy hy=>absurd rfl hy⟩
end
def Ug(X:Cx)(op:Operator)(rd:V->V->Hp->VK->Prop):Prop :=
 ∀(pins:List (Addr×Obj))(s:Shared)(σ:St)(H:Hp)(x y:V)(u v:Value)(Q:VK),Inv X pins σ H s->RelV x u->RelV y v->rd x y H Q->wpAny (model X.prog X.w) X.A (inplaceOp op u v) (EP X pins σ Q) X.xe s
section
variable {X:Cx}{o e value:Expr}{f:Str}{pos pos' tpos:Pos}{ta tv:TE}
def Uh:V->V->Hp->VK->Prop:=λx y H Q=>∃i j,x=.int i/\y=.int j/\Q (.int (i-j)) H
def PM:Ug X .Sub Uh:=by rintro pins s σ H x y u v Q I rx ry ⟨i,j,rfl,rfl,q⟩;obtain⟨t,rfl⟩:=(show ∃t,u=Value.int i t from rx);obtain⟨t',rfl⟩:=(show ∃t',v=Value.int j t' from ry);exact PyProof.Rows.isub_int ⟨.int (i-j),H,I.tok _,⟨_,rfl⟩,q⟩
end
section
variable {X:Cx}{pins:List (Addr×Obj)}{σ:St}{H:Hp}{s:Shared}{A:Around}{E:Value->Shared->Prop}{Q:Value->Shared->Prop}{c:Value}{b:Bool}
inductive jl (K:aD) (H:Hp):V->Value->Prop where
 | cX:jl K H .cX (.type "NoneType")
 | bl (x:Bool):jl K H (.bl x) (.type "bool")
 | int (i:Int):jl K H (.int i) (.type "int")
 | str (x:Str):jl K H (.str x) (.type "str")
 | S4 (x:UInt64):jl K H (.S4 x) (.type "float")
 | lst {a:Addr} {xs:List V} (e:H a=some (.lst xs)):jl K H (.ref a) (.type "list")
 | Cy {a:Addr} {o:Obj} {xs:List V} (e:H a=some (.Cy o (.lst xs))):jl K H (.ref a) (.type "list")
 | tup {a:Addr} {xs:List V} (e:H a=some (.tup xs)):jl K H (.ref a) (.type "tuple")
 | dK {a:Addr} {kvs:List (Key×V)} (e:H a=some (.dK kvs)):jl K H (.ref a) (.type "dict")
 | dT {a:Addr} {kvs:List (List Key×V)} (e:H a=some (.dT kvs)):jl K H (.ref a) (.type "dict")
 | ins {a C dx:Addr} {fs:List (Str×V)} (e:H a=some (.ins C dx fs)) (cl:Zh K C) (ha:PySem.W.findIn K (.ref C) "__class__" = some (some (.builtin "object.__class__")))
   (hn:PySem.W.specialIn K (.builtin "object.__class__") "__get__" = some (some (.builtin "getset_descriptor.__get__"))) (htk:PySem.W.takesIn K (.builtin "object.__class__")=some true)
   (hm:PySem.W.mroIn K C (.type "object")=some true):jl K H (.ref a) (.ref C)
def EJ{x:V}{t:Value}(I:Inv X pins σ H s)(rx:RelV x u)(ty:jl X.K H x t)(e:PySem.W.kitOne X.K t c=some b)(h:∀tk,Q (.bool b) { s with toks:=tk }):
  wpAny (model X.prog X.w) A (call (.builtin "isinstance") [u,c]) Q E s:=by
 cases ty with
 | cX=>cases(show u=Value.none from rx);exact gc PySem.W.kitx_none I.wm gf e (λz=>nomatch z) h
 | bl y=>cases(show u=Value.bool y from rx);exact gc PySem.W.kitx_bool I.wm gf e (λz=>nomatch z) h
 | int i=>obtain⟨t,q⟩:=(show ∃t,u=Value.int i t from rx);cases q;exact gc PySem.W.kitx_int I.wm gf e (λz=>nomatch z) h
 | str y=>obtain⟨t,q⟩:=(show ∃t,u=Value.str y t from rx);cases q;exact gc PySem.W.kitx_str I.wm gf e (λz=>nomatch z) h
 | S4 y=>obtain⟨t,q⟩:=(show ∃t,u=Value.float y t from rx);cases q;exact gc PySem.W.kitx_float I.wm gf e (λz=>nomatch z) h
 | @lst a xs ea =>
  sleep 131;obtain⟨_,_,n,_,h1⟩:=(show cZ X.prog X.w H s.heap a (.lst xs) from I.hok a _ ea);sleep 254
 | @Cy a ob xs ea =>
  sleep 131;obtain⟨_,_,_,n,_,h1⟩:=(show cZ X.prog X.w H s.heap a (.Cy ob (.lst xs)) from I.hok a _ ea);sleep 254
 | @tup a xs ea =>
  sleep 131;obtain⟨_,_,_,p⟩:=(show cZ X.prog X.w H s.heap a (.tup xs) from I.hok a _ ea);obtain⟨o,h1,h2,_⟩:=p;exact gc PySem.W.kitx_tuple I.wm ⟨o,h1,h2⟩ e (λz=>nomatch z) h
 | @dK a kvs ea =>
  sleep 131;obtain⟨_,_,vs,_,p⟩:=(show cZ X.prog X.w H s.heap a (.dK kvs) from I.hok a _ ea);obtain⟨o,es,ep,h1,h2,_⟩:=p;sleep 247
 | @dT a kvs ea =>
  sleep 131;obtain⟨_,_,xs,_,o,es,ep,h1,h2,_⟩:=(show cZ X.prog X.w H s.heap a (.dT kvs) from I.hok a _ ea);sleep 247
 | @ins a C dx fs ea cl ha hn htk hm =>
  sleep 131;obtain⟨mA,O,_⟩:=Lm I.hok ea;obtain⟨od,J,_⟩:=O.look;exact gc (PySem.W.kitx_own (cl.get _) cl.hd ha hn htk hm) I.wm J e (λz=>nomatch z) h
end
structure jc (k:Nat) (A:Around):Prop where
 hd:A.handled=none
 dp:A.depth+3*k+5<recursionLimit
 un:A.units+16*k+200<cLine
def jc.mono{j k:Nat}{A:Around}(r:jc k A)(h:j<=k):jc j A:=⟨r.hd,by have:=r.dp;omega,by have:=r.un;omega⟩
theorem jc.deeper(r:jc (k+1) A)(env:Env):jc k (A.deeper env) :=
 ⟨r.hd,by have:=r.dp;show A.depth+1+3*k+5<_;omega,by have:=r.un;show A.units+3+16*k+200<_;omega⟩
theorem jc.in1(r:jc (k+1) A):jc k A.in1 :=
 ⟨r.hd,by have:=r.dp;show A.depth+3*k+5<_;omega,by have:=r.un;show A.units+1+16*k+200<_;omega⟩
theorem jc.depth(r:jc k A):A.depth<recursionLimit:=by have:=r.dp;omega
theorem jc.units(r:jc k A):A.units+64<cLine:=by have:=r.un;omega
def Ui:TA:=λ_ H Q=>Q [] H
def NP(ta:TE)(tr:TA):TA:=λσ H Q=>ta σ H λx H1=>tr σ H1 λxs H2=>Q (x::xs) H2
section
variable {X:Cx}{e:Expr}{es:List Expr}{te:TE}{t:TA}{pos:Pos}
def ai:PA X [] Ui:=λ_ _ _ _ H Q I h=>Calls.spliced_nil ⟨[],H,I,.nil,h⟩
def aa(ha:PE X e te)(hr:PA X es t)(hs:starEach (e::es) X.env=(false,eval e X.env)::starEach es X.env:=by rfl):PA X (e::es) (NP te t):=by intro pos pins s σ H Q I h;rw[hs];show wpAny _ _ (spliced ((false,eval e X.env)::backTo pos (starEach es X.env))) _ _ s;refine Calls.spliced_cons (cT (ha pins s σ H _ I h) λu s1 ⟨x,H1,I1,r1,q1⟩=>?_);exact cT (hr pos pins s1 σ H1 _ I1 q1) λus s2 ⟨xs,H2,I2,r2,q2⟩=>⟨x::xs,H2,I2,.cons r1 r2,q2⟩
def Uj(t:TA):TE:=λσ H Q=>t σ H λxs H1=>xs.length<=sizeLine/\∀p,H1 p=none->Q (.ref p) (upd H1 p (.tup xs))
def Uk(t:TA):TE:=λσ H Q=>t σ H λxs H1=>xs.length<=sizeLine/\∀p,H1 p=none->Q (.ref p) (upd H1 p (.lst xs))
def bB{x1}(h:PA X es t):PE X (.Tuple es x1 pos) (Uj t):=by intro pins s σ H Q I hq;refine wpAny_Tuple_spliced (cT (h pos pins s σ H _ I hq) λus s1 ⟨xs,H1,I1,r,z,q⟩=>⟨by rw[<- r.length];exact z,?_⟩);have hf:H1 s1.heap.objs.size=none:=I1.hok.fresh (az _);refine⟨.ref s1.heap.objs.size,upd H1 s1.heap.objs.size (.tup xs),I1.laid (t':=s1.toks) (λb u e=>c8 _ e) (az _) ?_,rfl,q _ hf⟩;exact⟨z,us,r,⟨_,iC _ rfl,rfl,_,rfl⟩⟩
def dM(h:PA X es t):PE X (.List es pos) (Uk t):=by intro pins s σ H Q I hq;refine wpAny_List_spliced (cT (h pos pins s σ H _ I hq) λus s1 ⟨xs,H1,I1,r,z,q⟩=>⟨by rw[<- r.length];exact z,?_⟩);have hf:H1 s1.heap.objs.size=none:=I1.hok.fresh (az _);refine⟨.ref s1.heap.objs.size,upd H1 s1.heap.objs.size (.lst xs),I1.laid (t':=s1.toks) (λb u e=>c8 _ e) (az _) ?_,rfl,q _ hf⟩;exact⟨z,us,0,r,iC _ rfl⟩
end
abbrev Sp:=List V->Hp->VK->XK->Prop
abbrev EK:=List Env->Hp->Shared->XK->Value->Shared->Prop
structure A9 (P:Program) (w:World) (K:aD) (mg:Str->Option Value) (base:Heap) (A:Around) (outer:List Env) (s:Shared) (H:Hp):Prop where
 frames:A.frames=some outer
 mod:Mod K mg base
 bs:∀b o,base.get? b=some o->s.heap.get? b=some o/\H b=none
 KR:base.objs.size<=s.heap.objs.size
 qB:s.heap.FunFrames base outer
 Po:∀b∈frs outer,H b=none
 hok:m9 P w H s.heap
 bare:AllBare s.gens
def CE(outer:List Env)(P:Program)(w:World)(H:Hp)(s:Shared)(Q:VK)(u:Value)(s':Shared):Prop :=
 ∃v H',s'.os=s.os/\AllBare s'.gens/\Un (frs outer) [] H H' s.heap s'.heap/\m9 P w H' s'.heap/\RelV v u/\Q v H'
def CR(CX:EK)(outer:List Env)(P:Program)(w:World)(H:Hp)(s:Shared)(Q:VK)(E:XK)(r:Result)(s':Shared):Prop :=
 match r with
 | .ok (.ret u)=>CE outer P w H s Q u s'
 | .ok _=>False
 | .error e=>CX outer H s E e s'
structure b8 (P:Program) (w:World) (K:aD) (mg:Str->Option Value) (base:Heap) (CX:EK) (k:Nat) (f:Addr) (fd:FuncData) (ps:List Str) (sp:Sp):Prop where
 len:∀vs H Q E,sp vs H Q E->vs.length=ps.length
 run:∀(A:Around)(outer:List Env)(s:Shared)(H:Hp)(args:Args)(us:List Value)(vs:List V)(Q:VK)(E:XK),jc k A->A9 P w K mg base A outer s H->BindsTo s fd args (ps.zip us)->Vals vs us->sp vs H Q E ->
  codeAny (model P w) A (.call (.ref f) args) (CR CX outer P w H s Q E) s
theorem b8.mono{P:Program}{w:World}{K:aD}{mg:Str->Option Value}{base:Heap}{CX:EK}{j k:Nat}{f:Addr}{fd:FuncData}{ps:List Str}{sp:Sp}(F:b8 P w K mg base CX j f fd ps sp)(h:j<=k):
  b8 P w K mg base CX k f fd ps sp:=⟨F.len,λA outer s H args us vs Q E hr=>F.run A outer s H args us vs Q E (hr.mono h)⟩
def b8.imp{f:Addr}{fd:FuncData}{sp sp':Sp}(F:b8 P w K mg base CX k f fd ps sp)
  (h:∀vs H Q E,sp' vs H Q E->sp vs H Q E):b8 P w K mg base CX k f fd ps sp' :=
 ⟨λvs H Q E q=>F.len vs H Q E (h _ _ _ _ q),λA outer s H args us vs Q E hr he hb hv hs=>F.run A outer s H args us vs Q E hr he hb hv (h _ _ _ _ hs)⟩
theorem A9.in1{outer:List Env}(e:A9 P w K mg base A outer s H):
  A9 P w K mg base A.in1 outer s H:=⟨e.frames,e.mod,e.bs,e.KR,e.qB,e.Po,e.hok,e.bare⟩
section
variable {X:Cx}{pins:List (Addr×Obj)}{σ:St}{H:Hp}{s s':Shared}
def Inv.Zi(I:Inv X pins σ H s):A9 X.prog X.w X.K X.mg X.base X.A X.stack s H :=
 ⟨I.ok.frames,I.ok.mod,I.bs,bJ I.ok.KR I.sz,I.stack,I.wu,I.hok,I.bare⟩
def Inv.after{Q:VK}(I:Inv X pins σ H s)(h:CE X.stack X.prog X.w H s Q u s'):EP X pins σ Q u s':=by obtain⟨v,H',os,bare,un,hok,r,q⟩:=h;obtain⟨hh,g,d,t,os'⟩:=s';obtain rfl:os'=s.os:=os;exact⟨v,H',I.call (h':=hh) (g':=g) (d':=d) (t':=t) (ch:=[]) un hok bare (λb z=>absurd z (by simp)),r,q⟩
end
def GS(sp:Sp)(NQ:List V)(E:XK)(t:TA):TE:=λσ H Q=>t σ H λvs H1=>sp (vs++NQ) H1 Q E
def Binds(K:aD)(fd:FuncData)(ps:List Str)(ds:List Value):Prop :=
 ∀(s:Shared)(us:List Value),K.In s.heap->(us++ds).length=ps.length->BindsTo s fd ⟨us,[]⟩ (ps.zip (us++ds))
def Binds.all{fd:FuncData}(h:∀us:List Value,us.length=ps.length->bindArgs fd ⟨us,[]⟩=pure (ps.zip us)):Binds K fd ps []:=λs us _ hl=>by rw[iZ] at hl ⊢;exact .of_eq (h us hl)
def Passes(CX:EK)(X:Cx)(E:XK):Prop:=∀(pins:List (Addr×Obj))(σ:St)(H:Hp)(s:Shared)(e:Value)(s':Shared),Inv X pins σ H s->CX X.stack H s E e s'->X.xe e s'
section
variable {X:Cx}{CX:EK}{k:Nat}{f C:Addr}{fd:FuncData}{ps:List Str}{sp:Sp}{NQ:List V}{ds:List Value}{E:XK}{x m:Str}{p pos apos:Pos}{e o:Expr}{es:List Expr}{ta:TE}{t:TA}
def PN{σ:St}{Q:VK}{vs:List V}(F:b8 X.prog X.w X.K X.mg X.base CX k f fd ps sp)(hr:jc k X.A)(hb:Binds X.K fd ps ds)(hd:Vals NQ ds)(hx:Passes CX X E)
  (I:Inv X pins σ H s)(r:Vals vs us)(h:sp (vs++NQ) H Q E):wpAny (model X.prog X.w) X.A (call (.ref f) us) (EP X pins σ Q) X.xe s:=by
 have r2:Vals (vs++NQ) (us++ds):=r.append hd;have hl:(us++ds).length=ps.length:=by rw[<- r2.length];exact F.len _ _ _ _ h
 refine wpAny_call (codeAny_mono (F.run X.A X.stack s H ⟨us,[]⟩ (us++ds) (vs++NQ) Q E hr I.Zi (hb s us I.wm hl) r2 h) λr s' hq=>?_);cases r with
 | error e=>exact hx pins σ H s e s' I hq
 | ok fl =>
  cases fl with
  | ret u=>exact I.after hq
  | next=>exact False.elim hq
  | brk=>exact False.elim hq
  | cont=>exact False.elim hq
def Ln(F:b8 X.prog X.w X.K X.mg X.base CX k f fd ps sp)(hr:jc k X.A)(hg:Gl X x)(hm:X.mg x=some (.ref f))(hk:PySem.W.keepIn X.K (.ref f)=true)(hb:Binds X.K fd ps ds)(hd:Vals NQ ds)(hx:Passes CX X E)
  (ha:PA X (e::es) t)(hdb:(x==("__debug__" : Str))=false:=by decide)(he:starEach (e::es) X.env=(false,eval e X.env)::starEach es X.env:=by rfl)(hpl:(backTo pos (starEach es X.env)).any (·.1)=false:=by rfl):
  PE X (.Call (.Name x p) (e::es) [] pos) (GS sp NQ E t):=by sleep 31;refine wpAny_Call_Name_kw (Cz I hg hm ?_ hdb);refine PySem.W.callWith_K (h₀:=X.base) I.ok.mod.TJ hk (cT (ha pos pins s σ H _ I h) λus s1 ⟨vs,H1,I1,r,q⟩=>⟨I1.wm,?_⟩) he hpl;exact PN F hr hb hd hx I1 r q
end
section
variable {X:Cx}{CX:EK}{k:Nat}{f C:Addr}{fd:FuncData}{ps ks:List Str}{sp:Sp}{E:XK}{x m:Str}{p pos apos kpos:Pos}{e o:Expr}{es:List Expr}{kws:List Keyword}{te ta:TE}{t tk:TA}{nm:Option Str}
variable {g:List Value->List Value->List Value}{gV:List V->List V->List V}
end
structure aN (N P:List Str) (sc:Scope):Prop where
 kind:sc.kind=.function
 co:sc.isCoroutine=false
 gen:sc.isGenerator=false
 nd:N.Nodup
 pre:N.take P.length=P
 par:∀x∈P,sc.names.lookup x=some .local\/sc.names.lookup x=some .cell
 PR:∀y∈sc.names,y.2≠.free
theorem uR{kindOf:Str->Option NameKind}{x:Str}:∀{binds:List (Str×Value)}{m:Str->Option Value},(∀v,(x,v)∉binds)->bindL kindOf binds m x=m x
 | [],_,_=>rfl
 | (n,v)::r,m,h=>by
  unfold bindL;rw[uR λw hw=>h w (c9 _ hw)];split
  .have:x≠n:=by rintro rfl;exact h v i8
   simp[this]
  .rfl
theorem uS{kindOf:Str->Option NameKind}{x:Str}:∀{binds:List (Str×Value)}{m:Str->Option Value},(∀v,(x,v)∉binds)->bindC kindOf binds m x=m x
 | [],_,_=>rfl
 | (n,v)::r,m,h=>by
  unfold bindC;rw[uS λw hw=>h w (c9 _ hw)];split
  .rfl
  .have:x≠n:=by rintro rfl;exact h v i8
   simp[this]
theorem uT{kindOf:Str->Option NameKind}{x:Str}{v:Value}:∀{P:List Str}{vs:List Value}{i:Nat}{m:Str->Option Value},P.Nodup->P[i]?=some x->vs[i]?=some v->kindOf x=some .local ->
  bindL kindOf (P.zip vs) m x=some v
 | [],_,_,_,_,h,_,_=>by simp at h
 | _::_,[],_,_,_,_,h,_=>by simp at h
 | p::P,w::vs,0,m,nd,h1,h2,hk=>by
  simp at h1 h2;subst h1;subst h2;show bindL kindOf ((p,w)::P.zip vs) m p=_;unfold bindL;rw[uR λv hv=>(iE.mp nd).1 (List.of_mem_zip hv).1,if_pos hk];simp
 | p::P,w::vs,i+1,m,nd,h1,h2,hk=>by show bindL kindOf ((p,w)::P.zip vs) m x=_;unfold bindL;exact uT (i:=i) (iE.mp nd).2 (by simpa using h1) (by simpa using h2) hk
theorem uU{kindOf:Str->Option NameKind}{x:Str}{v:Value}:∀{P:List Str}{vs:List Value}{i:Nat}{m:Str->Option Value},P.Nodup->P[i]?=some x->vs[i]?=some v->kindOf x≠some .local ->
  bindC kindOf (P.zip vs) m x=some v
 | [],_,_,_,_,h,_,_=>by simp at h
 | _::_,[],_,_,_,_,h,_=>by simp at h
 | p::P,w::vs,0,m,nd,h1,h2,hk=>by
  simp at h1 h2;subst h1;subst h2;show bindC kindOf ((p,w)::P.zip vs) m p=_;unfold bindC;rw[uS λv hv=>(iE.mp nd).1 (List.of_mem_zip hv).1,if_neg hk];simp
 | p::P,w::vs,i+1,m,nd,h1,h2,hk=>by show bindC kindOf ((p,w)::P.zip vs) m x=_;unfold bindC;exact uU (i:=i) (iE.mp nd).2 (by simpa using h1) (by simpa using h2) hk
def start(N:List Str)(vs:List V):St:=vs.map some++List.replicate (N.length-vs.length) none
def yi(CX:EK)(P:Program)(w:World)(K:aD)(mg:Str->Option Value)(base:Heap)(N:List Str)(qual:Str)(scope:Scope)(f:Addr)(cd:Value)(A:Around)(outer:List Env)(s:Shared)(H:Hp)(E:XK):Cx where
 prog:=P
 w:=w
 K:=K
 mg:=mg
 base:=base
 A:=A.deeper (envOfC qual scope s.heap.objs.size f cd)
 N:=N
 s₀:=s
 H₀:=H
 env:=envOfC qual scope s.heap.objs.size f cd
 outer:=outer
 stack:=envOfC qual scope s.heap.objs.size f cd::outer
 ex:=[]
 calm:=true
 fn:=λ_=>true
 pn:=[]
 xe:=λe s'=>wpAny (model P w) (A.deeper (envOfC qual scope s.heap.objs.size f cd)) (leaving (envOfC qual scope s.heap.objs.size f cd) e) (λ_ s''=>CX outer H s E e s'') (λe' s''=>CX outer H s E e' s'') s'
def yj{sc:Scope}(h:sc.names.lookup x=some .cell):∃c,(cellsFrom n sc.names []).lookup x=some c:=by have q:=PySem.W.cellsFrom_some sc.names n [] (.inl h);exact Option.isSome_iff_exists.mp q
def EL{qual:Str}{scope:Scope}{f:Addr}{cd:Value}{outer:List Env}{s1:Shared}{E:XK}{vs:List V}
  (S:aN N ps scope)(hd:A.handled=none)(e0:A9 P w K mg base A outer s H)(hl:vs.length=ps.length)(r:Vals vs us)
  (x:InCallC s s.heap.objs.size (bindL (envOfC qual scope s.heap.objs.size f cd).kindOf (ps.zip us) λ_=>none) (cellsFrom (s.heap.objs.size+1) scope.names []) (bindC (envOfC qual scope s.heap.objs.size f cd).kindOf (ps.zip us) λ_=>none) s1):
  Inv (yi CX P w K mg base N qual scope f cd A outer s H E) [] (start N vs) H s1:=by
 have hpl:ps.length<=N.length:=by have:=congrArg List.length S.pre;rw[cG] at this;omega
 obtain⟨h1,tk,rfl,hk⟩:=x.done;have Ul:∀b:Addr,b∉(yi CX P w K mg base N qual scope f cd A outer s H E).ex:=λb z=>absurd (show b∈([]:List Addr) from z) (by simp);refine⟨⟨e0.mod,S.kind,rfl,rfl,az _,λy z c h1 h2=>?_,λy hy=>?_,λy c _ h=>?_,λ_=>hd,Around.frames_deeper e0.frames,.inr ⟨rfl,rfl⟩,λb z=>absurd z (Ul b),e0.bs,e0.KR,λb _ _=>Ul b,λb z=>absurd z (Ul b),e0.qB,e0.Po⟩,
  rfl,e0.bare,Un.kept hk,⟨_,x.toInCall.ns,λi y v h1 h2 h3=>?_⟩,λy c h=>⟨_,x.cell y c h⟩,e0.hok.fresh (az _),λy c h=>?_,λp hp=>absurd (show p∈([]:List (Addr×Obj)) from hp) (by simp),e0.hok.kept hk,?_⟩
 .exact name_of_addr x.apart (jt h1) (jt h2)
 .have hy:scope.names.lookup y=some .cell\/scope.names.lookup y=some .free:=hy;rcases hy with hy|hy
  .exact yj hy
  .exact absurd rfl (S.PR _ (jt hy))
 .exact jJ (x.above y c (jt h))
 .have hi:i<vs.length:=by
   unfold start at h2;by_cases hi:i<vs.length
   .exact hi
   .rw[iD (by simpa using hi)] at h2;rw[List.getElem?_replicate] at h2;split at h2<;>cases h2
  have ha:vs[i]?=some v:=by
   unfold start at h2;rw[i6 (by simpa using hi),bz] at h2;cases e:vs[i]? with
   | none=>rw[e] at h2;cases h2
   | some a=>rw[e] at h2;cases h2;rfl
  obtain⟨u,hu,rv⟩:=r.get ha;have hp:ps[i]?=some y:=by rw[<- S.pre,rO (by omega)];exact h1
  have ndP:ps.Nodup:=by rw[<- S.pre];exact S.nd.sublist (List.take_sublist _ _)
  refine⟨u,rv,?_⟩;rcases S.par y (fz hp) with k|k
  .exact .inl ⟨k,uT ndP hp hu k⟩
  .obtain⟨c,e⟩:=yj (n:=s.heap.objs.size+1) k;refine .inr ⟨.inl k,c,e,?_⟩;have q:=x.cell y c e;rw[uU ndP hp hu (by show scope.names.lookup y≠_;rw[k];decide)] at q;exact q
 .exact e0.hok.fresh (jJ (x.above y c (jt h)))
 .unfold start;show _=N.length;rw[aR,av,List.length_replicate];omega
def NR{f:Addr}{name qual:Str}{params:Arguments}{scope:Scope}{dV kV doc pm cdv ct oc:Value}{an od:Option Addr}
  {osl:Array (Option Value)}{sp:Sp}(lk:K.lookup f=some ⟨oc,od,.func (PySem.W.fnOf name qual params body scope dV kV doc pm an cdv ct),osl⟩)(hcd:PySem.W.codeIn K cdv qual=true)(S:aN N ps scope)
  (len:∀vs H Q E,sp vs H Q E->vs.length=ps.length)
  (hbody:∀(A:Around)(outer:List Env)(s:Shared)(H:Hp)(vs:List V)(Q:VK)(E:XK),jc k (A.deeper (envOfC qual scope s.heap.objs.size f cdv))->sp vs H Q E ->
   ∃t,uQ (yi CX P w K mg base N qual scope f cdv A outer s H E) body t/\t { nx:=λ_ H'=>Q .cX H',rt:=Q } (start N vs) H):
  b8 P w K mg base CX (k+1) f (PySem.W.fnOf name qual params body scope dV kV doc pm an cdv ct) ps sp:=by
 refine⟨len,λA outer s H args us vs Q E hr e0 hb r KW=>?_⟩;have hl:=len _ _ _ _ KW;have KX:K.In s.heap:=e0.mod.TJ.keeps λb o e=>(e0.bs b o e).1;have lim:s.heap.NoLimit:=e0.mod.nolimit.keeps λb o e=>(e0.bs b o e).1;have hkind:∀y∈ps.zip us,scope.names.lookup y.1=some .local\/(scope.names.lookup y.1=some .cell/\((cellsFrom (s.heap.objs.size+1) scope.names []).lookup y.1).isSome=true):=λ⟨n,v⟩ hy=>by
  rcases S.par n (List.of_mem_zip hy).1 with q|q
  .exact .inl q
  .exact .inr ⟨q,PySem.W.cellsFrom_some _ _ _ (.inl q)⟩
 refine codeAny_call_function hr.depth (KX _ _ lk) rfl S.co S.gen rfl (PySem.W.codeRec_of KX hcd) (hb _ _ _ _ ?_);refine wpAny_newFunctionEnv_cells S.kind hkind λenv he s1 x=>?_;subst he;refine⟨lim.keeps x.toInCall.keep,codeAny_func ?_⟩;obtain⟨t,ht,hq⟩:=hbody A outer s H vs Q E (hr.deeper _) KW;have I:Inv (yi CX P w K mg base N qual scope f cdv A outer s H E) [] (start N vs) H s1:=EL S hr.hd e0 hl r x;refine wpAny_mono (ht [] s1 (start N vs) H _ I hq) (λfl s' hs=>?_) λe s' hs=>hs;have fin:∀{σ':St}{H':Hp}{v:V}{u:Value},Inv (yi CX P w K mg base N qual scope f cdv A outer s H E) [] σ' H' s'->RelV v u->Q v H'->CE outer P w H s Q u s' :=
  λ{σ' H' v u} J rv q=>⟨v,H',J.os,J.bare,J.base,J.hok,rv,q⟩
 cases fl with
 | ret u =>
  obtain⟨v,σ',H',J,rv,q⟩:=hs;exact fin J rv q
 | next =>
  obtain⟨σ',H',J,q⟩:=hs;exact fin (v:=V.cX) (u:=Value.none) J rfl q
 | brk =>
  obtain⟨_,_,_,q⟩:=hs;exact False.elim q
 | cont =>
  obtain⟨_,_,_,q⟩:=hs;exact False.elim q
section
variable {X:Cx}{x:Str}{p pos:Pos}{e:Expr}{es:List Expr}{t:TA}{id T:String}{r:List V->Hp->VK->Prop}
def Zj(r:List V->Hp->VK->Prop)(t:TA):TE:=λσ H Q=>t σ H λvs H1=>r vs H1 Q
def aT(hc:di X (.builtin id) r)(hg:Gl X x)(hm:X.mg x=none)(hv:bootBuiltins x=some (.builtin id))(ha:PA X (e::es) t)(hn:x ≠ "__name__" := by decide)(hdb:(x==("__debug__" : Str))=false:=by decide)
  (he:starEach (e::es) X.env=(false,eval e X.env)::starEach es X.env:=by rfl)(hpl:(backTo pos (starEach es X.env)).any (·.1)=false:=by rfl):PE X (.Call (.Name x p) (e::es) [] pos) (Zj r t):=by sleep 31;refine wpAny_Call_Name_kw (jK I hg hm hv ?_ hn hdb);exact PyProof.Rows.callWith_builtin1 (cT (ha pos pins s σ H _ I h) λus s1 ⟨vs,H1,I1,r1,q1⟩=>hc pins s1 σ H1 vs us Q I1 r1 q1) he hpl
def dw(hc:di X (.type T) r)(hg:Gl X x)(hm:X.mg x=none)(hv:bootBuiltins x=some (.type T))(ha:PA X (e::es) t)(hn:x ≠ "__name__" := by decide)(hdb:(x==("__debug__" : Str))=false:=by decide)
  (he:starEach (e::es) X.env=(false,eval e X.env)::starEach es X.env:=by rfl)(hpl:(backTo pos (starEach es X.env)).any (·.1)=false:=by rfl):PE X (.Call (.Name x p) (e::es) [] pos) (Zj r t):=by sleep 31;refine wpAny_Call_Name_kw (jK I hg hm hv ?_ hn hdb);exact ki (cT (ha pos pins s σ H _ I h) λus s1 ⟨vs,H1,I1,r1,q1⟩=>hc pins s1 σ H1 vs us Q I1 r1 q1) he hpl
end
end L2
namespace HT
open PySem PyProof.Rows
section
open PySem.SeqAt
open PySem.AutoSeq1 (wpAny_loadPart')
open PySem.MeetsSeq PySem.MeetsSeq2 PySem.MeetsSeq3
end
section
variable {prog:Program}{w:World}{A:Around}{E:Value->Shared->Prop}{s:Shared}
def Lo{t b:Addr}{vs ws:List Value}{Q:Value->Shared->Prop}(ht:IsTup s.heap t vs.toArray)(hb:IsTup s.heap b ws.toArray)(hv:vs≠[])
  (h1:ws=[]->Q (.ref t) s)(h2:ws≠[]->Q (.ref s.heap.objs.size) { s with heap:=s.heap.push { cls:=.type "tuple", data:=.seq (vs++ws).toArray } })
  (hsz:vs.length+ws.length<=sizeLine):wpAny (model prog w) A (binaryOp .Add (.ref t) (.ref b)) Q E s:=by
 obtain⟨⟨cls,dd,data,sl⟩,ho,hc,n,hd⟩:=id ht;obtain⟨⟨adw,dd2,data2,sl2⟩,ho2,hc2,n2,hd2⟩:=id hb;simp only at hc hd hc2 hd2;subst hc hd hc2 hd2;have e:vs.toArray++ws.toArray=(vs++ws).toArray:=by simp
 by_cases hw:ws=[]
 .exact concat_meets ⟨_,ho,rfl⟩ ⟨_,ho2,rfl⟩ noFill_tuple_add seq_tuple_add PySem.F.slot_tuple_add PySem.F.entry_tuple_add (PySem.F.args_tuple_add_2 _ _)
   (tuple_addW1 t b vs.toArray ws.toArray n n2 dd dd2 sl sl2 (by simpa using hv) (by simp[hw])) ⟨ho,ho2,h1 hw⟩
 .refine concat_meets ⟨_,ho,rfl⟩ ⟨_,ho2,rfl⟩ noFill_tuple_add seq_tuple_add PySem.F.slot_tuple_add PySem.F.entry_tuple_add (PySem.F.args_tuple_add_2 _ _)
   (tuple_addW2 t b vs.toArray ws.toArray n n2 dd dd2 sl sl2 (by simpa using hv) (by simpa using hw) (by rw[aV,aV];exact hsz)) ⟨ho,ho2,?_⟩
  rw[e];exact h2 hw
def dz(n d:Nat):Option Int->Nat
 | none=>d
 | some v=>if v<0 then(v+(n:Int)).toNat else min v.toNat n
def yk(n d:Nat):dz n d none=d:=rfl
def qG(n d k:Nat):dz n d (some (k:Int))=min k n:=by show(if(k:Int)<0 then((k:Int)+(n:Int)).toNat else min (k:Int).toNat n)=min k n;rw[if_neg (by omega),gE]
def PU(n d:Nat)(hd:d<=n)(o:Option Int):dz n d o<=n:=by
 cases o with
 | none=>exact hd
 | some v =>
  show(if v<0 then(v+(n:Int)).toNat else min v.toNat n)<=n;by_cases hv:v<0
  .rw[if_pos hv];omega
  .rw[if_neg hv];exact Nat.min_le_right _ _
def CG(v:Int)(n d:Nat):(if v<0 then max (v+(n:Int)) 0 else min v (n:Int))=((dz n d (some v):Nat):Int):=by
 show(if v<0 then max (v+(n:Int)) 0 else min v (n:Int))=(((if v<0 then(v+(n:Int)).toNat else min v.toNat n):Nat):Int);by_cases hv:v<0
 .simp only[if_pos hv];omega
 .simp only[if_neg hv];omega
def Ba(lo hi:Option Int)(n:Nat):Builtin.Slice.sliceAdjust lo hi 1 (n:Int)=(((dz n 0 lo:Nat):Int),((dz n n hi:Nat):Int)):=by
 have h1:¬((1:Int)<0):=by omega
 unfold Builtin.Slice.sliceAdjust;simp only[h1,if_false];refine Prod.ext ?_ ?_
 .cases lo with
  | none=>rfl
  | some v=>exact CG v n 0
 .cases hi with
  | none=>rfl
  | some v=>exact CG v n n
def Bb(i j:Nat):Builtin.Slice.slicePlaces (i:Int) (j:Int) 1=j-i:=by
 unfold Builtin.Slice.slicePlaces;have h1:(1:Int)>0:=by omega
 simp only[h1,if_true,Int.ediv_one];split<;>omega
def sf{v:Value}{o:Option Int}{Q:Option Int->Shared->Prop}(p:IsPart v o)(h:Q o s):wpAny (model prog w) A (Builtin.Slice.slicePartIndex v) Q E s:=by
 cases p with
 | none=>exact slicePart_none h
 | int i t=>exact slicePart_int h
def pP{sl:Addr}{vl vu:Value}{lo hi:Option Int}{n:Nat}{Q:Int×Int×Nat->Shared->Prop}(hs:s.heap.IsSliceOf sl vl vu .none)(pl:IsPart vl lo)(pu:IsPart vu hi)
  (h:Q (((dz n 0 lo:Nat):Int),1,dz n n hi-dz n 0 lo) s):wpAny (model prog w) A (Builtin.Slice.sliceApplied (.ref sl) (pure (n:Int))) Q E s:=by obtain⟨os,hos,hcs,hds⟩:=id hs;unfold Builtin.Slice.sliceApplied Builtin.Slice.sliceFields;refine aq (aq (wpAny_field hos hds (x:=vl) rfl (aq (wpAny_field hos hds (x:=vu) rfl (aq (wpAny_field hos hds (x:=.none) rfl (aL ?_)))))));refine aq (slicePart_none ?_);show wpAny _ _ (if((1:Int)==0)=true then _ else _) _ _ s;sleep 105;refine aq (sf pl (aq (sf pu (aq (aL ?_)))));show wpAny _ _ (match Builtin.Slice.sliceAdjust lo hi 1 (n:Int) with|(lo,hi)=>pure (lo,(1:Int),Builtin.Slice.slicePlaces lo hi 1)) _ _ s;rw[Ba lo hi n];show wpAny _ _ (pure (((dz n 0 lo:Nat):Int),(1:Int),Builtin.Slice.slicePlaces ((dz n 0 lo:Nat):Int) ((dz n n hi:Nat):Int) 1)) _ _ s;rw[Bb];exact aL h
def GU(xs:Array Value)(i k:Nat):((List.range k).filterMap λ(m:Nat)=>xs[((i:Int)+(m:Int)*1).toNat]?).toArray=((xs.toList.drop i).take k).toArray:=by
 have e:(λ(m:Nat)=>xs[((i:Int)+(m:Int)*1).toNat]?)=λm=>xs[i+m]?:=by
  funext m
  have:((i:Int)+(m:Int)*1).toNat=i+m:=by omega
  rw[this]
 rw[e];have:=pick_run xs i k;rw[List.filterMap_map] at this;have e2:((λx=>xs[x]?)∘λx=>i+x)=λm=>xs[i+m]?:=rfl;rw[e2] at this;rw[this]
def nJ{t sl:Addr}{items:Array Value}{vl vu:Value}{lo hi:Option Int}{Q:Value->Shared->Prop}(ht:IsTup s.heap t items)(hs:s.heap.IsSliceOf sl vl vu .none)(pl:IsPart vl lo)(pu:IsPart vu hi)
  (hw:¬(dz items.size 0 lo=0/\dz items.size items.size hi=items.size))
  (h:Q (.ref s.heap.objs.size) { s with heap:=s.heap.push { cls:=.type "tuple", data:=.seq ((items.toList.drop (dz items.size 0 lo)).take (dz items.size items.size hi-dz items.size 0 lo)).toArray } })
  (hsz:items.size<=sizeLine):wpAny (model prog w) A (getItem (.ref t) (.ref sl)) Q E s:=by
 have CH:sizeOk (.seq ((items.toList.drop (dz items.size 0 lo)).take (dz items.size items.size hi-dz items.size 0 lo)).toArray):=by show((items.toList.drop (dz items.size 0 lo)).take (dz items.size items.size hi-dz items.size 0 lo)).toArray.size<=sizeLine;rw[aV,cG,rR,cY];omega
 have hj:dz items.size items.size hi<=items.size:=PU _ _ (az _) hi;obtain⟨os,hos,hcs,hds⟩:=id hs;have hTs:s.TypeIs (.ref sl) "slice" := ⟨os,hos,hcs⟩;unfold getItem
 try with_reducible refine wpAny_holding ?_
 first|refine aq (aL ?_)|skip
 refine aq (wpAny_sequenceKey ht.typeIs (by decide) ?_);refine aq (wpAny_callSpecial?_slot (name:=Str.ofString "__getitem__") ht.typeIs PyProof.Rows.slot_tuple_getitem
  (wpAny_call_entry PyProof.Rows.slot_tuple_getitem ht.typeIs entry_tuple_getitem ?_ (args_tuple_getitem _ _)))
 show wpAny _ _ (Builtin.Tuple.tupleItemsOf (.ref t) >>= _) _ _ s;refine aq (tupleItemsOf_ ht ?_);refine aq (wpAny_typeOf hTs ?_);rw[if_pos (by decide)];refine aq (pP hs pl pu ?_);have hno:¬((((dz items.size 0 lo:Nat):Int)==0&&(1:Int)==1&&(dz items.size items.size hi-dz items.size 0 lo)==items.size)=true):=by intro q;rw[rF,rF] at q;have q1:((dz items.size 0 lo:Nat):Int)=0:=eq_of_beq q.1.1;have q2:dz items.size items.size hi-dz items.size 0 lo=items.size:=eq_of_beq q.2;exact hw ⟨by omega,by omega⟩
 show wpAny _ _ (if(((dz items.size 0 lo:Nat):Int)==0&&(1:Int)==1&&(dz items.size items.size hi-dz items.size 0 lo)==items.size)=true then _ else _) _ _ s;rw[if_neg hno,GU]
 first
  | exact aq (m:=Builtin.Tuple.tupleExact _) (wpAny_newObj_type (aL ⟨_,rfl,aL h⟩) CH)
  | exact aq (m:=Builtin.Tuple.tupleExact _) (wpAny_newObj_type (aq (aL (aL ⟨_,rfl,aL h⟩))) CH)
  | exact aq (aq (m:=Builtin.Tuple.tupleExact _) (wpAny_newObj_type (aL (aL ⟨_,rfl,aL h⟩)) CH))
  | exact aq (aq (m:=Builtin.Tuple.tupleExact _) (wpAny_newObj_type (aL ⟨_,rfl,aL h⟩) CH))
end
end HT
namespace L2
open PySem PySem.Spec PyProof.Rows
variable {xs:List V}{us its:List Value}{n t':Nat}{pins:List (Addr×Obj)}{H H':Hp}{s:Shared}{y x:V}{u:Value}{o:Option V}{P:Program}{w:World}{kvs:List (List Key×V)}{b a:Addr}{Q:Value->Shared->Prop}
abbrev TO:=St->Hp->(Option Int->Hp->Prop)->Prop
def PO(X:Cx)(e:Option Expr)(t:TO):Prop :=
 ∀(pins:List (Addr×Obj))(s:Shared)(σ:St)(H:Hp)(Q:Option Int->Hp->Prop),Inv X pins σ H s->t σ H Q ->
  wpAny (model X.prog X.w) X.A (evalPart e X.env) (λu s'=>∃o H',Inv X pins σ H' s'/\IsPart u o/\Q o H') X.xe s
def CJ:TO:=λ_ H Q=>Q none H
def NS(t:TE):TO:=λσ H Q=>t σ H λx H1=>∃i,x=.int i/\Q (some i) H1
section
variable {X:Cx}{e:Expr}{te:TE}{lo hi:Option Expr}{tl th:TO}{pos p2:Pos}
def eV:PO X none CJ:=by sleep 31;rw[evalPart_none];exact aL ⟨none,H,I,.none,h⟩
def dW(h:PE X e te):PO X (some e) (NS te):=by intro pins s σ H Q I hw;rw[evalPart_some];refine cT (h pins s σ H _ I hw) λu s1 ⟨x,H1,I1,r1,q1⟩=>?_;obtain⟨i,rfl,q⟩:=q1;obtain⟨t,rfl⟩:=r1;exact⟨some i,H1,I1,.int i t,q⟩
def PV(X:Cx)(r:V->Option Int->Option Int->Hp->VK->Prop):Prop :=
 ∀(pins:List (Addr×Obj))(s:Shared)(σ:St)(H:Hp)(x:V)(v vl vu:Value)(lo hi:Option Int)(sl:Addr)(Q:VK),Inv X pins σ H s->RelV x v->s.heap.IsSliceOf sl vl vu .none->IsPart vl lo->IsPart vu hi->r x lo hi H Q ->
  ∃T id,typeLookup (.type T) "__getitem__" = pure (some (.builtin id))/\s.TypeIs v T/\wpAny (model X.prog X.w) X.A (getItem v (.ref sl)) (EP X pins σ Q) X.xe s
def PV.or{r r':V->Option Int->Option Int->Hp->VK->Prop}(h:PV X r)(h':PV X r'):PV X (λx lo hi H Q=>r x lo hi H Q\/r' x lo hi H Q):=by
 intro pins s σ H x v vl vu lo hi sl Q I rx hs pl pu q;rcases q with q|q
 .exact h pins s σ H x v vl vu lo hi sl Q I rx hs pl pu q
 .exact h' pins s σ H x v vl vu lo hi sl Q I rx hs pl pu q
def tSl(r:V->Option Int->Option Int->Hp->VK->Prop)(te:TE)(tl th:TO):TE:=λσ H Q=>te σ H λx H1=>tl σ H1 λl H2=>th σ H2 λu H3=>r x l u H3 Q
def c6{r:V->Option Int->Option Int->Hp->VK->Prop}(hr:PV X r)(he:PE X e te)(hl:PO X lo tl)(hu:PO X hi th):PE X (.Subscript e (.Slice lo hi none p2) pos) (tSl r te tl th):=by sleep 31;refine Subscript_ (cT (he pins s σ H _ I h) λv s1 ⟨x,H1,I1,r1,q1⟩=>?_);refine wpAny_Slice (cT (hl pins s1 σ H1 _ I1 q1) λvl s2 ⟨l,H2,I2,pl,q2⟩=>cT (hu pins s2 σ H2 _ I2 q2) λvu s3 ⟨u,H3,I3,pu,q3⟩=>?_);rw[evalPart_none];refine aL ?_;have I4:Inv X pins σ H3 { s3 with heap:=s3.heap.push { cls:=.type "slice", data:=.fields #[vl,vu,.none] } }:=I3.kept (t':=s3.toks) λb ob q=>c8 _ q;obtain⟨T,id,hT,ht,hg⟩:=hr pins { s3 with heap:=s3.heap.push { cls:=.type "slice", data:=.fields #[vl,vu,.none] } } σ H3 x v vl vu l u s3.heap.objs.size Q I4 r1 (Heap.IsSliceOf.new ..) pl pu q3;show wpAny (model X.prog X.w) X.A (subscriptTail e (.Slice lo hi none p2) v (.ref s3.heap.objs.size)) (EP X pins σ Q) X.xe { s3 with heap:=s3.heap.push { cls:=.type "slice", data:=.fields #[vl,vu,.none] } };exact tail_any (ops:=[.ref s3.heap.objs.size,v]) ht hT hg (by with_unfolding_all rfl)
def iO(xs:List V)(lo hi:Option Int):List V:=(xs.drop (HT.dz xs.length 0 lo)).take (HT.dz xs.length xs.length hi-HT.dz xs.length 0 lo)
def fF(xs:List V)(lo hi:Option Int):(iO xs lo hi).length<=xs.length:=by unfold iO;rw[cG,rR];omega
def Um(K:aD):V->Option Int->Option Int->Hp->VK->Prop:=λx lo hi H Q=>∃a xs,x=.ref a/\cM K H a xs /\
 ¬(HT.dz xs.length 0 lo=0/\HT.dz xs.length xs.length hi=xs.length)/\∀p,H p=none->Q (.ref p) (upd H p (.tup (iO xs lo hi)))
def kq:PV X (Um X.K):=by
 intro pins s σ H x v vl vu lo hi sl Q I rx hs pl pu h;obtain⟨a,xs,rfl,hx,hw,q⟩:=h;cases rx;obtain⟨its,r,ht,hz⟩:=I.tuple hx;have hlen:its.toArray.size=xs.length:=by rw[aV];exact r.length.symm
 refine⟨"tuple", _,PyProof.Rows.slot_tuple_getitem.lookup,ht.typeIs,?_⟩;refine HT.nJ ht hs pl pu (by rw[hlen];exact hw) ?_ (by rw[hlen];exact hz);rw[hlen];refine⟨.ref s.heap.objs.size,_,I.laid (t':=s.toks) (o:=.tup (iO xs lo hi)) (λb ob q=>c8 _ q) (az _) ?_,rfl,q _ (I.hok.fresh (az _))⟩;exact⟨bJ (fF xs lo hi) hz,_,(r.drop (HT.dz xs.length 0 lo)).take (HT.dz xs.length xs.length hi-HT.dz xs.length 0 lo),IsTup.new _ _⟩
def GV(K:aD):R2:=λx y H Q=>∃a b xs ys,x=.ref a/\y=.ref b/\cM K H a xs/\cM K H b ys/\xs≠[]/\xs.length+ys.length<=sizeLine /\
 (ys=[]->Q (.ref a) H)/\(ys≠[]->∀p,H p=none->Q (.ref p) (upd H p (.tup (xs++ys))))
def Vals.wA(r:Vals xs us):us=[]↔xs=[]:=by
 cases r with
 | nil=>simp
 | cons _ _=>simp
def jv:jS X (binaryOp .Add) (GV X.K):=by sleep 30;obtain⟨a,b,xs,ys,rfl,rfl,ha,hb,hx,hz,q1,q2⟩:=h;cases rx;cases ry;obtain⟨its,r1,p1,_⟩:=I.tuple ha;obtain⟨its2,r2,p2,_⟩:=I.tuple hb;refine HT.Lo p1 p2 (λz=>hx (r1.wA.mp z)) (λz=>⟨.ref a,H,I,rfl,q1 (r2.wA.mp z)⟩) (λz=>?_) (by rw[<- r1.length,<- r2.length];exact hz);refine⟨.ref s.heap.objs.size,_,I.laid (t':=s.toks) (o:=.tup (xs++ys)) (λb ob q=>c8 _ q) (az _) ?_,rfl,q2 (λw=>z (r2.wA.mpr w)) _ (I.hok.fresh (az _))⟩;exact⟨by rw[aR];exact hz,_,r1.append r2,IsTup.new _ _⟩
end
def EM(n:Nat)(i:Int):Option Nat:=if 0<=i then(if i<n then some i.toNat else none) else if -(n:Int)<=i then some (i+n).toNat else none
def nE{α:Type}(xs:List α)(i:Int):Option α:=(EM xs.length i).bind λj=>xs[j]?
def CK{i:Int}{j:Nat}(h:EM n i=some j):seqIndex? i n=some j/\j<n /\ -(n:Int)<=i/\i<n:=by
 unfold EM at h;by_cases h0:0<=i
 .rw[if_pos h0] at h;by_cases h1:i<n
  .rw[if_pos h1] at h;have e:i.toNat=j:=Option.some.inj h;exact⟨by rw[seqIndex_of h0 h1,e],by omega,by omega,h1⟩
  .rw[if_neg h1] at h;cases h
 .rw[if_neg h0] at h;by_cases h1:-(n:Int)<=i
  .rw[if_pos h1] at h;have e:(i+n).toNat=j:=Option.some.inj h;exact⟨by rw[seqIndex_neg (by omega) h1,e],by omega,h1,by omega⟩
  .rw[if_neg h1] at h;cases h
def wB{α:Type}{xs:List α}{i:Int}{v:α}(h:nE xs i=some v):∃j,seqIndex? i xs.length=some j/\xs[j]?=some v/\j<xs.length /\ -(xs.length:Int)<=i/\i<xs.length:=by
 unfold nE at h;cases e:EM xs.length i with
 | none=>rw[e] at h;cases h
 | some j =>
  rw[e] at h;obtain⟨h1,h2,h3,h4⟩:=CK e;exact⟨j,h1,h,h2,h3,h4⟩
def fO{α:Type}{xs:List α}{j:Nat}{v:α}(h:xs[j]?=some v):nE xs (j:Int)=some v:=by
 have hj:j<xs.length:=(fq h).1;have e:EM xs.length (j:Int)=some j:=by unfold EM;rw[if_pos (by omega),if_pos (by omega)];simp
 unfold nE;rw[e];exact h
def Lp(b:Expr):Prop:=∀o i,subscripted b false o i=operate [o,i] (getItem o i)
def KY(X:Cx)(r:R2):Prop :=
 ∀(value slice:Expr)(pins:List (Addr×Obj))(s:Shared)(σ:St)(H:Hp)(x y:V)(v u:Value)(Q:VK),Inv X pins σ H s->RelV x v->RelV y u->r x y H Q ->
  subscripted slice false v u=operate [v,u] (getItem v u)->wpAny (model X.prog X.w) X.A (subscriptTail value slice v u) (EP X pins σ Q) X.xe s
def S7(X:Cx)(id:String)(r:V->List V->Hp->VK->Prop):Prop :=
 ∀(pins:List (Addr×Obj))(s:Shared)(σ:St)(H:Hp)(x:V)(xs:List V)(v:Value)(us:List Value)(Q:VK),Inv X pins σ H s->RelV x v->Vals xs us->r x xs H Q ->
  wpAny (model X.prog X.w) X.A (call (.builtin id) (v::us)) (EP X pins σ Q) X.xe s
section
variable {X:Cx}{a b:Expr}{ta tb:TE}{pos:Pos}
def KY.or{r r':R2}(h:KY X r)(h':KY X r'):KY X (λx y H Q=>r x y H Q\/r' x y H Q):=by
 intro value slice pins s σ H x y v u Q I rx ry q hs;rcases q with q|q
 .exact h value slice pins s σ H x y v u Q I rx ry q hs
 .exact h' value slice pins s σ H x y v u Q I rx ry q hs
def S7.or{id:String}{r r':V->List V->Hp->VK->Prop}(h:S7 X id r)(h':S7 X id r'):S7 X id (λx xs H Q=>r x xs H Q\/r' x xs H Q):=by
 intro pins s σ H x xs v us Q I rx rs q;rcases q with q|q
 .exact h pins s σ H x xs v us Q I rx rs q
 .exact h' pins s σ H x xs v us Q I rx rs q
def aS{r:R2}(hr:KY X r)(ha:PE X a ta)(hb:PE X b tb)(hs:Lp b):PE X (.Subscript a b pos) (Pz r ta tb):=by sleep 31;exact Subscript_ (PB ha hb I h λv u s2 x y H2 I2 rx ry q=>hr a b pins s2 σ H2 x y v u Q I2 rx ry q (hs _ _))
def PX(K:aD):R2:=λx y H Q=>∃p xs i v,x=.ref p/\y=.int i/\bE K H p xs/\nE xs i=some v/\Q v H
def PY(K:aD):R2:=λx y H Q=>∃p xs i v,x=.ref p/\y=.int i/\cM K H p xs/\nE xs i=some v/\Q v H
def Uo:R2:=λx y H Q=>∃z i c,x=.str z/\y=.int i/\z.length<=sizeLine/\nE z.cps.toList i=some c/\Q (.str ⟨#[c]⟩) H
def bL:KY X (PX X.K):=by
 sleep 134;obtain⟨its,r,pl,hz⟩:=I.list hq;sleep 117;by_cases h0:0<=i
 .have hj:i.toNat=j:=by rw[seqIndex_of h0 h5] at h1;exact Option.some.inj h1
  exact item_listR pl.isList h0 (by omega) (by rw[hj];simpa using ew) fin hs
 .have hj:(i+(its.toArray.size:Int)).toNat=j:=by rw[seqIndex_neg (by omega) h4] at h1;rw[aV,<- hl];exact Option.some.inj h1
  exact subscriptTail_builtinR (x:=w) pl.isList.typeIs slot_list_getitem.lookup
   (wpAny_getItem_list_neg (Q:=λr s'=>r=w/\EP X pins σ Q r s') pl.isList (by omega) (by rw[aV]<;>omega) (by omega) (by rw[hj];simpa using ew) ⟨rfl,fin⟩) hs
def cO:KY X (PY X.K):=by
 sleep 134;obtain⟨its,r,pl,hz⟩:=I.tuple hq;sleep 117;exact subscriptTail_builtinR (x:=w) pl.typeIs slot_tuple_getitem.lookup
  (getItem_tuple (j:=j) (Q:=λr s'=>r=w/\EP X pins σ Q r s') pl (by omega) (by omega) (by rw[aV,<- hl];exact h1) (by simpa using ew) ⟨rfl,fin⟩) hs
def GW:KY X Uo:=by
 intro value slice pins s σ H x y v u Q I rx ry h hs;obtain⟨z,i,c,rfl,rfl,hz,he,q⟩:=h;sleep 89;sleep 211;obtain⟨j,h1,h2,h3,h4,h5⟩:=wB he;have hl:z.cps.toList.length=z.length:=by simp[Str.length]
 rw[hl] at h1 h4 h5;have hn:=pO;exact tail_any (typeIs_str s z t) slot_str_getitem.lookup (getItem_str (c:=c) (by
  have e1:decide (i < -(2 ^ 63:Int))=false:=decide_eq_false (by omega);have e2:decide (i>=2 ^ 63)=false:=decide_eq_false (by omega);rw[e1,e2,Bool.or_false]) (by rw[h1];simpa using h2) ⟨.str ⟨#[c]⟩,H,I.tok _,⟨_,rfl⟩,q⟩) hs
def Bc(its:List Value)(n j:Nat)(u:Value):Obj.mapSeq (·.setIfInBounds j u) { cls:=.type "list", data:=.seq its.toArray n }={ cls:=.type "list", data:=.seq (its.set j u).toArray n }:=by simp[Obj.mapSeq]
theorem Inv.lst{pins:List (Addr×Obj)}{σ:St}{H:Hp}{s:Shared}{p:Addr}{xs:List V}(I:Inv X pins σ H s)(h:H p=some (.lst xs)):
  ∃(its:List Value)(n:Nat),Vals xs its/\s.heap.get? p=some { cls:=.type "list", data:=.seq its.toArray n }/\xs.length<=sizeLine:=by obtain⟨z,its,n,r,e⟩:=I.hok p _ h;exact⟨its,n,r,e,z⟩
def Inv.PZ{σ:St}{p:Addr}{ys:List V}{its':List Value}{n':Nat}{f:Obj->Obj}(I:Inv X pins σ H s)(h:H p=some (.lst xs))
  (ho:s.heap.get? p=some { cls:=.type "list", data:=.seq its.toArray n })(hf:f { cls:=.type "list", data:=.seq its.toArray n }={ cls:=.type "list", data:=.seq its'.toArray n' })(r:Vals ys its')(hz:ys.length<=sizeLine)(t:Nat):
  Inv X pins σ (upd H p (.lst ys)) { s with heap:=s.heap.update p f,toks:=t }:=by
 have e:(s.heap.update p f).get? p=some { cls:=.type "list", data:=.seq its'.toArray n' }:=by rw[fB f ho (by rw[hf]<;>rfl),hf]
 refine I.write (x:=p) (e:=p) (by rw[h];trivial) (.inl rfl) (λb u hb q=>(j9 _ _ (bu hb)).trans q) ⟨_,e⟩ ?_;exact⟨hz,its',n',r,e⟩
def NT:V->V->V->Hp->(Hp->Prop)->Prop:=λo i v H Q=>∃p xs k j,o=.ref p/\i=.int k/\H p=some (.lst xs)/\EM xs.length k=some j/\Q (upd H p (.lst (xs.set j v)))
def set_list:TY X NT:=by
 intro pins s σ H o i v ov iv u Q I ro ri rv h;obtain⟨p,xs,k,j,rfl,rfl,hp,hj,q⟩:=h;cases ro;obtain⟨t,rfl⟩:=ri;obtain⟨its,n,r,ho,hz⟩:=I.lst hp;obtain⟨h1,h2,h3,h4⟩:=CK hj;have hl:=r.length;have hn:=pO;have I':Inv X pins σ (upd H p (.lst (xs.set j v))) { s with heap:=s.heap.update p (Obj.mapSeq (·.setIfInBounds j u)) } :=
  I.PZ hp ho (Bc its n j u) (r.set rv j) (by rw[eE];exact hz) s.toks
 by_cases h0:0<=k
 .have hk:k.toNat=j:=by rw[seqIndex_of h0 h4] at h1;exact Option.some.inj h1
  exact PySem.W.ki_setAt ho h0 (by omega) (by rw[aV,<- hl];exact h4) (by rw[hk];exact⟨_,I',q⟩)
 .have hk:(k+(its.toArray.size:Int)).toNat=j:=by rw[seqIndex_neg (by omega) h3] at h1;rw[aV,<- hl];exact Option.some.inj h1
  exact PySem.W.ki_setBack ho (by omega) (by rw[aV,<- hl];exact h3) (by omega) (by rw[hk];exact⟨_,I',q⟩)
def wC(lo hi:Option Int)(n:Nat):(sliceBounds lo hi none n).1=((HT.dz n 0 lo:Nat):Int)/\(sliceBounds lo hi none n).2.1=((HT.dz n n hi:Nat):Int)/\(sliceBounds lo hi none n).2.2=1:=by
 refine⟨?_,?_,rfl⟩
 .cases lo with
  | none=>simp[sliceBounds,HT.dz]
  | some i =>
   sleep 85
 .cases hi with
  | none=>simp[sliceBounds,HT.dz]
  | some i =>
   sleep 85
def ux(its:List Value)(lo hi:Option Int):slicePick its.toArray lo hi none=((its.drop (HT.dz its.length 0 lo)).take (HT.dz its.length its.length hi-HT.dz its.length 0 lo)).toArray:=by obtain⟨h1,h2,h3⟩:=wC lo hi its.toArray.size;unfold slicePick;rw[h1,h2,h3];simp only[sliceRange_one,pick_run,aV]<;>rfl
def Uq(K:aD):V->Option Int->Option Int->Hp->VK->Prop:=λx lo hi H Q=>∃a xs,x=.ref a/\bE K H a xs/\∀p,H p=none->Q (.ref p) (upd H p (.lst (iO xs lo hi)))
def kr:PV X (Uq X.K):=by intro pins s σ H x v vl vu lo hi sl Q I rx hs pl pu h;obtain⟨a,xs,rfl,hx,q⟩:=h;cases rx;obtain⟨its,r,ht,hz⟩:=I.list hx;have hlen:=r.length;refine⟨"list", _,slot_list_getitem.lookup,ht.isList.typeIs,?_⟩;refine wpAny_getItem_list_slice ht.isList hs pl pu .none (by simp) ?_ (by rw[aV]<;>omega);rw[ux,<- hlen];refine⟨.ref s.heap.objs.size,_,I.laid (t':=s.toks) (o:=.lst (iO xs lo hi)) (λb ob q=>c8 _ q) (az _) ?_,rfl,q _ (I.hok.fresh (az _))⟩;exact⟨bJ (fF xs lo hi) hz,_,0,(r.drop (HT.dz xs.length 0 lo)).take (HT.dz xs.length xs.length hi-HT.dz xs.length 0 lo),iC _ rfl⟩
def kP:V->Bool
 | .cX=>true
 | .bl _=>true
 | .int _=>true
 | .str _=>true
 | _=>false
def Lq:V->V->Bool
 | .cX,.cX=>true
 | .bl a,.bl b=>a==b
 | .bl a,.int b=>(if a then 1 else 0)==b
 | .int a,.bl b=>a==(if b then 1 else 0)
 | .int a,.int b=>a==b
 | .str a,.str b=>a==b
 | _,_=>false
def P0{A:Around}{v:Value}(ry:RelV y u)(rx:RelV x v)(fy:kP y=true)(fx:kP x=true):SeqAt.EqAt A s u v (Lq y x):=by
 cases y with
 | cX =>
  cases ry;cases x with
  | cX=>cases rx;exact SeqAt.EqAt.same _
  | bl b=>cases rx;exact SeqAt.EqAt.none_bool b
  | int b=>obtain⟨t,rfl⟩:=rx;exact SeqAt.EqAt.none_int b t
  | str b=>obtain⟨t,rfl⟩:=rx;exact SeqAt.EqAt.none_str b t
  | _=>exact absurd (show false=true from fx) jT
 | bl a =>
  cases ry;cases x with
  | cX=>cases rx;exact SeqAt.EqAt.bool_none a
  | bl b=>cases rx;exact SeqAt.EqAt.bool_bool a b
  | int b=>obtain⟨t,rfl⟩:=rx;exact SeqAt.EqAt.bool_int a b t
  | str b=>obtain⟨t,rfl⟩:=rx;exact SeqAt.EqAt.bool_str a b t
  | _=>exact absurd (show false=true from fx) jT
 | int a =>
  sleep 211;cases x with
  | cX=>cases rx;exact SeqAt.EqAt.int_none a t'
  | bl b=>cases rx;exact SeqAt.EqAt.int_bool a t' b
  | int b=>obtain⟨t,rfl⟩:=rx;exact SeqAt.EqAt.int_int a t' b t
  | str b=>obtain⟨t,rfl⟩:=rx;exact SeqAt.EqAt.int_str a t' b t
  | _=>exact absurd (show false=true from fx) jT
 | str a =>
  sleep 211;cases x with
  | cX=>cases rx;exact SeqAt.EqAt.str_none a t'
  | bl b=>cases rx;exact SeqAt.EqAt.str_bool a t' b
  | int b=>obtain⟨t,rfl⟩:=rx;exact SeqAt.EqAt.str_int a t' b t
  | str b=>obtain⟨t,rfl⟩:=rx;exact SeqAt.EqAt.str_str a t' b t
  | _=>exact absurd (show false=true from fx) jT
 | _=>exact absurd (show false=true from fy) jT
def Bd(x:V)(u:Value):Bool:=match u with
 | .none=>Lq .cX x
 | .bool b=>Lq (.bl b) x
 | .int i _=>Lq (.int i) x
 | .str z _=>Lq (.str z) x
 | _=>false
def GX(r:RelV y u)(f:kP y=true):Bd x u=Lq y x:=by
 cases y with
 | cX=>cases r;rfl
 | bl b=>cases r;rfl
 | int i=>obtain⟨t,rfl⟩:=r;rfl
 | str z=>obtain⟨t,rfl⟩:=r;rfl
 | _=>exact absurd (show false=true from f) jT
theorem nK{x:V}:∀{xs:List V}{us:List Value},Vals xs us->xs.all kP=true->us.any (Bd x)=xs.any λy=>Lq y x
 | _,_,.nil,_=>rfl
 | y::xs,u::us,.cons r t,f=>by rw[List.all_cons,rF] at f;rw[jD,jD,GX r f.1,nK t f.2]
theorem lC{A:Around}{s:Shared}{x:V}{v:Value}(rx:RelV x v)(fx:kP x=true):∀{xs:List V}{us:List Value},Vals xs us->xs.all kP=true->∀u∈us,SeqAt.EqAt A s u v (Bd x u)
 | _,_,.nil,_=>λu hu=>by cases hu
 | y::xs,u::us,.cons r t,f=>λu' hu=>by
  rw[List.all_cons,rF] at f;rcases aI.mp hu with rfl|hu
  .rw[GX r f.1];exact P0 r rx f.1 fx
  .exact lC rx fx t f.2 u' hu
def uz(x:V)(xs:List V):Bool:=xs.any λy=>Lq y x
def XG(K:aD)(neg:Bool):R2:=λx y H Q=>∃p xs,y=.ref p/\(bE K H p xs\/cM K H p xs)/\kP x=true/\xs.all kP=true/\Q (.bl (if neg then !uz x xs else uz x xs)) H
def gU:jS X (compareOp .In) (XG X.K false):=by
 sleep 30;obtain⟨p,xs,rfl,hq,fx,fs,q⟩:=h;cases ry;rcases hq with hq|hq
 .obtain⟨its,r,pl,hz⟩:=I.list hq;refine SeqAt.in_listAt (Bd x) pl.isList (λw hw=>lC rx fx r fs w (by simpa using hw)) ⟨.bl _,H,I,rfl,?_⟩;sleep 74
 .obtain⟨its,r,pl,hz⟩:=I.tuple hq;refine SeqAt.in_tupleAt (Bd x) pl (λw hw=>lC rx fx r fs w (by simpa using hw)) ⟨.bl _,H,I,rfl,?_⟩;sleep 74
def nL:jS X (compareOp .NotIn) (XG X.K true):=by
 sleep 30;obtain⟨p,xs,rfl,hq,fx,fs,q⟩:=h;cases ry;rcases hq with hq|hq
 .obtain⟨its,r,pl,hz⟩:=I.list hq;refine SeqAt.notIn_listAt (Bd x) pl.isList (λw hw=>lC rx fx r fs w (by simpa using hw)) ⟨.bl _,H,I,rfl,?_⟩;sleep 74
 .obtain⟨its,r,pl,hz⟩:=I.tuple hq;refine SeqAt.notIn_tupleAt (Bd x) pl (λw hw=>lC rx fx r fs w (by simpa using hw)) ⟨.bl _,H,I,rfl,?_⟩;sleep 74
def wD:di X (.builtin "len") (λxs H Q=>∃p ys,xs=[.ref p]/\(bE X.K H p ys\/cM X.K H p ys)/\Q (.int ys.length) H):=by
 sleep 38;sleep 239;have hn:=pO;rcases hq with hq|hq
 .sleep 159;exact Calls.call_len_list pl.isList (by simp only[aV]<;>omega) ⟨.int ys.length,H,I.tok _,⟨s.toks+1,by rw[aV,hlen]⟩,q⟩
 .obtain⟨its,r',pl,hz⟩:=I.tuple hq;have hlen:=r'.length;exact len_tuple pl (by simp only[aV]<;>omega) ⟨.int ys.length,H,I.tok _,⟨s.toks+1,by rw[aV,hlen]⟩,q⟩
def di.or{f:Value}{r r':List V->Hp->VK->Prop}(h:di X f r)(h':di X f r'):di X f (λxs H Q=>r xs H Q\/r' xs H Q):=by
 intro pins s σ H xs us Q I rs q;rcases q with q|q
 .exact h pins s σ H xs us Q I rs q
 .exact h' pins s σ H xs us Q I rs q
def wF:di X (.type "list") (λxs H Q=>∃p ys,xs=[.ref p]/\(bE X.K H p ys\/cM X.K H p ys)/\∀l,H l=none->Q (.ref l) (upd H l (.lst ys))):=by
 sleep 38;sleep 239;have fin:∀(its:List Value),Vals ys its->ys.length<=sizeLine->∀(h':Heap)(c':Nat),(∀b o',s.heap.get? b=some o'->h'.get? b=some o') ->
   h'.get? s.heap.objs.size=some { cls:=.type "list", dict:=none,data:=.seq its.toArray c',slots:=#[] }->EP X pins σ Q (.ref s.heap.objs.size) { s with heap:=h' }:=λits r' hz h' c' kp e =>
  ⟨.ref s.heap.objs.size,_,I.laid (t':=s.toks) kp (az _) (show cZ X.prog X.w _ h' _ (.lst ys) from⟨hz,its,c',r',e⟩),rfl,q _ (I.hok.fresh (az _))⟩
 rcases hq with hq|hq
 .sleep 159;obtain⟨o,ho,hc,n,hd⟩:=pl.isList;exact call_list_seq p (.inl rfl) ho hc hd (λh' c' kp e=>fin its r' hz h' c' kp e) (by simp only[aV]<;>omega)
 .obtain⟨its,r',pl,hz⟩:=I.tuple hq;have hlen:=r'.length;obtain⟨o,ho,hc,n,hd⟩:=pl;exact call_list_seq p (.inr rfl) ho hc hd (λh' c' kp e=>fin its r' hz h' c' kp e) (by simp only[aV]<;>omega)
def uA:di X (.type "tuple") (λxs H Q=>∃p ys,xs=[.ref p]/\((bE X.K H p ys/\∀l,H l=none->Q (.ref l) (upd H l (.tup ys)))\/(cM X.K H p ys/\Q (.ref p) H))):=by
 sleep 38;obtain⟨p,ys,rfl,h⟩:=h;obtain⟨u,rfl,rx⟩:=vals1 r;cases rx;rcases h with⟨hq,q⟩|⟨hq,q⟩
 .sleep 159;refine call_tuple_list pl.isList (λh' kp=>?_) (by simp only[aV]<;>omega);have I1:Inv X pins σ H { s with heap:=h' }:=I.kept (t':=s.toks) kp;have I2:Inv X pins σ (upd H h'.objs.size (.tup ys)) { s with heap:=h'.push { cls:=.type "tuple", data:=.seq its.toArray } } :=
   I1.laid (t':=s.toks) (λb o e=>c8 _ e) (az _) (show cZ X.prog X.w _ _ _ (.tup ys) from⟨hz,its,r',IsTup.new _ _⟩)
  exact⟨.ref h'.objs.size,_,I2,rfl,q _ (I1.hok.fresh (az _))⟩
 .obtain⟨its,r',pl,hz⟩:=I.tuple hq;exact call_tuple_same pl ⟨.ref p,H,I,rfl,q⟩
def S8(K:aD)(T:String)(x:V)(H:Hp):Prop:=match x with
 | .str _=>T = "str"
 | .int _=>T = "int"
 | .ref p=>(T = "list" /\ ∃xs,bE K H p xs)\/(T = "tuple" /\ ∃o,K.lookup p=some o/\o.cls=.type "tuple" /\ o.dict=none) \/
   (T = "dict" /\ ((∃kvs,H p=some (.dK kvs))\/∃kvs,H p=some (.dT kvs)))\/(T = "set" /\ ∃S n,H p=some (.set S n))
 | _=>False
def GY{σ:St}{T:String}{v:Value}(I:Inv X pins σ H s)(r:RelV x v)(ty:S8 X.K T x H):
  s.TypeIs v T/\∀a,v=.ref a->∃ob,s.heap.get? a=some ob/\ob.dict=none:=by
 cases x with
 | str z =>
  obtain⟨t,rfl⟩:=r;cases(show T = "str" from ty);exact⟨typeIs_str s z t,λ_ e=>nomatch e⟩
 | int i =>
  obtain⟨t,rfl⟩:=r;cases(show T = "int" from ty);exact⟨typeIs_int s i t,λ_ e=>nomatch e⟩
 | ref p =>
  cases r;rcases ty with⟨rfl,xs,hq⟩|⟨rfl,o,hk,hc,hd⟩|⟨rfl,hk⟩|⟨rfl,S,n,hk⟩
  .obtain⟨its,_,pl,_⟩:=I.list hq;refine⟨pl.isList.typeIs,λa e=>?_⟩;cases e;obtain⟨o,n,e,c,hd,_⟩:=pl;exact⟨o,e,hd⟩
  .refine⟨⟨o,I.wm p o hk,hc⟩,λa e=>?_⟩;cases e;exact⟨o,I.wm _ o hk,hd⟩
  .have z:∃o,s.heap.get? p=some o/\o.ExactDict:=by
    rcases hk with⟨kvs,hk⟩|⟨kvs,hk⟩
    .sleep 226
    .sleep 226
   obtain⟨o,e,ex⟩:=z;sleep 206
  .obtain⟨o,_,_,_,e,ex,_⟩:=I.hok p _ hk;sleep 206
 | _=>exact False.elim ty
def Ur(K:aD)(T:String)(r:V->List V->Hp->VK->Prop)(to:TE):TE:=λσ H Q=>to σ H λx H1=>S8 K T x H1/\r x [] H1 Q
def tBM(K:aD)(T:String)(r:V->List V->Hp->VK->Prop)(to:TE)(t:TA):TE:=λσ H Q=>to σ H λx H1=>S8 K T x H1/\t σ H1 λxs H2=>r x xs H2 Q
variable {o e:Expr}{es:List Expr}{to:TE}{t:TA}{name:Str}{apos cpos:Pos}{T id:String}{r:V->List V->Hp->VK->Prop}
def Be(pa:PlainAttrs T)(slot:Slot T name id)(hty:typeOf (.builtin id)=pure (.type "method_descriptor"))(hm:S7 X id r)(ho:PE X o to)
  (hbase:attributeBase o name X.env (eval o X.env)=eval o X.env:=by rfl)(hline:(apos.endLine==cpos.line)=true:=by rfl):PE X (.Call (.Attribute o name apos) [] [] cpos) (Ur X.K T r to):=by sleep 31;refine wpAny_Call_method0_late hbase hline (cT (ho pins s σ H _ I h) λv s1 ⟨x,H1,I1,r1,ty,q1⟩=>?_);obtain⟨h1,h2⟩:=GY I1 r1 ty;exact⟨T,id,pa,slot,hty,h1,h2,v7 rfl (PySem.evalArgs_none (hm pins s1 σ H1 x [] v [] Q I1 r1 .nil q1))⟩
def jw(pa:PlainAttrs T)(slot:Slot T name id)(hty:typeOf (.builtin id)=pure (.type "method_descriptor"))(hm:S7 X id r)(ho:PE X o to)(ha:PA X (e::es) t)
  (hbase:attributeBase o name X.env (eval o X.env)=eval o X.env:=by rfl)
  (hfew:((backTo cpos (starEach (e::es) X.env)).all (λx=>!x.1)&&(backToKw cpos (keywordEach [] X.env)).all (λx=>x.1.isSome)
   && decide ((e::es).length+([]:List Keyword).length+(if([]:List Keyword).isEmpty then 0 else 1)<30))=true:=by rfl)
  (hline:(apos.endLine==cpos.line)=true:=by rfl)(hs:starEach (e::es) X.env=(false,eval e X.env)::starEach es X.env:=by rfl)(hplain:(backTo cpos (starEach es X.env)).any (·.1)=false:=by rfl):
  PE X (.Call (.Attribute o name apos) (e::es) [] cpos) (tBM X.K T r to t):=by sleep 31;refine wpAny_Call_method_late hbase hfew hline rfl (cT (ho pins s σ H _ I h) λv s1 ⟨x,H1,I1,r1,ty,q1⟩=>?_);obtain⟨h1,h2⟩:=GY I1 r1 ty;refine⟨T,id,pa,slot,hty,h1,h2,?_⟩;have hA:=ha cpos pins s1 σ H1 _ I1 q1;rw[hs] at hA ⊢;refine v7 (by show(false||(backTo cpos (starEach es X.env)).any (·.1))=false;rw[hplain]<;>rfl) (Calls.evalArgs_plain ?_);exact cT hA λus s2 ⟨vs,H2,I2,r2,q2⟩=>hm pins s2 σ H2 x vs v us Q I2 r1 r2 q2
end
def Us(X:Cx)(id:String)(r:V->List V->Hp->VK->Prop):Prop :=
 ∀(pins:List (Addr×Obj))(s:Shared)(σ:St)(H:Hp)(x:V)(xs:List V)(v:Value)(us:List Value)(Q:VK),Inv X pins σ H s->RelV x v->Vals xs us->r x xs H Q ->
  wpAny (model X.prog X.w) X.A (call (.builtin id) (v::us)) (EP X pins σ Q) X.xe s
theorem Vals.one:∀{x:V}{us:List Value},Vals [x] us->∃u,us=[u]/\RelV x u
 | _,_,.cons r .nil=>⟨_,rfl,r⟩
theorem Vals.two:∀{x y:V}{us:List Value},Vals [x,y] us->∃u v,us=[u,v]/\RelV x u/\RelV y v
 | _,_,_,.cons r (.cons q .nil)=>⟨_,_,rfl,r,q⟩
theorem Vals.zero:∀{us:List Value},Vals [] us->us=[]
 | _,.nil=>rfl
theorem Vals.dropLast(h:Vals xs us):Vals xs.dropLast us.dropLast:=by
 induction h with
 | nil=>exact .nil
 | cons r t ih =>
  cases t with
  | nil=>exact .nil
  | cons q t'=>exact .cons r ih
theorem Vals.eraseIdx:∀{xs:List V}{us:List Value}(i:Nat),Vals xs us->Vals (xs.eraseIdx i) (us.eraseIdx i)
 | _,_,_,.nil=>.nil
 | _,_,0,.cons _ t=>t
 | _,_,i+1,.cons r t=>.cons r (Vals.eraseIdx i t)
theorem Vals.reverse(h:Vals xs us):Vals xs.reverse us.reverse:=by
 induction h with
 | nil=>exact .nil
 | cons r t ih=>rw[List.reverse_cons,List.reverse_cons];exact Vals.append ih (.cons r .nil)
theorem Vals.rep(h:Vals xs us):∀k:Nat,Vals (List.replicate k xs).flatten (List.replicate k us).flatten
 | 0=>.nil
 | k+1=>by rw[rT,rT,List.flatten_cons,List.flatten_cons];exact Vals.append h (Vals.rep h k)
def Bf{α:Type}(l:List α):l.eraseIdx (l.length-1)=l.dropLast:=by
 induction l with
 | nil=>rfl
 | cons a r ih =>
  cases r with
  | nil=>rfl
  | cons b r =>
   have e:(a::b::r).length-1=((b::r).length-1)+1:=by have h1:(a::b::r).length=r.length+2:=rfl;have h2:(b::r).length=r.length+1:=rfl;omega
   rw[e,wg,ih]
   all_goals rfl
theorem uV{α:Type}:∀(l:List α)(i:Nat),(l.eraseIdx i).length<=l.length
 | [],_=>az _
 | _::_,0=>lq _
 | _::r,i+1=>Nat.succ_le_succ (uV r i)
theorem foldl_rep(its:List Value):∀(k:Nat)(acc:List Value),
  List.foldl (λx1 x2=>x1++x2) acc.toArray (List.replicate k its.toArray)=(acc++(List.replicate k its).flatten).toArray
 | 0,acc=>by simp
 | k+1,acc=>by
  have e:acc.toArray++its.toArray=(acc++its).toArray:=by simp
  have e2:(acc++its)++(List.replicate k its).flatten=acc++(List.replicate (k+1) its).flatten:=by rw[rT,List.flatten_cons,mV]
  rw[<- e2,<- foldl_rep its k (acc++its),<- e,rT,List.foldl_cons]
section
variable {X:Cx}{pins:List (Addr×Obj)}{σ:St}{H:Hp}{s:Shared}{l b:Addr}{xs ys zs:List V}
def Inv.GZ{its':List Value}{f:Array Value->Array Value}(I:Inv X pins σ H s)(hH:H l=some (.lst xs))
  (e:s.heap.get? l=some { cls:=.type "list", data:=.seq its.toArray n })(hf:f its.toArray=its'.toArray)(hv:Vals ys its')(hz:ys.length<=sizeLine):
  Inv X pins σ (upd H l (.lst ys)) { s with heap:=s.heap.update l (Obj.mapSeq f),toks:=t' }:=by have q:=PySem.IsL.update e f;rw[hf] at q;refine I.write (x:=l) (e:=l) (by rw[hH];exact trivial) (.inl rfl) (λb' u hb hu=>(j9 s.heap (Obj.mapSeq f) (bu hb)).trans hu) ⟨_,q⟩ ?_;exact⟨hz,its',_,hv,q⟩
def Inv.Ut(I:Inv X pins σ H s)(hv:Vals ys its)(hz:ys.length<=sizeLine):
  Inv X pins σ (upd H s.heap.objs.size (.lst ys)) { s with heap:=s.heap.push { cls:=.type "list", data:=.seq its.toArray },toks:=t' } :=
 I.laid (λ_ _ q=>c8 _ q) (az _) ⟨hz,its,0,hv,iC _ rfl⟩
theorem Inv.fresh(I:Inv X pins σ H s):H s.heap.objs.size=none:=I.hok.fresh (az _)
def Inv.wG(I:Inv X pins σ H s)(hH:H l=some (.lst xs)):xs.length<=sizeLine/\∃(its:List Value)(n:Nat),Vals xs its/\xs.length=its.length/\s.heap.get? l=some { cls:=.type "list", data:=.seq its.toArray n }:=by obtain⟨z,its,n,r,e⟩:=I.hok l _ hH;exact⟨z,its,n,r,r.length,e⟩
def yl(h:n<=sizeLine):Builtin.List.listTooLong n=false:=by unfold Builtin.List.listTooLong;exact decide_eq_false (by omega)
end
section
variable {X:Cx}
def CL:V->List V->Hp->VK->Prop:=λx vs H Q=>∃l xs y,x=.ref l/\vs=[y]/\H l=some (.lst xs)/\xs.length<sizeLine/\Q .cX (upd H l (.lst (xs++[y])))
def gw:Us X "list.append" CL:=by sleep 133;obtain⟨l,xs,y,rfl,rfl,hH,hz,q⟩:=h;sleep 248;sleep 97;refine call_meets F.slot_list_append ⟨_,e,rfl⟩ F.entry_list_append (F.args_list_append_2 _ _) (PySem.list_append l its.toArray n u (by rw[aV];omega)) ⟨e,?_⟩;refine⟨.cX,_,I.GZ (its':=its++[u]) hH e (by simp) (r.append (.cons ru .nil)) ?_,rfl,q⟩;rw[aR,jI];omega
def CM:V->List V->Hp->VK->Prop:=λx vs H Q=>∃l b xs zs,x=.ref l/\vs=[.ref b]/\H l=some (.lst xs)/\H b=some (.lst zs)/\xs.length+zs.length<=sizeLine/\Q .cX (upd H l (.lst (xs++zs)))
def jW:Us X "list.extend" CM:=by
 sleep 133;obtain⟨l,b,xs,zs,rfl,rfl,hH,hB,hz,q⟩:=h;sleep 248;cases ru;sleep 97;obtain⟨z2,its2,n2,r2,hl2,e2⟩:=I.wG hB;have hsz:its.toArray.size+its2.toArray.size<=sizeLine:=by rw[aV,aV];omega
 have G0:¬(!its.toArray.isEmpty&&Builtin.List.listTooLong (its.toArray.size+its2.toArray.size))=true:=by rw[yl hsz,Bool.and_false];exact jT
 refine call_meets F.slot_list_extend ⟨_,e,rfl⟩ F.entry_list_extend (F.args_list_extend_2 _ _)
  (AutoSeq1.list_extend_list_list_0 l its.toArray n b its2.toArray n2 G0 (by rw[aV];omega) (by omega)) ⟨e,e2,?_⟩
 refine⟨.cX,_,I.GZ (its':=its++its2) hH e (by simp) (r.append r2) ?_,rfl,q⟩;rw[aR];omega
def Uu:V->List V->Hp->VK->Prop:=λx vs H Q=>∃l xs y,x=.ref l/\vs=[]/\H l=some (.lst xs)/\xs[xs.length-1]?=some y/\Q y (upd H l (.lst xs.dropLast))
def G1:Us X "list.pop" Uu:=by
 sleep 133;obtain⟨l,xs,y,rfl,rfl,hH,hy,q⟩:=h;cases rx;have pQ:=rv.zero;subst pQ;sleep 97;obtain⟨u,hu,ru⟩:=r.get hy;have hy':its.toArray[its.toArray.size-1]?=some u:=by show its.toArray[its.length-1]?=some u;rw[<- fR,<- hl];exact hu
 refine call_meets F.slot_list_pop ⟨_,e,rfl⟩ F.entry_list_pop (F.args_list_pop_1 _) (MeetsSeq.list_pop_last l its.toArray n u hy' (by rw[aV];omega)) ⟨e,?_⟩;refine⟨y,_,I.GZ (its':=its.dropLast) hH e ?_ r.dropLast ?_,ru,q⟩
 .show its.toArray.eraseIdxIfInBounds (its.toArray.size-1)=its.dropLast.toArray;rw[aV,List.eraseIdxIfInBounds_toArray,Bf]
 .rw[List.length_dropLast];omega
def G2:V->List V->Hp->VK->Prop:=λx vs H Q=>∃l xs i k y,x=.ref l/\vs=[.int i]/\H l=some (.lst xs) /\ -(2 ^ 63)<=i/\i<2 ^ 63/\seqIndex? i xs.length=some k/\xs[k]?=some y/\Q y (upd H l (.lst (xs.eraseIdx k)))
def G3:Us X "list.pop" G2:=by
 sleep 133;obtain⟨l,xs,i,k,y,rfl,rfl,hH,h1,h2,hk,hy,q⟩:=h;sleep 248;obtain⟨t,rfl⟩:=ru;sleep 97;obtain⟨w,hw,rw'⟩:=r.get hy;refine call_meets F.slot_list_pop ⟨_,e,rfl⟩ F.entry_list_pop (F.args_list_pop_2 _ _)
  (MeetsSeq.list_pop_at l its.toArray n i t k w (fitsIndex_both h1 h2) (by rw[aV,<- hl];exact hk) (by rw[<- fR];exact hw) (by rw[aV];omega)) ⟨e,?_⟩
 refine⟨y,_,I.GZ (its':=its.eraseIdx k) hH e ?_ (r.eraseIdx k) ?_,rw',q⟩
 .show its.toArray.eraseIdxIfInBounds k=(its.eraseIdx k).toArray;rw[List.eraseIdxIfInBounds_toArray]
 .have:=uV xs k;omega
def G4:V->List V->Hp->VK->Prop:=λx vs H Q=>∃l xs,x=.ref l/\vs=[]/\H l=some (.lst xs)/\Q .cX (upd H l (.lst []))
def G5:Us X "list.clear" G4:=by sleep 133;obtain⟨l,xs,rfl,rfl,hH,q⟩:=h;cases rx;have pQ:=rv.zero;subst pQ;sleep 97;refine call_meets F.slot_list_clear ⟨_,e,rfl⟩ F.entry_list_clear (F.args_list_clear_1 _) (AutoSeq1.list_clear_list_0 l its.toArray n (by rw[aV];omega)) ⟨e,?_⟩;exact⟨.cX,_,I.GZ (its':=[]) (ys:=[]) hH e rfl .nil (aH _),rfl,q⟩
def Uv:R2:=λx y H Q=>∃l b xs zs,x=.ref l/\y=.ref b/\H l=some (.lst xs)/\H b=some (.lst zs)/\xs.length+zs.length<=sizeLine/\∀p,H p=none->Q (.ref p) (upd H p (.lst (xs++zs)))
def sj:jS X (binaryOp .Add) Uv:=by
 sleep 30;obtain⟨l,b,xs,zs,rfl,rfl,hH,hB,hz,q⟩:=h;cases rx;cases ry;sleep 97;obtain⟨z2,its2,n2,r2,hl2,e2⟩:=I.wG hB;refine PySem.P.add_list e e2 ?_ (by rw[aV,aV];omega);have ea:its.toArray++its2.toArray=(its++its2).toArray:=by simp
 rw[ea];exact⟨.ref _,_,I.Ut (t':=s.toks) (r.append r2) (by rw[aR];omega),rfl,q _ I.fresh⟩
def Uw:R2:=λx y H Q=>∃l k xs,x=.ref l/\y=.int k/\H l=some (.lst xs) /\ -(2 ^ 63)<=k/\k<2 ^ 63/\xs.length*k.toNat<=sizeLine /\
 ∀p,H p=none->Q (.ref p) (upd H p (.lst (List.replicate k.toNat xs).flatten))
def len_rep{α:Type}(xs:List α)(k:Nat):(List.replicate k xs).flatten.length=k*xs.length:=by
 induction k with
 | zero=>simp
 | succ k ih=>rw[rT,List.flatten_cons,aR,ih,Nat.succ_mul,Nat.add_comm]
def P1:jS X (binaryOp .Mult) Uw:=by
 sleep 30;obtain⟨l,k,xs,rfl,rfl,hH,h1,h2,hz,q⟩:=h;cases rx;obtain⟨t,rfl⟩:=ry;sleep 97;have hlen:its.toArray.size*k.toNat<=sizeLine:=by rw[aV,<- hl];exact hz
 have hcap:¬its.toArray.size*k.toNat>(2 ^ 63-1) / 8:=by
  have:(sizeLine:Nat)<=(2 ^ 63-1) / 8:=by decide
  omega
 have hfit:¬(!Builtin.List.listFitsIndex k)=true:=by rw[fitsIndex_both h1 h2];exact jT
 have G0:¬Builtin.List.listTooLong (its.toArray.size*k.toNat)=true:=by rw[yl hlen];exact jT
 have hnew:List.foldl (λx1 x2=>x1++x2) #[] (List.replicate (if its.toArray.isEmpty=true then 0 else k.toNat) its.toArray)=(List.replicate k.toNat its).flatten.toArray:=by
  have f0:∀m:Nat,List.foldl (λx1 x2=>x1++x2) #[] (List.replicate m its.toArray)=(List.replicate m its).flatten.toArray:=λm=>by have:=foldl_rep its m [];rw[List.nil_append] at this;exact this
  rw[f0];cases its with
  | nil=>simp
  | cons a r'=>rw[if_neg (by simp)]
 refine wpAny_binaryOp_repeat_ref (T := "list") (U := "int") (by decide) ⟨_,e,rfl⟩ (λs'=>typeIs_int s' k t) noFill_list_mul F.fills_int_mul F.slot_int_rmul repeat_list F.slot_int_index.lookup
  (call_meets F.slot_int_rmul (typeIs_int s k t) F.entry_int_rmul (F.args_int_rmul_2 _ _) (int___rmul___int_list k t l its.toArray n)
   ⟨e,rfl,⟨_,e,rfl⟩,call_meets F.slot_list_mul ⟨_,e,rfl⟩ F.entry_list_mul (F.args_list_mul_2 _ _) (AutoListH.list___mul___list_int_3 l its.toArray n k t hfit hcap G0) ⟨e,?_⟩⟩)
 rw[hnew];exact⟨.ref _,_,I.Ut (t':=s.toks) (r.rep k.toNat) (by rw[len_rep,Nat.mul_comm];exact hz),rfl,q _ I.fresh⟩
end
section
variable {prog:Program}{w:World}{A:Around}{E:Value->Shared->Prop}{s:Shared}
end
section
variable {X:Cx}
end
section
variable {κ:Type} [DecidableEq κ]
def e9(kvs:List (κ×V))(k:κ):Option V:=(kvs.find? λkv=>decide (kv.1=k)).map (·.2)
def putK(kvs:List (κ×V))(k:κ)(v:V):List (κ×V) :=
 if(kvs.any λkv=>decide (kv.1=k))=true then kvs.map (λkv=>if kv.1=k then(kv.1,v) else kv) else kvs++[(k,v)]
def NU(kvs:List (κ×V))(k:κ):List (κ×V):=kvs.filter λkv=>decide (kv.1≠k)
def fG{p:κ×V}{r:List (κ×V)}{k:κ}(e:p.1=k):e9 (p::r) k=some p.2:=by simp[e9,i0,e]
def fH{p:κ×V}{r:List (κ×V)}{k:κ}(e:¬p.1=k):e9 (p::r) k=e9 r k:=by simp[e9,i0,e]
theorem jX(k:κ):∀kvs:List (κ×V),(kvs.any λkv=>decide (kv.1=k))=(e9 kvs k).isSome
 | []=>rfl
 | p::r=>by
  rw[jD];by_cases e:p.1=k
  .simp only[fG e,decide_eq_true e,Bool.true_or,Option.isSome_some]
  .rw[fH e,decide_eq_false e,Bool.false_or];exact jX k r
theorem ym(k j:κ)(y:V):∀kvs:List (κ×V),e9 (kvs.map λkv=>if kv.1=k then(kv.1,y) else kv) j=(e9 kvs j).map λx=>if j=k then y else x
 | []=>rfl
 | p::r=>by
  have ih:=ym k j y r;rw[cj];by_cases h:p.1=k
  .rw[if_pos h];by_cases e:p.1=j
   .rw[fG (p:=(p.1,y)) e,fG e,Option.map_some,if_pos (e.symm.trans h)]
   .rw[fH (p:=(p.1,y)) e,fH e,ih]
  .rw[if_neg h];by_cases e:p.1=j
   .rw[fG (p:=p) e,fG e,Option.map_some,if_neg (λz=>h (e.trans z))]
   .rw[fH (p:=p) e,fH e,ih]
theorem uW(k j:κ)(y:V):∀kvs:List (κ×V),e9 kvs k=none->e9 (kvs++[(k,y)]) j=if j=k then some y else e9 kvs j
 | [],_=>by
  by_cases e:k=j
  .rw[if_pos e.symm];exact fG (p:=(k,y)) e
  .rw[if_neg (λz=>e z.symm)];exact fH (p:=(k,y)) e
 | p::r,hn=>by
  rw[List.cons_append];have hk:¬p.1=k:=λz=>by rw[fG z] at hn;cases hn
  rw[fH hk] at hn;have ih:=uW k j y r hn;by_cases e:p.1=j
  .rw[fG e,fG e,if_neg (λz=>hk (e.trans z))]
  .rw[fH e,fH e,ih]
def yo(kvs:List (κ×V))(k j:κ)(y:V):e9 (putK kvs k y) j=if j=k then some y else e9 kvs j:=by
 unfold putK;by_cases a:(kvs.any λkv=>decide (kv.1=k))=true
 .rw[if_pos a,ym];rw[jX] at a;by_cases e:j=k
  .obtain⟨x,hx⟩:=Option.isSome_iff_exists.mp a;rw[if_pos e,e,hx,Option.map_some,if_pos rfl]
  .rw[if_neg e];cases e9 kvs j with
   | none=>rfl
   | some x=>rw[Option.map_some,if_neg e]
 .rw[if_neg a];refine uW k j y kvs ?_;rw[jX] at a;cases q:e9 kvs k with
  | none=>rfl
  | some x=>rw[q] at a;exact(a rfl).elim
def lD(kvs:List (κ×V))(k:κ)(v:V):(putK kvs k v).length<=kvs.length+1:=by
 unfold putK;split
 .rw[av];omega
 .rw[aR,eB,mW];omega
def ly.iW{u:Option Value}(r:ly o u):o.isSome=u.isSome:=by
 cases o with
 | none=>cases u with
  | none=>rfl
  | some _=>exact(show False from r).elim
 | some _=>cases u with
  | none=>exact(show False from r).elim
  | some _=>rfl
theorem ly.getD{u:Option Value}{d:V}{d':Value}(r:ly o u)(rd:RelV d d'):RelV (o.getD d) (u.getD d'):=by
 cases o with
 | none=>cases u with
  | none=>exact rd
  | some _=>exact(show False from r).elim
 | some _=>cases u with
  | none=>exact(show False from r).elim
  | some _=>exact r
def KV.val{kvs:List (κ×V)}{vs:List (κ×Value)}(r:KV kvs vs)(k:κ):ly (e9 kvs k) (valueAt vs k):=by
 unfold KV at r;induction r with
 | nil=>exact gf
 | @cons p q ps qs h t ih =>
  obtain⟨h1,h2⟩:=h;by_cases e:p.1=k
  .have e':q.1=k:=h1.symm.trans e;have b:valueAt (q::qs) k=some q.2:=by simp[valueAt,i0,e']
   rw[fG e,b];exact h2
  .sleep 257;have b:valueAt (q::qs) k=valueAt qs k:=by simp[valueAt,i0,e']
   rw[fH e,b];exact ih
theorem KV.any{kvs:List (κ×V)}{vs:List (κ×Value)}(r:KV kvs vs)(k:κ):(kvs.any λkv=>decide (kv.1=k))=vs.any λkv=>decide (kv.1=k):=by
 unfold KV at r;induction r with
 | nil=>rfl
 | cons h t ih=>rw[jD,jD,ih,h.1]
def KV.repl{kvs:List (κ×V)}{vs:List (κ×Value)}(r:KV kvs vs)(k:κ)(ry:RelV y u):
  KV (kvs.map λkv=>if kv.1=k then(kv.1,y) else kv) (vs.map λkv=>if kv.1=k then(kv.1,u) else kv):=by
 unfold KV at r ⊢;induction r with
 | nil=>exact .nil
 | @cons p q ps qs h t ih =>
  rw[cj,cj];refine .cons ?_ ih;obtain⟨h1,h2⟩:=h;by_cases e:p.1=k
  .rw[if_pos e,if_pos (h1.symm.trans e)];exact⟨h1,ry⟩
  .rw[if_neg e,if_neg (λz=>e (h1.trans z))];exact⟨h1,h2⟩
def KV.put{kvs:List (κ×V)}{vs:List (κ×Value)}(r:KV kvs vs)(k:κ)(ry:RelV y u):KV (putK kvs k y) (stored vs k u):=by
 unfold putK stored;rw[r.any k];by_cases e:(vs.any λkv=>decide (kv.1=k))=true
 .rw[if_pos e,if_pos e];exact r.repl k ry
 .rw[if_neg e,if_neg e];exact cI r ⟨rfl,ry⟩
def KV.drop{kvs:List (κ×V)}{vs:List (κ×Value)}(r:KV kvs vs)(k:κ):KV (NU kvs k) (without vs k):=by
 unfold KV at r ⊢;unfold NU without;induction r with
 | nil=>exact .nil
 | @cons p q ps qs h t ih =>
  obtain⟨h1,h2⟩:=h;rw[List.filter_cons,List.filter_cons];by_cases e:p.1=k
  .have a:¬decide (p.1≠k)=true:=by simp[e]
   have b:¬decide (q.1≠k)=true:=by simp[h1.symm.trans e]
   rw[if_neg a,if_neg b];exact ih
  .sleep 257;have a:decide (p.1≠k)=true:=by simp[e]
   have b:decide (q.1≠k)=true:=by simp[e']
   rw[if_pos a,if_pos b];exact .cons ⟨h1,h2⟩ ih
def KV.keys{kvs:List (κ×V)}{vs:List (κ×Value)}(r:KV kvs vs):kvs.map (·.1)=vs.map (·.1):=by
 unfold KV at r;induction r with
 | nil=>rfl
 | cons h t ih=>rw[cj,cj,ih,h.1]
theorem KV.length{kvs:List (κ×V)}{vs:List (κ×Value)}(r:KV kvs vs):kvs.length=vs.length:=g9 r
end
def nM{k:Key}(r:RelV (kV k) u):(bK P w).is k u=true:=by
 cases k with
 | inl i=>obtain⟨t,e⟩:=(show ∃t,u=Value.int i t from r);subst e;exact yd P w i t
 | inr x=>obtain⟨t,e⟩:=(show ∃t,u=Value.str x t from r);subst e;exact lu P w x t
theorem uX{P:Program}{w:World}:∀{ks:List Key}{us:List Value},Vals (ks.map kV) us->ItemsAre (bK P w) ks us
 | [],_,r=>by rw[List.map_nil] at r;cases r;exact .nil
 | k::ks,_,r=>by
  rw[cj] at r;cases r with
  | cons h t=>exact .cons (nM h) (uX t)
abbrev KT(H:Hp):List (List Key×V)->List (List Key×Addr×Value)->Prop:=Paired λp q=>p.1=q.1/\H q.2.1=some (.tup (p.1.map kV))/\RelV p.2 q.2.2
def KT.val{xs:List (List Key×Addr×Value)}(r:KT H kvs xs)(k:List Key):ly (e9 kvs k) ((atKey xs k).map (·.2)):=by
 induction r with
 | nil=>exact gf
 | @cons p q ps qs h t ih =>
  obtain⟨h1,_,h2⟩:=h;by_cases e:p.1=k
  .have e':q.1=k:=h1.symm.trans e;have b:atKey (q::qs) k=some q.2:=by simp[atKey,i0,e']
   rw[fG e,b];exact h2
  .sleep 257;have b:atKey (q::qs) k=atKey qs k:=by simp[atKey,i0,e']
   rw[fH e,b];exact ih
def KT.repl{xs:List (List Key×Addr×Value)}(r:KT H kvs xs)(k:List Key)(ry:RelV y u):
  KT H (kvs.map λkv=>if kv.1=k then(kv.1,y) else kv) (xs.map (putAt k u)):=by sleep 43
def KT.put{xs:List (List Key×Addr×Value)}(r:KT H kvs xs)(k:List Key)(hb:H b=some (.tup (k.map kV)))(ry:RelV y u):
  KT H (putK kvs k y) (storedH xs k b u):=by
 have e:(kvs.any λkv=>decide (kv.1=k))=(atKey xs k).isSome:=by rw[jX,(r.val k).iW,Option.isSome_map]
 unfold putK storedH;rw[e];by_cases q:(atKey xs k).isSome=true
 .rw[if_pos q,if_pos q];exact r.repl k ry
 .rw[if_neg q,if_neg q];exact cI r ⟨rfl,hb,ry⟩
def KT.keeps{xs:List (List Key×Addr×Value)}(r:KT H kvs xs)(ht:∀b ys,H b=some (.tup ys)->H' b=some (.tup ys)):KT H' kvs xs :=
 Paired.Ex r λ_ _ z=>⟨z.1,ht _ _ z.2.1,z.2.2⟩
section
variable {P:Program}{w:World}{H:Hp}{h:Heap}{a:Addr}
def NV{u:HO}(ok:m9 P w H h)(e:Rd H a u):cZ P w H h a u:=e.ok ok
def sr{kvs:List (Key×V)}(ok:m9 P w H h)(e:Rd H a (.dK kvs)):kvs.length<=sizeLine/\(a==sysModules)=false/\∃vs,KV kvs vs/\h.DictOf (bK P w) a vs :=
 show cZ P w H h a (.dK kvs) from NV ok e
def Ux{kvs:List (Key×V)}(ok:m9 P w H h)(e:H a=some (.dK kvs)):kvs.length<=sizeLine/\(a==sysModules)=false/\∃vs,KV kvs vs/\h.DictOf (bK P w) a vs:=sr ok (.inl e)
def pR{ks:List Key}(ok:m9 P w H h)(e:H a=some (.tup (ks.map kV))):(tupleKind (bK P w)).is h ks a:=by obtain⟨_,its,r,o,h1,h2,n,h3⟩:=(show cZ P w H h a (.tup (ks.map kV)) from ok a _ e);exact⟨o,its.toArray,n,h1,h2,h3,by simpa using uX r⟩
def su(ok:m9 P w H h)(e:Rd H a (.dT kvs)):kvs.length<=sizeLine/\(a==sysModules)=false /\
  ∃xs,KT H kvs xs/\h.DictOfH (tupleKind (bK P w)) a xs:=by
 obtain⟨z,y,xs,r,o,es,ep,h1,h2,h3,h4,h5⟩:=(show cZ P w H h a (.dT kvs) from NV ok e);refine⟨z,y,xs,r,o,es,ep,h1,h2,h3,h4,λx hx=>?_,h5⟩;have all:∀{l:List (List Key×V)}{m:List (List Key×Addr×Value)},KT H l m->∀x∈m,(tupleKind (bK P w)).is h x.1 x.2.1:=by
  intro l m q;induction q with
  | nil=>intro x hx;exact nomatch hx
  | @cons p q ps qs hq t ih =>
   intro x hx;rcases aI.mp hx with e|hx
   .subst e;exact pR ok (by rw[<- hq.1];exact hq.2.1)
   .exact ih x hx
 exact all r x hx
def Uy(ok:m9 P w H h)(e:H a=some (.dT kvs)):kvs.length<=sizeLine/\(a==sysModules)=false /\
  ∃xs,KT H kvs xs/\h.DictOfH (tupleKind (bK P w)) a xs:=su ok (.inl e)
end
def kU(H:Hp)(a:Addr)(y:V)(r:Option V):Prop :=
 (∃kvs k,Rd H a (.dK kvs)/\y=kV k/\r=e9 kvs k)\/∃kvs k b,Rd H a (.dT kvs)/\y=.ref b/\H b=some (.tup (k.map kV))/\r=e9 kvs k
def yp(H:Hp)(a:Addr)(y v:V)(H':Hp):Prop :=
 (∃kvs k,H a=some (.dK kvs)/\y=kV k/\kvs.length<sizeLine/\H'=upd H a (.dK (putK kvs k v))) \/
 ∃kvs k b,H a=some (.dT kvs)/\y=.ref b/\H b=some (.tup (k.map kV))/\kvs.length<sizeLine/\H'=upd H a (.dT (putK kvs k v))
theorem kU.k{H:Hp}{a:Addr}{kvs:List (Key×V)}{k:Key}(e:H a=some (.dK kvs)):kU H a (kV k) (e9 kvs k):=.inl ⟨kvs,k,.inl e,rfl,rfl⟩
def kU.t{k:List Key}(e:H a=some (.dT kvs))(eb:H b=some (.tup (k.map kV))):kU H a (.ref b) (e9 kvs k):=.inr ⟨kvs,k,b,.inl e,rfl,eb,rfl⟩
theorem yp.k{H:Hp}{a:Addr}{kvs:List (Key×V)}{k:Key}{v:V}(e:H a=some (.dK kvs))(hl:kvs.length<sizeLine):yp H a (kV k) v (upd H a (.dK (putK kvs k v))):=.inl ⟨kvs,k,e,rfl,hl,rfl⟩
def yp.t{k:List Key}{v:V}(e:H a=some (.dT kvs))(eb:H b=some (.tup (k.map kV)))(hl:kvs.length<sizeLine):
  yp H a (.ref b) v (upd H a (.dT (putK kvs k v))):=.inr ⟨kvs,k,b,e,rfl,eb,hl,rfl⟩
section
variable {X:Cx}{pins:List (Addr×Obj)}{σ:St}{H:Hp}{s:Shared}{a:Addr}{y v:V}{u r:Value}{o:Option V}{A:Around}{E:Value->Shared->Prop}
def Inv.big(I:Inv X pins σ H s):sysModules<s.heap.objs.size:=by have h:mainGlobals<s.heap.objs.size:=(I.mod.glob.keeps I.bk).lt;exact Nat.lt_trans (by decide) h
def EN(hu:A.units+1<cLine)(I:Inv X pins σ H s)(g:kU H a y (some v))(ry:RelV y u)(h:∀w' s',Inv X pins σ H s'->RelV v w'->Q w' s'):
  wpAny (model X.prog X.w) A (getItem (.ref a) u) Q E s:=by
 rcases g with⟨kvs,k,e,ey,l⟩|⟨kvs,k,b,e,ey,eb,l⟩
 .sleep 132;obtain⟨w',hw,rw'⟩:=ly.some_of (v:=v) (o:=valueAt vs k) (by rw[l];exact rel.val k);exact wpAny_getItem_of (nM ry) dd.mapOf hw (h w' _ (I.tok _) rw')
 .sleep 57;obtain⟨w',hw,rw'⟩:=ly.some_of (v:=v) (o:=(atKey xs k).map (·.2)) (by rw[l];exact rel.val k);obtain⟨p,hp,hp2⟩:=dg.mp hw;refine wpAny_getItem_heap (tupleKind_room_in1 hu) (pR I.hok eb) dd hp ?_;rw[hp2];exact h w' _ (I.tok _) rw'
def Zk(hu:A.units+1<cLine)(I:Inv X pins σ H s)(g:kU H a y o)(ry:RelV y u)(h:∀s',Inv X pins σ H s'->Q (.bool o.isSome) s'):
  wpAny (model X.prog X.w) A (compareOp .In u (.ref a)) Q E s:=by
 rcases g with⟨kvs,k,e,ey,l⟩|⟨kvs,k,b,e,ey,eb,l⟩
 .sleep 132;refine wpAny_in_of (nM ry) hd dd.mapOf ?_;rw[<- (rel.val k).iW,<- l];exact h _ (I.tok _)
 .sleep 57;refine wpAny_in_heap (tupleKind_room_in1 hu) (pR I.hok eb) hd dd ?_;sleep 185
def Lr(hu:A.units+1<cLine)(I:Inv X pins σ H s)(g:kU H a y o)(ry:RelV y u)(h:∀s',Inv X pins σ H s'->Q (.bool (!o.isSome)) s'):
  wpAny (model X.prog X.w) A (compareOp .NotIn u (.ref a)) Q E s:=by
 rcases g with⟨kvs,k,e,ey,l⟩|⟨kvs,k,b,e,ey,eb,l⟩
 .sleep 132;refine wpAny_notIn_of (nM ry) hd dd.mapOf ?_;rw[<- (rel.val k).iW,<- l];exact h _ (I.tok _)
 .sleep 57;refine wpAny_notIn_heap (tupleKind_room_in1 hu) (pR I.hok eb) hd dd ?_;sleep 185
def wH{h':Heap}{ob:HO}(I:Inv X pins σ H s)(mu:TF (H a))(hs:Heap.SameBut a s.heap h')(he:∃q,h'.get? a=some q)(new:cZ X.prog X.w (upd H a ob) h' a ob):
  Inv X pins σ (upd H a ob) { s with heap:=h',toks:=t' } :=
 I.write (x:=a) (e:=a) mu (.inl rfl) (λb q hb z=>(hs.2 b hb).trans z) he new
def P5{h':Heap}{kvs:List (Key×V)}{vs:List (Key×Value)}(z:kvs.length<=sizeLine)(hd:(a==sysModules)=false)(rel:KV kvs vs)(dd:h'.DictOf (bK P w) a vs):
  cZ P w H' h' a (.dK kvs):=⟨z,hd,vs,rel,dd⟩
def EO{Q:Unit->Shared->Prop}(hu:A.units+1<cLine)(I:Inv X pins σ H s)(g:yp H a y v H')(ry:RelV y u)(rv:RelV v r)(h:∀s',Inv X pins σ H' s'->Q () s'):
  wpAny (model X.prog X.w) A (setItem (.ref a) u r) Q E s:=by
 rcases g with⟨kvs,k,e,ey,l,eH⟩|⟨kvs,k,b,e,ey,eb,l,eH⟩
 .subst ey eH;obtain⟨z,hd,vs,rel,dd⟩:=Ux I.hok e;have hz:vs.length<=sizeLine:=by rw[<- rel.length];exact z
  sleep 249;refine wpAny_setItem_pairs (hsz:=hz) (nM ry) dd λh' S9 hs=>h _ ?_;have he:∃q,h'.get? a=some q:=let⟨q,_,_,hq,_⟩:=S9;⟨q,hq⟩;exact wH I (by rw[e];exact gf) hs he (P5 hl hd (rel.put k rv) S9)
 .subst ey eH;cases(show u=Value.ref b from ry);obtain⟨z,hd,xs,rel,dd⟩:=Uy I.hok e;have hz:xs.length<=sizeLine:=by rw[<- g9 rel];exact z
  sleep 249;refine wpAny_setItem_heap (hsz:=hz) (tupleKind_room_in1 hu) (pR I.hok eb) dd λh' S9 hs=>h _ ?_;obtain⟨q,es,ep,hq,h2,h3,h4,_,h5⟩:=S9;refine wH I (by rw[e];exact gf) hs ⟨q,hq⟩ ⟨hl,hd,_,(rel.put k eb rv).keeps λc ys ec=>?_,q,es,ep,hq,h2,h3,h4,h5⟩;rw[ck (rW ec e (λz=>nomatch z))];exact ec
end
section
variable {X:Cx}{pins:List (Addr×Obj)}{σ:St}{H:Hp}{s:Shared}{a:Addr}{kvs:List (Key×V)}{k:Key}{u:Value}{A:Around}{E:Value->Shared->Prop}
end
def G6(i:Expr):Prop:=∀ov iv,subscripted i false ov iv=operate [ov,iv] (getItem ov iv)
def wI{prog:Program}{A:Around}{E:Value->Shared->Prop}{env:Env}{value slice:Expr}{pos:Pos}{T id:String}
  (hl:typeLookup (.type T) "__getitem__" = pure (some (.builtin id)))(hs:G6 slice)
  (h:wpAny (model prog w) A (eval value env) (λo s₁=>wpAny (model prog w) A (eval slice env) (λi s₂=>s₂.TypeIs o T/\wpAny (model prog w) A (getItem o i) Q E s₂) E s₁) E s):
  wpAny (model prog w) A (eval (.Subscript value slice pos) env) Q E s:=by
 refine Subscript_ (wpAny_mono h (λo s₁ h₁=>wpAny_mono h₁ (λi s₂ h₂=>?_) λ_ _ x=>x) λ_ _ x=>x);obtain⟨hT,h₂⟩:=h₂;unfold subscriptTail;refine aq ?_;rw[getitemInPython_of_ne hT.not_modules];refine aq (wpAny_specialOf hT hl ?_);have fin:wpAny (model prog w) A (subscripted slice false o i) (λr s₃=>wpAny (model prog w) A (letTemporaryGo value o r >>= λ_=>pure r) Q E s₃) E s₂:=by rw[hs o i];exact wpAny_operating (wpAny_mono h₂ (λr s₃ h₃=>aq (wpAny_letTemporaryGo (aL h₃))) λ_ _ x=>x)
 first
  | exact aL (aq fin)
  | exact aq (aL (aq fin))
  | exact aq fin
def yq{X:Cx}{σ:St}(I:Inv X pins σ H s)(g:kU H a y o):s.TypeIs (.ref a) "dict" := by
 rcases g with⟨kvs,k,e,_,_⟩|⟨kvs,k,b,e,_,_,_⟩
 .obtain⟨_,_,vs,_,dd⟩:=sr I.hok e;exact dd.typeIs
 .obtain⟨_,_,xs,_,dd⟩:=su I.hok e;exact dd.typeIs
def NW(td ty:TE):TE:=λσ H Q=>td σ H λx H1=>ty σ H1 λy H2=>∃a v,x=.ref a/\kU H2 a y (some v)/\Q v H2
def Uz(ty td:TE):TE:=λσ H Q=>ty σ H λy H1=>td σ H1 λx H2=>∃a o,x=.ref a/\kU H2 a y o/\Q (.bl o.isSome) H2
def CN(ty td:TE):TE:=λσ H Q=>ty σ H λy H1=>td σ H1 λx H2=>∃a o,x=.ref a/\kU H2 a y o/\Q (.bl (!o.isSome)) H2
def NX(td ty tv:TE):TS:=λD σ H=>tv σ H λv H1=>td σ H1 λx H2=>ty σ H2 λy H3=>∃a H4,x=.ref a/\yp H3 a y v H4/\D.nx σ H4
section
variable {X:Cx}{o i e value:Expr}{pos pos' tpos:Pos}{td ty tv:TE}
def Ls(hu:X.A.units+1<cLine)(ho:PE X o td)(hi:PE X i ty)(hs:G6 i):PE X (.Subscript o i pos) (NW td ty):=by sleep 31;refine wI PySem.F.slot_dict_getitem.lookup hs (cT (ho pins s σ H _ I h) λu s1 ⟨x,H1,I1,rx,q1⟩=>cT (hi pins s1 σ H1 _ I1 q1) λiv s2 ⟨y,H2,I2,ry,a,v,ex,g,q2⟩=>?_);sleep 139;exact⟨yq I2 g,EN hu I2 g ry λw' s3 I3 rw'=>⟨v,H2,I3,rw',q2⟩⟩
def G7(hu:X.A.units+1<cLine)(hi:PE X i ty)(ho:PE X o td):PC X .In i o (Uz ty td):=by sleep 31;sleep 94;exact Zk hu I2 g ry λs3 I3=>⟨.bl ov.isSome,H2,I3,rfl,q2⟩
def ER(hu:X.A.units+1<cLine)(hi:PE X i ty)(ho:PE X o td):PC X .NotIn i o (CN ty td):=by sleep 31;sleep 94;exact Lr hu I2 g ry λs3 I3=>⟨.bl (!ov.isSome),H2,I3,rfl,q2⟩
def CO(hu:X.A.units+1<cLine)(ho:PE X o td)(hi:PE X i ty)(hv:PE X value tv)(hs:swapsWith value (some (.Subscript o i pos')) pos.line X.env=pure false):
  PS X (.Assign [.Subscript o i pos'] value pos) (NX td ty tv):=by sleep 62;refine wpAny_Assign_Subscript (cT (hv pins s σ H _ I h) λr s1 ⟨v,H1,I1,rv,q1⟩=>cT (ho pins s1 σ H1 _ I1 q1) λu s2 ⟨x,H2,I2,rx,q2⟩=>cT (hi pins s2 σ H2 _ I2 q2) λiv s3 ⟨y,H3,I3,ry,a,H4,ex,g,q3⟩=>?_) hs;sleep 139;exact EO hu I3 g ry rv λs4 I4=>⟨σ,H4,I4,q3⟩
end
def G8(h:Heap)(hb:sysModules<h.objs.size):cZ P w H (h.push { cls:=.type "dict", data:=.dict #[] }) h.objs.size (.dK []) :=
 ⟨aH _,beq_eq_false_iff_ne.mpr (bu (aQ hb)),[],.nil,Heap.DictOf.new h⟩
def G9(h:Heap)(hb:sysModules<h.objs.size):cZ P w H (h.push { cls:=.type "dict", data:=.dict #[] }) h.objs.size (.dT []) :=
 ⟨aH _,beq_eq_false_iff_ne.mpr (bu (aQ hb)),[],.nil,_,#[],0,iC _ rfl,⟨rfl,rfl,rfl⟩,rfl,rfl,kg⟩
def Hf:TE:=λ_ H Q=>∀p,H p=none->Q (.ref p) (upd H p (.dK []))
def Hg:TE:=λ_ H Q=>∀p,H p=none->Q (.ref p) (upd H p (.dT []))
section
variable {X:Cx}{pos:Pos}
def Hh:PE X (.Dict [] [] pos) Hf:=λpins s σ H Q I h =>
 wpAny_Dict_empty ⟨.ref s.heap.objs.size,_,I.laid (a:=s.heap.objs.size) (o:=.dK []) (t':=s.toks) (λ_ _ q=>c8 _ q) (az _) (G8 s.heap I.big),rfl,h _ (I.hok.fresh (az _))⟩
def Hi:PE X (.Dict [] [] pos) Hg:=λpins s σ H Q I h =>
 wpAny_Dict_empty ⟨.ref s.heap.objs.size,_,I.laid (a:=s.heap.objs.size) (o:=.dT []) (t':=s.toks) (λ_ _ q=>c8 _ q) (az _) (G9 s.heap I.big),rfl,h _ (I.hok.fresh (az _))⟩
end
structure M2 (X:Cx) (o:Expr) (m:Str) (apos:Pos) (e f:Expr) (cpos:Pos):Prop where
 base:attributeBase o m X.env (eval o X.env)=eval o X.env
 few:((backTo cpos (starEach [e,f] X.env)).all (λx=>!x.1)&&(backToKw cpos (keywordEach [] X.env)).all (λx=>x.1.isSome)
  && decide (([e,f]:List Expr).length+([]:List Keyword).length+(if([]:List Keyword).isEmpty then 0 else 1)<30))=true
 line:(apos.endLine==cpos.line)=true
 trees:backTo cpos (starEach [e,f] X.env)=[(false,eval e X.env),(false,eval f X.env)]
def Zl(H:Hp)(a:Addr):Prop:=(∃kvs,Rd H a (.dK kvs))\/∃kvs,Rd H a (.dT kvs)
def P6{X:Cx}{σ:St}(I:Inv X pins σ H s)(d:Zl H a):
  s.TypeIs (.ref a) "dict" /\ (∀b,Value.ref a=.ref b->∃ob,s.heap.get? b=some ob/\ob.dict=none)/\(a==sysModules)=false:=by
 rcases d with⟨kvs,e⟩|⟨kvs,e⟩
 .obtain⟨_,hd,vs,_,dd⟩:=sr I.hok e;sleep 160
 .obtain⟨_,hd,xs,_,dd⟩:=su I.hok e;sleep 160
section
variable {X:Cx}{pins:List (Addr×Obj)}{σ:St}{H:Hp}{s:Shared}{a:Addr}{y d:V}{u r:Value}{o:Option V}{A:Around}{E:Value->Shared->Prop}
def P7(hu:A.units+1<cLine)(I:Inv X pins σ H s)(g:kU H a y o)(ry:RelV y u)(rd:RelV d r)(h:∀w' s',Inv X pins σ H s'->RelV (o.getD d) w'->Q w' s'):
  wpAny (model X.prog X.w) A (call (.builtin "dict.get") [.ref a,u,r]) Q E s:=by
 rcases g with⟨kvs,k,e,ey,l⟩|⟨kvs,k,b,e,ey,eb,l⟩
 .sleep 132;refine call_meetsIn PySem.F.slot_dict_get dd.typeIs PySem.F.entry_dict_get (PySem.F.args_dict_get_3 _ _ _) (meets_dict_get_default (bK X.prog X.w) a (nM ry) hd r) ⟨_,dd.mapOf,h _ _ (I.tok _) ?_⟩;rw[l];exact(rel.val k).getD rd
 .sleep 57;refine call_meetsIn PySem.F.slot_dict_get dd.typeIs PySem.F.entry_dict_get (PySem.F.args_dict_get_3 _ _ _) (meetsH_dict_get_default (tupleKind (bK X.prog X.w)) a b hd r) ⟨tupleKind_room_in1 hu,k,xs,pR I.hok eb,dd,h _ _ (I.tok _) ?_⟩;rw[l];exact(rel.val k).getD rd
end
def Hj(td ty tx:TE):TE:=λσ H Q=>td σ H λx H1=>∃a,x=.ref a/\Zl H1 a/\ty σ H1 λy H2=>tx σ H2 λz H3=>∃o,kU H3 a y o/\Q (o.getD z) H3
section
variable {X:Cx}{o e f:Expr}{apos cpos:Pos}{td ty tx:TE}
def Hl(hu:X.A.units+1<cLine)(ho:PE X o td)(he:PE X e ty)(hf:PE X f tx)(m:M2 X o "get" apos e f cpos):PE X (.Call (.Attribute o "get" apos) [e,f] [] cpos) (Hj td ty tx):=by
 sleep 31;refine wpAny_Call_method m.base m.few m.line PySem.F.plainAttrs_dict PySem.F.slot_dict_get PySem.F.type_dict_get (cT (ho pins s σ H _ I h) λu s1 ⟨x,H1,I1,rx,a,ex,d,q1⟩=>?_);sleep 139;obtain⟨t1,t2,_⟩:=P6 I1 d;refine⟨t1,t2,?_⟩;rw[m.trees];refine v7 rfl (Calls.evalArgs_plain (Calls.spliced_cons (cT (he pins s1 σ H1 _ I1 q1) λiv s2 ⟨y,H2,I2,ry,q2⟩ =>
  Calls.spliced_cons (cT (hf pins s2 σ H2 _ I2 q2) λfv s3 ⟨z,H3,I3,rz,ov,g,q3⟩=>Calls.spliced_nil ?_))))
 exact P7 hu I3 g ry rz λw' s4 I4 rw'=>⟨_,H3,I4,rw',q3⟩
end
section
variable {X:Cx}{pins:List (Addr×Obj)}{σ:St}{H:Hp}{s:Shared}{a:Addr}{kvs:List (Key×V)}{A:Around}{E:Value->Shared->Prop}
end
section
variable {X:Cx}{pins:List (Addr×Obj)}{σ:St}{H:Hp}{s:Shared}{a:Addr}{y:V}{u:Value}{A:Around}{E:Value->Shared->Prop}
end
end L2
namespace Att
open PySem PySem.W PySem.Calls PyProof.Rows
def qC{P:Params}{h:Heap}:∀(ns:List Int)(vs:List Value),WellAll P h vs (ns.map WData.int)->IntsAre vs ns:=by
 intro ns;induction ns with
 | nil =>
  intro vs w;rw[List.map_nil] at w;cases w;exact .nil
 | cons n ns ih =>
  intro vs w;rw[cj] at w;cases w with
  | cons a b =>
   cases a;exact .cons _ _ (ih _ b)
def ES{l:OpenLaw}{n:Nat}(hn:l.most=some n){P:Params}{h:Heap}{args:List WData}{vals:List Value}
  (hpre:l.row.toRowW.claim.pre args=true)(hwl:WellAll P h vals args):
  ∃a vs ns,vals=[Value.ref a]/\args=[WData.list (ns.map WData.int)]/\h.get? a=some { cls:=.type "list", data:=.seq vs.toArray }/\IntsAre vs ns/\ns.length<=n:=by
 have hsh:WShape.hasAll [] args [.list .int]=true:=(pre_splitW hpre).1;have hc:l.pre.holds [] { args:=args }=true:=(pre_splitW hpre).2;obtain⟨d,r,rfl,h1,h2⟩:=hasAllW_cons hsh;obtain rfl:=hasAllW_nil h2;obtain⟨xs,rfl,h3⟩:=hasW_list h1;obtain⟨ns,rfl⟩:=items_int h3;have hlen:ns.length<=n:=by
  unfold OpenLaw.pre at hc;have h4:(WTm.not (.lt (.lit (.int (n:Int))) (.len (.arg 0)))).holds [] { args:=[.list (ns.map .int)] }=true:=by have h4:=(holds_andW hc).1;rw[hn] at h4;exact h4
  have h5:=condW_of h4 (w_not (w_lt w_lit (w_len_list (w_arg rfl))));rw[av] at h5;refine Nat.le_of_not_lt λq=>?_;have q':(n:Int)<((ns.length:Nat):Int):=by omega
  first
   | (rw[decide_eq_true q'] at h5;exact absurd h5 (by decide))
   | (simp at h5;omega)
 cases hwl with
 | cons w1 w2 =>
  cases w2;cases w1 with
  | list ho hall=>exact⟨_,_,ns,rfl,rfl,ho,qC ns _ hall,hlen⟩
def ET(l:OpenLaw)(args:List WData):l.row.toRowW.claim.post args (.bool true) args=true :=
 postW_of (r:=l.row.toRowW) (X:=(true==true))
  (show WShape.has [] (.bool true) .bool=true by first|rfl|decide|simp[WShape.has,WShape.arms,WShape.armsAll])
  (show(WTm.eq .res (.lit (.bool true))).value [] { args:=args,res:=some (.bool true),after:=args }=some (.bool (true==true)) from w_eq_bool (w_res rfl) w_lit) rfl
def yr{l:OpenLaw}{n:Nat}{q:Program}{loose:List Str}{XP:(Str->Option Value)->Heap->Prop}{YP:World->Heap->Prop}{d:DefRec}
  (hn:l.most=some n)(hdf:d.params.defaults=[])
  (call:∀(w:World)(s₀ s₁:Shared)(mg mb:Str->Option Value)(fa:Addr)(o:Obj)(pm cd doc:Value)(a:Addr)(vs:List Value)(ns:List Int),
   Ground q loose [] XP w s₀ mg mb s₁.heap->YP w s₁.heap ->
   s₁.heap.get? fa=some o->o.data=.func (docDef d.name d.params d.body d.scope pm cd doc)->s₁.heap.CodeRec cd d.name->mg d.name=some (.ref fa) ->
   s₁.heap.get? a=some { cls:=.type "list", data:=.seq vs.toArray }->IntsAre vs ns->ns.length<=n->s₁.gens=#[] ->
   codeAny (model l.prog w) callerA (.call (.ref fa) ⟨[.ref a],[]⟩) (λr s'=>r=.ok (.ret (.bool true))/\OldK s₁.heap s'.heap/\s'.os=s₁.os/\AllBare s'.gens) s₁):
  WalkO q loose XP YP l.row.toRowW d [] (λf vs=>PySem.call f vs):=by intro w s₀ s₁ mg mb G Y fa o pm cd doc dV kV ho hd hcd hD hmg hg args vals as hpre hlay hrd hwl hlo;obtain rfl:dV=.none:=Dflts.none hD hdf;obtain rfl:kV=.none:=Dflts.noKw hD;obtain⟨a,vs,ns,rfl,rfl,hobj,hints,hlen⟩:=ES hn hpre hwl;refine enter_call (codeAny_mono (call w s₀ s₁ mg mb fa o pm cd doc a vs ns G Y ho (fd_plain hd) hcd hmg hobj hints hlen hg) λr s' hq=>?_);obtain⟨rfl,h2,h3,h4⟩:=hq;exact⟨.inl ⟨.bool true,.bool true,[],rfl,λ_=>rfl,.bool true,ET l _,λ_=>⟨List.Pairwise.nil,λ_ hm=>(nomatch hm)⟩⟩,h2,h3,h4⟩
section
variable {prog:Program}{w:World}{A:Around}{E:Value->Shared->Prop}{s:Shared}{K:Frag}
end
end Att
namespace L2
open PySem PySem.Spec PyProof.Rows
variable {k:Nat}{fd:FuncData}{x qual:Str}{st:Stmt}{f:Addr}{H:Hp}
theorem uY:∀{vs:List Value}{ns:List Int},IntsAre vs ns->Vals (ns.map V.int) vs
 | _,_,.nil=>.nil
 | _,_,.cons n t h=>.cons ⟨t,rfl⟩ (uY h)
def P8(H:Hp):Prop:=∀b,H b=none\/∃o xs,H b=some (.Cy o (.lst xs))
def Ho{P:Program}{w:World}{K:aD}{mg mb:Str->Option Value}{CX:EK}{fa a:Addr}{sp:Sp}{s₁:Shared}{vs:List Value}{ns:List Int}
  (KX:K.In s₁.heap)(hns:s₁.heap.Ns mainGlobals mg)(hb:s₁.heap.Ns builtinsNs mb)(hbb:∀x:Str,x ≠ "__name__" -> mb x=bootBuiltins x)(hlim:s₁.heap.NoLimit)(hg:s₁.gens=#[])
  (ha:s₁.heap.get? a=some { cls:=.type "list", data:=.seq vs.toArray })(hi:IntsAre vs ns)(hl:ns.length<=sizeLine)(hr:jc k callerA)
  (F:∀base:Heap,K.In base->base.Ns mainGlobals mg->b8 P w K mg base CX k fa fd [x] sp)(hbind:∀(s:Shared)(u:Value),BindsTo s fd ⟨[u],[]⟩ [(x,u)])
  (KW:∀H:Hp,P8 H->bE K H a (ns.map V.int)->sp [.ref a] H (λv _=>v=.bl true) λ_ _ _=>False)
  (Zm:∀H e s',CX [] H s₁ (λ_ _ _=>False) e s'->False):
  codeAny (model P w) callerA (.call (.ref fa) ⟨[.ref a],[]⟩) (λr s'=>r=.ok (.ret (.bool true))/\OldK s₁.heap s'.heap/\s'.os=s₁.os/\AllBare s'.gens) s₁:=by
 have rv:=uY hi;have Zn:=hi.length;have core:∀H:Hp,P8 H->bE K H a (ns.map V.int)->m9 P w H s₁.heap->(∀b,H b≠none->b=a)->(H a≠none->K.lookup a=none) ->
   codeAny (model P w) callerA (.call (.ref fa) ⟨[.ref a],[]⟩) (λr s'=>r=.ok (.ret (.bool true))/\OldK s₁.heap s'.heap/\s'.os=s₁.os/\AllBare s'.gens) s₁:=by
  intro H hO hS hok hA hK;have CP:∀{b:Addr}{o:Obj},s₁.heap.get? b=some o->H b=none->(wk s₁.heap H).get? b=some o:=λe n=>GB e n;have Ul:∀{b:Addr}{o:Obj}{es:Array DictEntry}{ep:Nat},s₁.heap.get? b=some o->o.data=.dict es ep->H b=none:=λ{b o es ep} e d=>by
   cases q:H b with
   | none=>rfl
   | some u =>
    have e':b=a:=hA b (by rw[q];simp);subst e';rw[ha] at e;cases e;have d':Data.seq vs.toArray _=Data.dict es ep:=d;cases d'
  have XH:∀{b:Addr}{m:Str->Option Value},s₁.heap.Ns b m->(wk s₁.heap H).Ns b m:=λ{b m} ⟨o,es,ep,e,d,r⟩=>⟨o,es,ep,CP e (Ul e d),d,r⟩;have hKb:K.In (wk s₁.heap H):=λb o e=>CP (KX b o e) (by
   cases q:H b with
   | none=>rfl
   | some u =>
    have e':b=a:=hA b (by rw[q];simp);subst e';rw[hK (by rw[q];simp)] at e;cases e)
  have hM:Mod K mg (wk s₁.heap H):=⟨hKb,XH hns,⟨mb,XH hb,hbb⟩,let⟨mc,h1,h2⟩:=hlim;⟨mc,XH h1,h2⟩⟩;have e0:A9 P w K mg (wk s₁.heap H) callerA [] s₁ H:=⟨rfl,hM,λb o e=>Lc e,Nat.le_of_eq (Ey _ _),trivial,λb hb=>absurd (show b∈([]:List Addr) from hb) (by simp),hok,.of_eq hg⟩;refine codeAny_mono ((F _ hKb (XH hns)).run callerA [] s₁ H ⟨[.ref a],[]⟩ [.ref a] [.ref a] _ _ hr e0 (hbind s₁ (.ref a)) (.cons rfl .nil) (KW H hO hS)) λr s' h=>?_;cases r with
  | error e=>exact(Zm H e s' h).elim
  | ok fl =>
   cases fl with
   | next=>exact False.elim h
   | brk=>exact False.elim h
   | cont=>exact False.elim h
   | ret u =>
    obtain⟨v,H',os,bare,un,Zo,r',q⟩:=h;have q':v=.bl true:=q;subst q';obtain rfl:u=Value.bool true:=r';refine⟨rfl,OldK.of_keep λb o e=>?_,os,bare⟩;cases q:H b with
    | none=>exact un.keep b o e q (by intro z;exact absurd (show b∈([]:List Addr) from z) (by simp)) (by simp)
    | some u =>
     rcases hO b with z|⟨ob,xs,z⟩
     .rw[q] at z;cases z
     .have z2:=un.pJ b ob _ z;obtain⟨e1,_⟩:=hok b _ z;obtain⟨e2,_⟩:=Zo b _ z2;rw[e] at e1;cases e1;exact e2
 cases hk:K.lookup a with
 | some o =>
  have e:=KX a o hk;rw[ha] at e;cases e;refine core (λ_=>none) (λ_=>.inl rfl) (.inr ⟨_,vs.toArray,_,hk,rfl,rfl,rfl,by rw[aV,Zn];exact hl,by simpa using rv⟩) (λb u z=>by have z':(none:Option HO)=some u:=z;cases z') (λb z=>absurd rfl z) λz=>absurd rfl z
 | none =>
  refine core (λb=>if b=a then some (.Cy { cls:=.type "list", data:=.seq vs.toArray } (.lst (ns.map V.int))) else none) (λb=>?_) (.inl (.inr ⟨{ cls:=.type "list", data:=.seq vs.toArray },if_pos rfl⟩)) (λb u z=>?_) (λb z=>?_) λ_=>hk
  .by_cases hb:b=a
   .exact .inr ⟨_,_,if_pos hb⟩
   .exact .inl (if_neg hb)
  .by_cases hb:b=a
   .have z':=(if_pos hb).symm.trans z;cases z';subst hb;exact⟨ha,by rw[av];exact hl,vs,_,rv,ha⟩
   .have z':=(if_neg hb).symm.trans z;cases z'
  .by_cases hb:b=a
   .exact hb
   .exact absurd (if_neg hb) z
abbrev KOf{K:aD}{h:Heap}(_:K.In h):aD:=K
def Lu{l:PySem.W.OpenLaw}{n:Nat}{q:Program}{loose:List Str}{XP:(Str->Option Value)->Heap->Prop}{YP:World->Heap->Prop}{d:DefRec}{K:Params->aD}{CX:World->EK}{sp:World->Sp}
  (hn:l.most=some n)(hn2:n<=sizeLine)(hdf:d.params.defaults=[])(hr:jc k callerA)
  (hY:∀(w:World)(h:Heap),YP w h->(K w.params).In h)
  (F:∀(w:World)(mg:Str->Option Value)(fa:Addr)(h:Heap),(K w.params).In h->h.Ns mainGlobals mg->mg d.name=some (.ref fa) ->
   ∃fd:FuncData,(∀(s:Shared)(u:Value),BindsTo s fd ⟨[u],[]⟩ [(x,u)]) /\
    ∀base:Heap,(K w.params).In base->base.Ns mainGlobals mg->b8 l.prog w (K w.params) mg base (CX w) k fa fd [x] (sp w))
  (KW:∀(w:World)(H:Hp)(a:Addr)(ns:List Int),ns.length<=n->P8 H->bE (K w.params) H a (ns.map V.int)->sp w [.ref a] H (λv _=>v=.bl true) λ_ _ _=>False)
  (Zm:∀(w:World)(H:Hp)(s:Shared)(e:Value)(s':Shared),CX w [] H s (λ_ _ _=>False) e s'->False):
  PySem.W.WalkO q loose XP YP l.row.toRowW d [] (λf vs=>PySem.call f vs):=by refine Att.yr hn hdf λw s₀ s₁ mg mb fa o pm cd doc a vs ns G Y ho hd hcd hmg hobj hints hlen hg=>?_;have KX:=hY w _ Y;obtain⟨fd,hb,hF⟩:=F w mg fa _ KX G.T.g hmg;exact Ho KX G.T.g G.T.b G.T.builtins G.T.nolimit hg hobj hints (bJ hlen hn2) hr hF hb (λH hO hS=>KW w H a ns hlen hO hS) λH e s'=>Zm w H s₁ e s'
def ku(s:Stmt):Arguments:=match s with
 | .FunctionDef _ a _ _ _ _ _ _ _ _=>a
 | _=>{ posonlyargs:=[],args:=[],vararg:=none,kwonlyargs:=[],kw_defaults:=[],kwarg:=none,defaults:=[] }
def iP(s:Stmt):List Stmt:=match s with
 | .FunctionDef _ _ b _ _ _ _ _ _ _=>b
 | _=>[]
def aC(s:Stmt):Scope:=match s with
 | .FunctionDef _ _ _ _ _ _ sc _ _ _=>sc
 | _=>{ kind:=.function,names:=[],isGenerator:=false,isCoroutine:=false }
abbrev gS:EK:=λ_ _ _ _ _ _=>False
abbrev E0:XK:=λ_ _ _=>False
def UA{X:Cx}:Passes gS X E0:=λ_ _ _ _ _ _ _ h=>h.elim
structure Tc (K:aD) (x qual:Str) (st:Stmt) (f:Addr) (fd:FuncData):Prop where
 ex:∃(oc:Value)(od:Option Addr)(kV doc pm:Value)(an:Option Addr)(cdv ct:Value)(osl:Array (Option Value)),
  fd=PySem.W.fnOf x qual (ku st) (iP st) (aC st) .none kV doc pm an cdv ct/\K.lookup f=some ⟨oc,od,.func fd,osl⟩/\PySem.W.codeIn K cdv qual=true
 kp:PySem.W.keepIn K (.ref f)=true
section
variable {P:Program}{w:World}{K:aD}{mg:Str->Option Value}{base:Heap}
def Tc.ok{N ps:List Str}{sp:Sp}(F:Tc K x qual st f fd)(S:aN N ps (aC st))(len:∀vs H Q E,sp vs H Q E->vs.length=ps.length)
  (hbody:∀(cdv:Value)(A:Around)(outer:List Env)(s:Shared)(H:Hp)(vs:List V)(Q:VK)(E:XK),jc k (A.deeper (envOfC qual (aC st) s.heap.objs.size f cdv))->sp vs H Q E ->
   ∃t,uQ (yi gS P w K mg base N qual (aC st) f cdv A outer s H E).GF (iP st) t/\t { nx:=λ_ H'=>Q .cX H',rt:=Q } (start N vs) H):b8 P w K mg base gS (k+1) f fd ps sp:=by sleep 78
def Tc.binds{ps:List Str}(F:Tc K x qual st f fd)
  (h:∀(kV doc pm:Value)(an:Option Addr)(cdv ct:Value)(us:List Value),us.length=ps.length->bindArgs (PySem.W.fnOf x qual (ku st) (iP st) (aC st) .none kV doc pm an cdv ct) ⟨us,[]⟩=pure (ps.zip us)):Binds K fd ps []:=by obtain⟨oc,od,kV,doc,pm,an,cdv,ct,osl,rfl,lk,hcd⟩:=F.ex;exact .all (h kV doc pm an cdv ct)
def Hq{oc:Value}{od an:Option Addr}{osl:Array (Option Value)}{kV doc pm cdv ct:Value}(l:K.lookup f=some ⟨oc,od,.func (PySem.W.fnOf x qual (ku st) (iP st) (aC st) .none kV doc pm an cdv ct),osl⟩)
  (c:PySem.W.codeIn K cdv qual=true)(k:PySem.W.keepIn K (.ref f)=true):Tc K x qual st f (PySem.W.fnOf x qual (ku st) (iP st) (aC st) .none kV doc pm an cdv ct):=⟨⟨oc,od,kV,doc,pm,an,cdv,ct,osl,rfl,l,c⟩,k⟩
end
def sy{A:Around}(hr:jc k A):A.units+1<cLine:=Nat.lt_of_le_of_lt (Nat.add_le_add_left (by decide:1<=64) _) hr.units
section
variable {X:Cx}
def pv(i:Nat){pos:Pos}(hN:X.N[i]?=some x:=by rfl)(hv:XD X.env.scope x:=by first|exact ao rfl|exact bQ (ao rfl)|exact bQ (bQ rfl))(hd:(x==("__debug__" : Str))=false:=by decide)
  (hcd:(x==("__classdict__" : Str))=false:=by decide):PE X (.Name x pos) (mF i):=Pr hN hv hd hcd
end
def UB{A B:Prop}(h:B):if false=true then A else B:=by rw[if_neg jT];exact h
def Lv{A B:Prop}(h:A):if true=true then A else B:=by rw[if_pos rfl];exact h
def aB(H H':Hp):Prop:=∀b o,H b=some o->H' b=some o
def aB.refl(H:Hp):aB H H:=λ_ _ h=>h
def aB.trans{H1 H2:Hp}(a:aB H H1)(b:aB H1 H2):aB H H2:=λc o h=>b c o (a c o h)
def aB.free{H':Hp}(e:aB H H'){l:Addr}(h:H' l=Option.none):H l=Option.none:=by
 cases q:H l with
 | none=>rfl
 | some o =>
  rw[e l o q] at h;cases h
def aB.seq{K:aD}{H':Hp}{a:Addr}{xs:List V}(e:aB H H')(h:bE K H a xs):bE K H' a xs:=by sleep 148
section
variable {X:Cx}
end
section
variable {κ:Type} [DecidableEq κ]
end
end L2
namespace BT
open PySem
def eO:bootBuiltins "len" = some (.builtin "len"):=by decide +kernel
def wJ:bootBuiltins "isinstance" = some (.builtin "isinstance"):=by decide +kernel
def NY:bootBuiltins "int" = some (.type "int"):=by decide +kernel
def sA:bootBuiltins "list" = some (.type "list"):=by decide +kernel
def CQ:bootBuiltins "tuple" = some (.type "tuple"):=by decide +kernel
def Bg:bootBuiltins "dict" = some (.type "dict"):=by decide +kernel
def CS:bootBuiltins "set" = some (.type "set"):=by decide +kernel
end BT
namespace L2
open PySem PySem.Spec PyProof.Rows
variable {pos px:Pos}{elt iter:Expr}{ifs:List Expr}{scope:Scope}{x:Str}{cl:List (Str×Addr)}{fr:List Str}{ix:List Nat}{tt:TT}{te:TE}
section
variable {X:Cx}
def P9(t u:TS):TS:=λD σ H=>∃J:St->Hp->Prop,t { D with nx:=J } σ H/\∀σ' H',J σ' H'->u D σ' H'
def iQ{st:Stmt}{rest:List Stmt}{t u:TS}(h1:PS X st t)(h2:uQ X rest u):uQ X (st::rest) (P9 t u):=by
 sleep 62;obtain⟨J,h,k⟩:=h;refine wpAny_execs_cons (cT (h1 pins s σ H _ I h) λf s1 q=>?_);cases f with
 | next =>
  obtain⟨σ1,H1,I1,j⟩:=q;exact h2 pins s1 σ1 H1 D I1 (k σ1 H1 j)
 | brk=>exact q
 | cont=>exact q
 | ret u=>exact q
def UC(c:TT)(t u:TS):TS:=λD σ H=>∃Jt Jf:Hp->Prop,(c σ H λb H1=>if b=true then Jt H1 else Jf H1)/\(∀H1,Jt H1->t D σ H1)/\∀H1,Jf H1->u D σ H1
def Hr{c:Expr}{a b:List Stmt}{tc:TT}{t u:TS}(hc:PT X c tc)(ha:uQ X a t)(hb:uQ X b u):PS X (.If c a b pos) (UC tc t u):=by
 sleep 62;obtain⟨Jt,Jf,h,h1,h2⟩:=h;refine wpAny_If (cT (hc pins s σ H _ I h) λv s1 ⟨H1,I1,q1⟩=>?_);cases v with
 | true=>exact ha pins s1 σ H1 D I1 (h1 H1 q1)
 | false=>exact hb pins s1 σ H1 D I1 (h2 H1 q1)
end
section
variable {prog:Program}{w:World}{A:Around}{R:Result->Shared->Prop}{s:Shared}
theorem nN{target:Expr}{it acc:Value}{env:Env}(I:Nat->Shared->Prop)
  (turn:∀n s,I n s->wpAny (model prog w) A (pyNext it) (λr s₁=>match r with
   | none=>R (.ok .next) s₁
   | some v=>wpAny (model prog w) A (letOwnedTupleGo target it v) (λ_ s₀=>wpAny (model prog w) A (assign target env v) (λ_ s₂ =>
     wpAny (model prog w) A (forIn ifs true λc r=>if r=true then do let ok <- isTrue c env (eval c env);pure (ForInStep.yield ok) else pure (ForInStep.yield r)) (λok s₃ =>
      if ok=true then wpAny (model prog w) A (eval elt env) (λx s₄ =>
       wpAny (model prog w) A (call (.builtin "list.append") [acc,x]) (λ_ s₅=>∃m,m<n/\I m s₅) (notedBy (model prog w) A env λe s'=>R (.error e) s') s₄) (notedBy (model prog w) A env λe s'=>R (.error e) s') s₃
      else ∃m,m<n/\I m s₃) (notedBy (model prog w) A env λe s'=>R (.error e) s') s₂) (notedBy (model prog w) A env λe s'=>R (.error e) s') s₀) (notedBy (model prog w) A env λe s'=>R (.error e) s') s₁) (notedBy (model prog w) A env λe s'=>R (.error e) s') s)
  (n:Nat)(h:I n s):
  codeAny (model prog w) A (.compLoop (.ListComp elt [⟨target,iter,ifs,0⟩] scope pos) 0 it acc env) R s:=by
 refine codeAny_loop rfl I (λn s hI=>?_) n h;show wpAny _ A ((compTurn (.ListComp elt [⟨target,iter,ifs,0⟩] scope pos) 0 it acc env).onRaise (λx=>do noteFrame x env;theTreesLotGoes x)) _ _ s;refine wpAny_noted ?_;rw[compTurn_list];refine aq (wpAny_standAt (aq (wpAny_mono (turn n s hI) (λr s₁ h₁=>?_) λ_ _ h'=>h')));cases r with
 | none=>exact aL h₁
 | some v =>
  refine aq (wpAny_mono h₁ (λ_ s₀ h₀=>?_) λ_ _ h'=>h');refine aq (wpAny_mono h₀ (λ_ s₂ h₂=>aq (wpAny_mono h₂ (λok s₃ h₃=>?_) λ_ _ h'=>h')) λ_ _ h'=>h');cases ok with
  | false=>exact aL ⟨rfl,h₃⟩
  | true =>
   exact aq (aq (wpAny_mono h₃ (λx s₄ h₄=>aq (wpAny_mono h₄ (λ_ s₅ h₅=>aL (aL ⟨rfl,h₅⟩)) λ_ _ h'=>h')) λ_ _ h'=>h'))
end
def mK(X:Cx)(N:List Str)(scope:Scope)(cl:List (Str×Addr))(C:Addr)(fp:List Addr)(s:Shared)(H:Hp):Cx where
 prog:=X.prog
 w:=X.w
 K:=X.K
 mg:=X.mg
 base:=X.base
 A:=X.A
 N:=N
 s₀:=s
 H₀:=H
 env:=compEnvC scope cl C X.env
 outer:=X.stack
 stack:=X.stack
 ex:=fp
 fn:=λ_=>false
 calm:=X.calm
 pn:=[]
 xe:=λ_ _=>False
structure bD (X:Cx) (scope:Scope) (cl:List (Str×Addr)) (x:Str) (fr:List Str) (ix:List Nat):Prop where
 calm:X.calm=true
 clos:closureFor scope X.env=pure cl
 cell:∀y∈scope.names,y.2≠.cell
 kind:scope.kind=.function
 names:∀y∈scope.names,y.2=.local->scope.names.lookup y.1=some .local
 loc:scope.names.lookup x=some .local
 nd:(x::fr).Nodup
 Td:∀y c,cl.lookup y=some c->X.env.cells.lookup y=some c
 NZ:∀y,((relabel scope X.env).names.lookup y=some .cell\/(relabel scope X.env).names.lookup y=some .free)->∃c,cl.lookup y=some c
 fx:∀(j:Nat) y,fr[j]?=some y->∃i:Nat,ix[j]?=some i/\X.N[i]?=some y/\(X.env.kindOf y=some .cell\/X.env.kindOf y=some .free)/\((relabel scope X.env).names.lookup y=some .cell\/(relabel scope X.env).names.lookup y=some .free)
 len:fr.length=ix.length
def PF(X:Cx)(ifs:List Expr)(t:TT):Prop :=
 ∀(pins:List (Addr×Obj))(s:Shared)(σ:St)(H:Hp)(Q:Bool->Hp->Prop),Inv X pins σ H s->t σ H Q ->
  wpAny (model X.prog X.w) X.A (forIn ifs true λc r=>if r=true then do let ok <- isTrue c X.env (eval c X.env);pure (ForInStep.yield ok) else pure (ForInStep.yield r)) (TP X pins σ Q) X.xe s
def Lw:TT:=λ_ H Q=>Q true H
def cQ{X:Cx}:PF X [] Lw:=λ_ _ _ H _ I h=>wpAny_tests_nil ⟨H,I,h⟩
def nh{X:Cx}{c:Expr}{t:TT}(h:PT X c t):PF X [c] t:=λpins s σ H Q I q=>wpAny_tests_one (h pins s σ H Q I q)
def cut(ix:List Nat)(σ:St):St:=ix.map λi=>(σ[i]?).join
section
variable {X:Cx}{pins:List (Addr×Obj)}{σ:St}{H:Hp}{s:Shared}
def Inv.uZ{D:Addr}{o:HO}(I:Inv X pins σ H s)(f:iF X pins H D)(new:cZ X.prog X.w (upd H D o) s.heap D o):Inv X pins σ (upd H D o) s:=by
 have hn:H D=none:=f.1;have ne:∀b u,H b=some u->b≠D:=λb u e=>aW e hn;have hok:m9 X.prog X.w (upd H D o) s.heap:=λb u e=>by
  by_cases hb:b=D
  .subst hb;rw[jU] at e;cases e;exact new
  .rw[ck hb] at e;exact(I.hok b u e).stay (λ_ _ _ q=>q) (λc q=>by rw[ck (ne _ _ q)];exact q) λc xs q=>by rw[ck (ne _ _ q)];exact q
 exact I.step (H':=upd H D o) (h':=s.heap) (g':=s.gens) (t':=s.toks) (d':=s.drawn) (ch:=[D]) (λb hb=>by
   have e:b=D:=by simpa using hb
   subst e;exact⟨f.2.2.2.1,f.2.1,f.2.2.2.2.1,f.2.2.2.2.2⟩)
  (λb o _ _ _ e _=>e) (λb o _ _ _ e _=>⟨o.slots,e⟩) (λb o hb e n=>by rw[ck (λz=>hb (by simp[z]))];exact n)
  (λb o _ e=>⟨o,e⟩) (λb xs e=>by rw[ck (ne _ _ e)];exact e) (λb o u e=>by rw[ck (ne _ _ e)];exact e) (λb ps e=>⟨#[],by rw[ck (ne _ _ e),e];simp⟩)
  (λm hm=>hm) hok I.bare
def sC{E:Value->Shared->Prop}{RR:Value->Addr->Result->Shared->Prop}
  (O:bD X scope cl x fr ix)(ht:∀C fp s H,PF (mK X (x::fr) scope cl C fp s H) ifs tt)(he:∀C fp s H,PE (mK X (x::fr) scope cl C fp s H) elt te)
  {it:Addr}{fp:List Addr}{tn:Nat->Heap->Prop}{J:It}{H2:Hp}{s2:Shared}(I2:Inv X pins σ H2 s2)(T:Turn X.prog X.w X.K (.Name x px) J fp it tn)(st2:tn 0 s2.heap)(f2:∀b∈fp,iF X pins H2 b)
  (Z:List V->Hp->Prop)(W:Nat->Nat->List V->Hp->Prop)(m0:Nat)(w0:W 0 m0 [] H2)
  (turn:∀i m ys H,W i m ys H->(J.stop i H/\Z ys H)\/(J.go i H/\ys.length<sizeLine/\∃N:List V->Hp->Prop,(∀ys' H',N ys' H'->∃m',m'<m/\W (i+1) m' ys' H') /\
   ∀v H',J.Gx i H v H'->tt (some v::cut ix σ) H' λb H3=>if b=true then te (some v::cut ix σ) H3 λy H4=>N (ys++[y]) H4 else N ys H3))
  (hRR:∀D C s' ys H',Inv X pins σ (upd H' D (.lst ys)) s'->(∃m,s'.heap.Ns C m)->iF X pins (upd H' D (.lst ys)) C->H' D=none->Z ys H'->RR (.ref D) C (.ok .next) s'):
  wpAny (model X.prog X.w) X.A (newList []) (λacc s₃=>wpAny (model X.prog X.w) X.A (newFunctionEnv scope X.env.globals cl [] X.env.qual none .none (some X.env)) (λcenv s₄ =>
   codeAny (model X.prog X.w) X.A (.compStart (.ListComp elt [⟨.Name x px,iter,ifs,0⟩] scope pos) 0 (.ref it) acc { cenv with scope:=relabel scope X.env }) (RR acc cenv.locals) s₄) E s₃) E s2:=by
 sleep 1;have ok:(mK X (x::fr) scope cl G.objs.size fp s2 H2).Ok:=by sleep 17
 sleep 95;have Ic:Inv (mK X (x::fr) scope cl G.objs.size fp s2 H2) [(s2.heap.objs.size,{ cls:=.type "list", data:=.seq ([]:List Value).toArray })] (none::cut ix σ) H2 { s2 with heap:=h₁,toks:=s2.toks+([]:List (Str×Value)).length }:=by
  refine⟨ok,rfl,I2.bare,Un.kept old,⟨_,Bh,λi y v h1 h2 h3=>?_⟩,λy c e=>?_,UE,λy c e=>I2.kO y c (fJ y c e),λp hp=>?_,I2.hok.kept old,?_⟩
  .cases i with
   | zero=>cases h2
   | succ j =>
    have h1:fr[j]?=some y:=h1;have h2:(cut ix σ)[j]?=some (some v):=h2;sleep 10
  .sleep 207
  .sleep 84
  .show(none::cut ix σ).length=(x::fr).length;unfold cut;simp[O.len]
 sleep 228;have r6:∀{pl:List (Addr×Obj)}{H':Hp},(∀p∈pl,p.1=s2.heap.objs.size)->(∀b∈fp,H' b=none)->∀b∈fp,iF (mK X (x::fr) scope cl G.objs.size fp s2 H2) pl H' b:=λ{pl H'} hp hn b hb =>
  ⟨hn b hb,(below b (Bk b hb)).1,λhs=>ok.EA b hb hs,.inl hb,λy c e=>(f2 b hb).2.2.2.2.1 y c (fJ y c e),λp UH z=>Bl b hb (z.symm.trans (hp p UH))⟩
 sleep 153;have loop:codeAny (model X.prog X.w) X.A (.compLoop (.ListComp elt [⟨.Name x px,iter,ifs,0⟩] scope pos) 0 (.ref it) (.ref s2.heap.objs.size) (compEnvC scope cl G.objs.size X.env)) (RR (.ref s2.heap.objs.size) G.objs.size)
   { s2 with heap:=h₁,toks:=s2.toks+([]:List (Str×Value)).length }:=by
  refine nN (λn s'=>∃(i:Nat)(ys:List V)(its:List Value)(c:Nat)(z:Option V)(H':Hp),Inv (mK X (x::fr) scope cl G.objs.size fp s2 H2) [(s2.heap.objs.size,{ cls:=.type "list", data:=.seq its.toArray c })] (z::cut ix σ) H' s'/\tn i s'.heap/\(∀b∈fp,H' b=none)/\Vals ys its/\ys.length<=sizeLine/\W i n ys H') ?_ m0
   ⟨0,[],[],0,none,H2,Ic,T.keep _ _ _ st2 (λb _ o e=>old b o e),λb hb=>(f2 b hb).1,.nil,aH _,w0⟩
  rintro n s3 ⟨i,ys,its,c,z,H3,I3,st3,NO,rv,hl3,w3⟩;rcases turn i n ys H3 w3 with⟨stop,zz⟩|⟨go,hlt,N,hN,step⟩
  .refine wpAny_mono (T.done (mK X (x::fr) scope cl G.objs.size fp s2 H2) rfl rfl rfl O.calm i _ s3 _ H3 _ I3 (r6 one NO) st3 stop) (λr s4 h4=>?_) λ_ _ e=>e;sleep 32
  .refine wpAny_mono (T.item (mK X (x::fr) scope cl G.objs.size fp s2 H2) rfl rfl rfl O.calm i _ s3 _ H3 _ I3 (r6 one NO) st3 go) (λr s4 h4=>?_) λ_ _ e=>e;sleep 81;refine wpAny_assign_Name (nH T9 (i:=0) O.nd rfl (.inl (lookup_relabel_local O.loc)) r5 (λs6 I6=>?_) (.inr (lookup_relabel_local O.loc)));have I6:Inv (mK X (x::fr) scope cl G.objs.size fp s2 H2) _ (some v::cut ix σ) H5 s6:=I6;refine wpAny_mono (ht _ _ _ _ _ s6 _ H5 _ I6 (step v H5 y5)) (λok s7 h7=>?_) λ_ _ f=>False.elim f;obtain⟨H7,I7,q7⟩:=h7;cases ok with
   | true =>
    sleep 42;obtain⟨m',hm,w9⟩:=hN _ _ n8;have Ia:Inv (mK X (x::fr) scope cl G.objs.size fp s2 H2) (lz fp s5.heap) (some v::cut ix σ) H8 s8:=I8.lY λp hp=>I8.pin p (cA _ (cA _ hp));sleep 48;refine⟨m',hm,i+1,ys++[y],its++[uy],c+1,some v,H8,Ib.lY λp hp=>?_,T.keep _ _ _ A7 λb hb o e=>?_,λb hb=>?_,rv.append (.cons r8 .nil),by rw[aR,jI];omega,w9⟩
    .sleep 75
    .sleep 245
    .sleep 183
   | false =>
    rw[if_neg jT] at q7 ⊢;obtain⟨m',hm,w9⟩:=hN _ _ q7;refine⟨m',hm,i+1,ys,its,c,some v,H7,I7.lA,T.keep _ _ _ A7 λb hb o e=>?_,λb hb=>?_,rv,hl3,w9⟩
    .exact(I7.pin (b,o) (cA _ (cA _ (dZ hb e)))).1
    .sleep 93
 sleep 180
def Hs(wi:TI)(tt:TT)(te:TE)(ix:List Nat):TE:=λσ H Q=>wi σ H λJ H1=>∃W:Nat->Nat->List V->Hp->Prop,(∃m,W 0 m [] H1)/\∀i m ys H,W i m ys H ->
 (J.stop i H/\∀p,H p=none->Q (.ref p) (upd H p (.lst ys)))\/(J.go i H/\ys.length<sizeLine/\∃N:List V->Hp->Prop,(∀ys' H',N ys' H'->∃m',m'<m/\W (i+1) m' ys' H') /\
  ∀v H',J.Gx i H v H'->tt (some v::cut ix σ) H' λb H3=>if b=true then te (some v::cut ix σ) H3 λy H4=>N (ys++[y]) H4 else N ys H3)
def cP{wi:TI}(O:bD X scope cl x fr ix)(hi:PI X (.Name x px) iter wi)
  (ht:∀C fp s H,PF (mK X (x::fr) scope cl C fp s H) ifs tt)(he:∀C fp s H,PE (mK X (x::fr) scope cl C fp s H) elt te)
  (hs:∀v,foldedSetIterable iter X.env v=pure v:=by intro _;rfl):PE X (.ListComp elt [⟨.Name x px,iter,ifs,0⟩] scope pos) (Hs wi tt te ix):=by sleep 31;sleep 112;sleep 51;refine sC O ht he I2 T st2 f2 (λys H=>∀p,H p=none->Q (.ref p) (upd H p (.lst ys))) W m0 w0 turn λD C s' ys H' I' hm fC hD z=>?_;sleep 73
def Ht(te:TE)(i:Nat):TS:=λD σ H=>te σ H λv H1=>D.nx (σ.set i (some v)) H1
def jx{i:Nat}{y:Str}{py spos:Pos}{wi:TI}(hN:X.N.Nodup)(Zr:X.N[i]?=some y)(hy:Loc X.env.scope y)
  (O:bD X scope cl x fr ix)(hi:PI X (.Name x px) iter wi)
  (ht:∀C fp s H,PF (mK X (x::fr) scope cl C fp s H) ifs tt)(he:∀C fp s H,PE (mK X (x::fr) scope cl C fp s H) elt te)
  (hsw:swapsWith (.ListComp elt [⟨.Name x px,iter,ifs,0⟩] scope pos) (some (.Name y py)) spos.line X.env=pure true:=by rfl)
  (hs:∀v,foldedSetIterable iter X.env v=pure v:=by intro _;rfl)(hf:X.fn y=true\/X.env.scope.names.lookup y=some .local:=by first|exact .inl rfl|exact .inr rfl|assumption):
  PS X (.Assign [.Name y py] (.ListComp elt [⟨.Name x px,iter,ifs,0⟩] scope pos) spos) (Ht (Hs wi tt te ix) i):=by sleep 62;sleep 233;show wpAny _ X.A (do let _ <- comprehension (.ListComp elt [⟨.Name x px,iter,ifs,0⟩] scope pos) scope X.env _ (newList []) false (eval iter X.env) (some (assign (.Name y py) X.env))) _ _ s;sleep 40;refine sC O ht he I2 T st2 f2 (λys H=>∀p,H p=none->D.nx (σ.set i (some (.ref p))) (upd H p (.lst ys))) W m0 w0 turn λL C s' ys H' I' hm fC hD z=>?_;sleep 23
def bD.plain(calm:X.calm=true)(cell:∀y∈scope.names,y.2≠.cell)(free:∀y∈scope.names,y.2≠.free)(kind:scope.kind=.function)
  (names:∀y∈scope.names,y.2=.local->scope.names.lookup y.1=some .local)(loc:scope.names.lookup x=some .local):bD X scope [] x [] [] where
 calm:=calm
 clos:=closureFor_none free
 cell:=cell
 kind:=kind
 names:=names
 loc:=loc
 nd:=by simp
 Td:=λy c h=>by cases h
 NZ:=λy h=>by
  exfalso;sleep 41;rcases h with h|h
  .sleep 86;exact cell z hz (congrArg Prod.snd e)
  .sleep 86;exact n1 (congrArg Prod.snd e)
 fx:=λj y h=>by cases j<;>cases h
 len:=rfl
end
section
variable {X:Cx}
def Hu:di X (.builtin "isinstance") (λxs H Q=>∃x T t b,xs=[x,.ty T]/\jl X.K H x t/\PySem.W.kitOne X.K t (.type T)=some b/\Q (.bl b) H):=by sleep 38;obtain⟨x,T,t,b,rfl,ty,e,q⟩:=h;obtain⟨u,u',rfl,r1,r2⟩:=vals2 r;cases r2;exact EJ I r1 ty e λtk=>⟨.bl b,H,I.tok tk,rfl,q⟩
theorem u0{prog:Program}{w:World}{A:Around}{E:Value->Shared->Prop}{it t:Addr}{items:Array Value}(hne:t≠it):∀(n i:Nat)(s:Shared)(Q:List Value->Shared->Prop),s.heap.IsListIter it t i->s.heap.IsList t items->i+n<=items.size ->
  (∀h',h'.IsListIter it t (i+n)->Heap.SameBut it s.heap h'->Q ((items.toList.drop i).take n) { s with heap:=h' })->wpAny (model prog w) A (draw (.ref it) n) Q E s
 | 0,i,s,Q,hit,_,_,hQ=>by
  show wpAny _ _ (pure []) Q E s;exact aL (by simpa using hQ s.heap hit (rJ ..))
 | n+1,i,s,Q,hit,ht,hle,hQ=>by
  have hlt:i<items.size:=by omega
  show wpAny _ _ (pyNext (.ref it) >>= _) Q E s;refine aq (wpAny_pyNext_list_item hit ht (x:=items[i]) (by simp[hlt]) λh₁ Qa hs₁=>?_);refine aq (wpAny_holding (u0 hne n (i+1) _ _ Qa (ht.extBut hs₁.extBut hne) (by omega) λh₂ Zv hs₂=>aL ?_));have hd:items.toList.drop i=items[i]::items.toList.drop (i+1):=by simp[List.drop_eq_getElem_cons,hlt]
  have:=hQ h₂ (by rw[show i+(n+1)=i+1+n by omega];exact Zv) (hs₁.trans hs₂);rw[hd,List.take_succ_cons] at this;exact this
def yv{prog:Program}{w:World}{A:Around}{E:Value->Shared->Prop}{s:Shared}{t:Addr}{items:Array Value}{targets:List (Bool×(Value->Sem Unit))}{Q:Unit->Shared->Prop}(hh:A.handled=none)(ht:s.heap.IsList t items)
  (hn:targets.length=items.size)(hstar:targets.findIdx? (·.1)=none)
  (h:∀h',Heap.ExtBut s.heap.objs.size s.heap h'->wpAny (model prog w) A (assignInOrder (targets.map (·.2)) items.toList) Q E { s with heap:=h' }):
  wpAny (model prog w) A (unpack (.ref t) targets) Q E s:=by
 have hlt:t≠s.heap.objs.size:=by obtain⟨o,ho,_⟩:=ht;exact aQ (aK ho)
 unfold unpack;rw[hn,hstar];refine aq (wpAny_holding ?_);unfold unpackItems;refine aq ?_;unfold notIterableAtAll;refine aq (wpAny_specialOf ht.typeIs F.slot_list_iter.lookup ?_);refine aL ?_;sleep 90;refine aq (wpAny_holding (wpAny_pyIter_list ht ?_));refine aq (wpAny_holding (u0 hlt items.size 0 _ _ ⟨_,iC _ rfl,rfl,rfl⟩ (ht.push _) (by omega) λh₁ Qa hs₁=>?_));have hall:List.take items.size (List.drop 0 items.toList)=items.toList:=by rw[List.drop_zero];exact List.take_of_length_le (by simp)
 rw[hall];rw[if_neg (by simp)];have ht₁:h₁.IsList t items:=(ht.push _).extBut hs₁.extBut hlt;refine aq (wpAny_holding (wpAny_pyNext_list_end hh Qa ht₁ (by simp) λh₂ he₂=>?_));simp only[Option.isSome_none,bW,if_false];exact aL (h h₂ λb o hb e=>he₂ b o hb (hs₁.extBut b o hb (c8 _ e)))
def UJ(K:aD)(n:Nat)(t:EC):TG:=λv σ H Q=>∃a xs,v=.ref a/\bE K H a xs/\xs.length=n/\t xs σ H Q
def Hv{es:List Expr}{k:Nat}{t:EC}{n:Nat}(hc:X.calm=true)(h:S6 X es t)
  (hn:(assignEach es X.env).length=n:=by rfl)(hst:(assignEach es X.env).findIdx? (·.1)=none:=by rfl):PG X (.Tuple es k pos) (UJ X.K n t):=by sleep 201;obtain⟨its,rv,pl,hz⟩:=I.list hq;rw[assign_Tuple];refine aq (wpAny_standAt (yv (I.ok.hd hc) pl.isList (by simp[hn,<- hl,rv.length]) hst λh' hx=>?_));sleep 116
end
end L2
namespace RV
open PySem
variable {t:Addr}
def EU:Manifest.owners.lookup (String.ofList ['d','e','s','r','e','v','e','r'].reverse)=some Manifest.sig_reversed:=by kernel_rfl
def slot_next:Slot "reversed" "__next__" "reversed.__next__" :=
 .of (owner := "reversed") (n := "__next__") (by rw[typeLookup_type,builtinLookup_eq_fast];kernel_rfl) (by decide +kernel) (by decide +kernel) (by decide +kernel)
  (by first|exact .inl (by decide +kernel)|exact .inr (by decide +kernel)) (by rw[isSubtype_type];kernel_rfl)
def entry_next:entryFor table "reversed.__next__" = some Builtin.«reversed.__next__»:=entryFor_of_tree (by kernel_rfl)
def args_next(a:Value):argsOk "reversed.__next__" ⟨[a],[]⟩:=by unfold argsOk;rw[signature?_of (id := "reversed.__next__") (n:=['_','_','t','x','e','n','_','_']) (o:=['d','e','s','r','e','v','e','r']) (by kernel_rfl) EU];kernel_rfl
def yw(h:Heap)(a t:Addr)(i:Int):Prop:=∃o,h.get? a=some o/\o.cls=.type "reversed" /\ o.data=.fields #[.ref t,rawInt i]
section
variable {prog:Program}{w:World}{A:Around}{E:Value->Shared->Prop}{s:Shared}
def yw.typeIs{a:Addr}{i:Int}(x:yw s.heap a t i):s.TypeIs (.ref a) "reversed" := let⟨o,ho,hc,_⟩:=x;⟨o,ho,hc⟩
def yw.at{h h':Heap}{a:Addr}{i:Int}(x:yw h a t i)(e:∀o,h.get? a=some o->h'.get? a=some o):yw h' a t i:=let⟨o,ho,r⟩:=x;⟨o,e _ ho,r⟩
def next_item{it:Addr}{i:Nat}{items:Array Value}{x:Value}{Q:Option Value->Shared->Prop}(hit:yw s.heap it t (i:Int))(ht:PyProof.Rows.IsTup s.heap t items)(hx:items[i]?=some x)(hfit:items.size<2 ^ 62)
  (hQ:∀h' tk,yw h' it t ((i:Int)-1)->Heap.SameBut it s.heap h'->Q (some x) { s with heap:=h',toks:=tk }):wpAny (model prog w) A (pyNext (.ref it)) Q E s:=by
 obtain⟨o,ho,hc,hd⟩:=id hit;have hlt:i<items.size:=by rw[mH] at hx;exact hx.1
 have hj:seqIndex? (i:Int) items.size=some i:=by
  have h1:¬((i:Int)<0):=by omega
  unfold seqIndex?;simp[h1,hlt]
 sleep 37;refine aq (wpAny_field ho hd (x:=rawInt (i:Int)) rfl ?_);show wpAny _ _ (if(i:Int)<0 then _ else _) _ _ s;rw[if_neg (by omega)];refine aq (wpAny_specialOf ht.typeIs PyProof.Rows.slot_tuple_getitem.lookup ?_);refine wpAny_ite_split (λhab=>absurd hab (by decide)) (λ_=>?_);refine aq (wpAny_mkInt ?_);refine aq (wpAny_attempt (PyProof.Rows.getItem_tuple ht (by omega) (by omega) hj hx ?_))
 try dsimp only
 refine aq (wpAny_field ho hd (x:=rawInt (i:Int)) rfl ?_);refine aq (wpAny_setField ho hd (by simp) ?_);refine aL ⟨x,rfl,aL (hQ _ _ ?_ (jC ..))⟩;exact⟨_,fB _ ho (iN (dF hd _)),(kh ..).trans hc,by
  rw[dF hd];simp⟩
def next_end{it:Addr}{Q:Option Value->Shared->Prop}(hh:A.handled=none)(hit:yw s.heap it t (-1))
  (hQ:∀h',Heap.ExtBut it s.heap h'->Q none { s with heap:=h' }):wpAny (model prog w) A (pyNext (.ref it)) Q E s:=by
 obtain⟨o,ho,hc,hd⟩:=id hit;sleep 37;refine aq (wpAny_field ho hd (x:=rawInt (-1)) rfl ?_);show wpAny _ _ (if(-1:Int)<0 then _ else _) _ _ s;rw[if_pos (by decide)];refine aq (wpAny_rule ?_);refine aq ?_
 wp_delta
 refine aq (wpAny_setField ho hd (by simp) ?_);have ho2:=fB (Obj.mapFields (·.setIfInBounds 1 (rawInt (-1)))) ho (iN (dF hd _));refine wpAny_setField ho2 (dF hd _) (by simp) ?_;refine aq ?_;sleep 25;refine aq (wpAny_isInstance (T := "StopIteration") (b:=true) ⟨_,iC _ rfl,rfl⟩ isSubtype_stop ?_);refine aL (hQ _ λb o' hb e=>?_);refine c8 _ (c8 _ ?_);exact(j9 _ _ (bu hb)).trans ((j9 _ _ (bu hb)).trans e)
variable {I:Addr}{fp wr:List Addr}{n:Nat}{P:Nat->Value->Prop}{St:Nat->Heap->Prop}{T:String}
end
end RV
namespace L2
open PySem PySem.Spec PyProof.Rows
variable {v x:V}{i j:Int}{b:Bool}{tl:TA}{g:TG}{A B:Prop}{p q a:Addr}{o:HO}{H':Hp}{xs:List V}{T:String}{R:It->Hp->Prop}{X:Cx}{y x0 x1 x2 x3 x4 x5 x6 x7 x8 x9 LD:Option V}
section
variable {X:Cx}{tg:Expr}
end
section
variable {K:aD}{nx bk ct:St->Hp->Prop}{rt:VK}{σ:St}{H:Hp}{Q:VK}{P:Bool->Hp->Prop}{ta tb tc te:TE}{t u:TS}{c d:TT}
def Qc(h:nx σ H):NI ⟨nx,rt,bk,ct⟩ σ H:=h
def qj(J:St->Hp->Prop)(h:t ⟨J,rt,bk,ct⟩ σ H)(k:∀σ' H',J σ' H'->u ⟨nx,rt,bk,ct⟩ σ' H'):P9 t u ⟨nx,rt,bk,ct⟩ σ H:=⟨J,h,k⟩
def UK(h:te σ H rt):TV te ⟨nx,rt,bk,ct⟩ σ H:=h
def Qd(h:te σ H λ_ H1=>nx σ H1):NJ te ⟨nx,rt,bk,ct⟩ σ H:=h
def s_c(h:Q v H):tC v σ H Q:=h
def Zw{r:R2}(h:ta σ H λx H1=>tb σ H1 λy H2=>r x y H2 Q):Pz r ta tb σ H Q:=h
def Zx{r:V->Hp->VK->Prop}(h:ta σ H λx H1=>r x H1 Q):tUn r ta σ H Q:=h
def s_u{g:Int->V}(h:Q (g i) H):rU g (.int i) H Q:=⟨i,rfl,h⟩
def wL(P:Bool->Hp->Prop):VK:=λx H=>∃k,x=.bl k/\P k H
def UL(h:P b H):wL P (.bl b) H:=⟨b,rfl,h⟩
def Qe(h:te σ H (wL P)):GO te σ H P:=h
def s_b(h:te σ H (wL P)):tB te σ H P:=h
def UM(h:c σ H λb H1=>if b=true then d σ H1 P else P false H1):TQ c d σ H P:=h
def Zy(h:c σ H λb H1=>if b=true then P true H1 else d σ H1 P):tOr c d σ H P:=h
def UN(h:c σ H λb H1=>P (!b) H1):TR c σ H P:=h
def UO(h:c σ H λb H1=>if b=true then ta σ H1 Q else tb σ H1 Q):tIf c ta tb σ H Q:=h
def Qf(h:ta σ H (wL λb H1=>if b=true then tb σ H1 Q else Q (.bl false) H1)):NG ta tb σ H Q:=h
def UP(h:ta σ H (wL λb H1=>if b=true then Q (.bl true) H1 else tb σ H1 Q)):TU ta tb σ H Q:=h
def Lx{r r':R2}(h:ta σ H λx H1=>tb σ H1 λy H2=>r x y H2 (wL λb H3=>if b=true then tc σ H3 (λz H4=>r' y z H4 Q) else Q (.bl false) H3)):GP r r' ta tb tc σ H Q:=h
def Zz{g:Int->Int->V}(h:Q (g i j) H):Lh g (.int i) (.int j) H Q:=⟨i,j,rfl,rfl,h⟩
def s_i{C:Int->Int->Prop}{g:Int->Int->V}(hc:C i j)(h:Q (g i j) H):rI C g (.int i) (.int j) H Q:=⟨i,j,rfl,rfl,hc,h⟩
def UQ(h:Q (.bl (decide (i=j))) H):Zg (.int i) (.int j) H Q:=⟨rfl,by rw[show decide (V.int i=V.int j)=decide (i=j) by simp];exact h⟩
def UR{i j:Str}(h:Q (.bl (decide (i=j))) H):Zg (.str i) (.str j) H Q:=⟨rfl,by rw[show decide (V.str i=V.str j)=decide (i=j) by simp];exact h⟩
def US{i j:Str}(h:Q (.bl (!decide (i=j))) H):rNe (.str i) (.str j) H Q:=⟨rfl,by rw[show decide (V.str i=V.str j)=decide (i=j) by simp];exact h⟩
def s_call{sp:Sp}{E:XK}(h:tl σ H λvs H1=>sp vs H1 Q E):GS sp [] E tl σ H Q:=by show tl σ H λvs H1=>sp (vs++[]) H1 Q E;simpa only[iZ] using h
def UT{R:List V->Hp->Prop}(h:R [] H):Ui σ H R:=h
def Qg{R:List V->Hp->Prop}(h:ta σ H λx H1=>tl σ H1 λxs H2=>R (x::xs) H2):NP ta tl σ H R:=h
def ZA{r:List V->Hp->VK->Prop}(h:tl σ H λvs H1=>r vs H1 Q):Zj r tl σ H Q:=h
def UU(h:te σ H λx H1=>g x σ H1 nx):Py te g ⟨nx,rt,bk,ct⟩ σ H:=h
def CU(h1:b=true->A)(h2:b=false->B):if b=true then A else B:=by
 cases b
 .rw[if_neg jT];exact h2 rfl
 .rw[if_pos rfl];exact h1 rfl
def Bm{p:Prop}[Decidable p](h1:p->A)(h2:¬p->B):if decide p=true then A else B:=CU (λh=>h1 (of_decide_eq_true h)) λh=>h2 (of_decide_eq_false h)
def Qh{p:Prop}[Decidable p](hp:p)(h:A):if decide p=true then A else B:=Bm (λ_=>h) λn=>absurd hp n
def Qi{p:Prop}[Decidable p](hp:¬p)(h:B):if decide p=true then A else B:=Bm (λn=>absurd n hp) λ_=>h
def Bo{p:Prop}[Decidable p](h1:¬p->A)(h2:p->B):if(!decide p)=true then A else B:=CU (λh=>h1 (by simpa using h)) λh=>h2 (by simpa using h)
def Qj{p:Prop}[Decidable p](hp:¬p)(h:A):if(!decide p)=true then A else B:=Bo (λ_=>h) λn=>absurd n hp
def Qk{p:Prop}[Decidable p](hp:p)(h:B):if(!decide p)=true then A else B:=Bo (λn=>absurd hp n) λ_=>h
def UW(h:B):if(!true)=true then A else B:=UB h
def UX(h:A):if(!false)=true then A else B:=Lv h
def eU(H:Hp)(p:Addr)(o:HO)(H':Hp):Prop:=H p=none/\H'=upd H p o
def nj(H:Hp)(p:Addr)(o:HO)(H':Hp):Prop:=H'=upd H p o
def eU.self(n:eU H p o H'):H' p=some o:=by rw[n.2];exact jU
def eU.keep{v:HO}(n:eU H p o H')(h:H q=some v):H' q=some v:=by rw[n.2,ck (aW h n.1)];exact h
def eU.same(n:eU H p o H'):aB H H':=λ_ _ h=>n.keep h
theorem eU.none{H':Hp}(n:eU H p o H')(h:H' q=Option.none):H q=Option.none:=n.same.free h
def eU.ne{v:HO}{H':Hp}(n:eU H p o H')(h:H q=some v):q≠p:=aW h n.1
def nj.self(n:nj H p o H'):H' p=some o:=by rw[show H'=upd H p o from n];exact jU
def nj.keep{v:HO}(n:nj H p o H')(ne:q≠p)(h:H q=some v):H' q=some v:=by rw[show H'=upd H p o from n,ck ne];exact h
theorem nj.none{v:HO}(n:nj H p o H')(hp:H p=some v)(h:H q=Option.none):H' q=Option.none:=by rw[show H'=upd H p o from n,ck (λe=>by rw[e,hp] at h;cases h)];exact h
def UY(xs:List V)(H:Hp)(Q:VK):Prop:=xs.length<=sizeLine/\∀p,H p=none->Q (.ref p) (upd H p (.tup xs))
def UZ(xs:List V)(H:Hp)(Q:VK):Prop:=xs.length<=sizeLine/\∀p,H p=none->Q (.ref p) (upd H p (.lst xs))
def U0(h:tl σ H λxs H1=>UY xs H1 Q):Uj tl σ H Q:=h
def U1(h:tl σ H λxs H1=>UZ xs H1 Q):Uk tl σ H Q:=h
def Ql(hz:xs.length<=1000)(h:∀p H',eU H p (.tup xs) H'->Q (.ref p) H'):UY xs H Q:=⟨bJ hz (by decide),λp hp=>h p _ ⟨hp,rfl⟩⟩
def Qm(hz:xs.length<=1000)(h:∀p H',eU H p (.lst xs) H'->Q (.ref p) H'):UZ xs H Q:=⟨bJ hz (by decide),λp hp=>h p _ ⟨hp,rfl⟩⟩
def cF(hS:bE K H p xs)(hv:nE xs i=some v)(h:Q v H):PX K (.ref p) (.int i) H Q:=⟨p,xs,i,v,rfl,rfl,hS,hv,h⟩
def sD(hS:cM K H p xs)(hv:nE xs i=some v)(h:Q v H):PY K (.ref p) (.int i) H Q:=⟨p,xs,i,v,rfl,rfl,hS,hv,h⟩
def Hw{z:Str}{ch:Nat}(hz:z.length<=1000)(hv:nE z.cps.toList i=some ch)(h:Q (.str ⟨#[ch]⟩) H):Uo (.str z) (.int i) H Q:=⟨z,i,ch,rfl,rfl,bJ hz (by decide),hv,h⟩
def ZC(hS:bE K H p xs\/cM K H p xs)(h1:kP x=true)(h2:xs.all kP=true)(h:Q (.bl (uz x xs)) H):XG K false x (.ref p) H Q:=⟨p,xs,rfl,hS,h1,h2,h⟩
def U3(hS:bE K H p xs\/cM K H p xs)(h1:kP x=true)(h2:xs.all kP=true)(h:Q (.bl (!uz x xs)) H):XG K true x (.ref p) H Q:=⟨p,xs,rfl,hS,h1,h2,h⟩
def ZD{r:V->List V->Hp->VK->Prop}(h:ta σ H λx H1=>S8 K T x H1/\tl σ H1 λxs H2=>r x xs H2 Q):tBM K T r ta tl σ H Q:=h
def U4{r:V->List V->Hp->VK->Prop}(h:ta σ H λx H1=>S8 K T x H1/\r x [] H1 Q):Ur K T r ta σ H Q:=h
def Hx{l:Addr}{y:V}(hl:H l=some (.lst xs))(hz:xs.length<1000000)(h:∀H',nj H l (.lst (xs++[y])) H'->Q .cX H'):CL (.ref l) [y] H Q:=⟨l,xs,y,rfl,rfl,hl,bT hz (by decide),h _ rfl⟩
def s_pop{l:Addr}{y:V}(hl:H l=some (.lst xs))(hy:xs[xs.length-1]?=some y)(h:∀H',nj H l (.lst xs.dropLast) H'->Q y H'):Uu (.ref l) [] H Q:=⟨l,xs,y,rfl,rfl,hl,hy,h _ rfl⟩
def U5(K:aD)(R:It->Hp->Prop):V->Hp->Prop:=λx H=>∃a,x=.ref a/\(∃xs,bE K H a xs)/\R (KS K a) H
def U6(K:aD)(R:It->Hp->Prop):V->Hp->Prop:=λx H=>∃a,x=.ref a/\(∃xs,cM K H a xs)/\R (KU K a) H
def Qn{tl:TE}(h:tl σ H (U5 K R)):GI K tl σ H R:=h
def Ly{tl:TE}(h:tl σ H (U6 K R)):T6 K tl σ H R:=h
def Hy(hb:b=true)(h:A):if b=true then A else B:=CU (λ_=>h) λn=>by rw[hb] at n;cases n
def Hz(hb:b=false)(h:B):if b=true then A else B:=CU (λn=>by rw[hb] at n;cases n) λ_=>h
def Qo(K:aD):List V->Hp->VK->Prop:=λxs H Q=>∃p ys,xs=[.ref p]/\(bE K H p ys\/cM K H p ys)/\Q (.int ys.length) H
def bI:di X (.builtin "len") (Qo X.K):=wD
def U7{ys:List V}(hS:bE K H p ys\/cM K H p ys)(h:Q (.int ys.length) H):Qo K [.ref p] H Q:=⟨p,ys,rfl,hS,h⟩
def N1:List V->Hp->VK->Prop:=λxs H Q=>(∃i,xs=[.int i]/\Q (.int i) H)\/∃k,xs=[.bl k]/\Q (.int (if k then 1 else 0)) H
def u5:di X (.type "int") N1:=EH
def Qp(h:Q (.int (if b then 1 else 0)) H):N1 [.bl b] H Q:=.inr ⟨b,rfl,h⟩
def Qq(K:aD):List V->Hp->VK->Prop:=λxs H Q=>∃x T t b,xs=[x,.ty T]/\jl K H x t/\PySem.W.kitOne K t (.type T)=some b/\Q (.bl b) H
def u7:di X (.builtin "isinstance") (Qq X.K):=Hu
def N2{ty:Value}(ht:jl K H x ty)(e:PySem.W.kitOne K ty (.type T)=some b)(h:Q (.bl b) H):Qq K [x,.ty T] H Q:=⟨x,T,ty,b,rfl,ht,e,h⟩
def CV(K:aD):List V->Hp->VK->Prop:=λxs H Q=>∃p ys,xs=[.ref p]/\(bE K H p ys\/cM K H p ys)/\∀l,H l=none->Q (.ref l) (upd H l (.lst ys))
def nq:di X (.type "list") (CV X.K):=wF
def HA{ys:List V}(hS:bE K H p ys\/cM K H p ys)(h:∀l H',eU H l (.lst ys) H'->Q (.ref l) H'):CV K [.ref p] H Q:=⟨p,ys,rfl,hS,λl hl=>h l _ ⟨hl,rfl⟩⟩
def U8(R:It->Hp->Prop):List V->Hp->Prop:=λvs H=>∃j:Int,vs=[.int j] /\ -(2 ^ 62)<=j/\j<2 ^ 62/\R (mJ 0 j.toNat) H
def HB(h:tl σ H (U8 R)):NL tl σ H R:=h
def U9(h1:-(2 ^ 62)<=j)(h2:j<2 ^ 62)(h:R (mJ 0 j.toNat) H):U8 R [.int j] H:=⟨j,rfl,h1,h2,h⟩
def Qs(J:It)(g:TG)(tb:TS)(nx:St->Hp->Prop)(rt:VK)(σ:St)(H:Hp):Prop:=∃W:Nat->Nat->St->Hp->Prop,(∃m,W 0 m σ H)/\∀i m σ H,W i m σ H ->
 (J.stop i H/\nx σ H)\/(J.go i H/\∃N:St->Hp->Prop,(∀σ' H',N σ' H'->∃m',m'<m/\W (i+1) m' σ' H')/\∀x H',J.Gx i H x H'->g x σ H' λσ2 H2=>tb ⟨N,rt,nx,N⟩ σ2 H2)
def Va{wi:TI}{tb:TS}(h:wi σ H λJ H1=>Qs J g tb nx rt σ H1):T7 wi g tb ⟨nx,rt,bk,ct⟩ σ H:=h
def qH{lo:Int}{n:Nat}{tb:TS}(Pv:Nat->St->Hp->Prop)(h0:Pv 0 σ H)
  (hs:∀i σ H,i<n->Pv i σ H->g (.int (lo+i)) σ H λσ2 H2=>tb ⟨Pv (i+1),rt,nx,Pv (i+1)⟩ σ2 H2)(hd:∀σ H,Pv n σ H->nx σ H):Qs (mJ lo n) g tb nx rt σ H :=
 EF (D:=⟨nx,rt,nx,nx⟩) Pv h0 hs hd
def f_list{tb:TS}(Pv:Nat->St->Hp->Prop)(h0:Pv 0 σ H)(hl:∀i σ H,i<=xs.length->Pv i σ H->bE K H a xs)
  (hs:∀i x σ H,xs[i]?=some x->Pv i σ H->g x σ H λσ2 H2=>tb ⟨Pv (i+1),rt,nx,Pv (i+1)⟩ σ2 H2)(hd:∀σ H,Pv xs.length σ H->nx σ H):Qs (KS K a) g tb nx rt σ H :=
 GK (D:=⟨nx,rt,nx,nx⟩) Pv h0 hl hs hd
def f_tup{tb:TS}(Pv:Nat->St->Hp->Prop)(h0:Pv 0 σ H)(hl:∀i σ H,i<=xs.length->Pv i σ H->cM K H a xs)
  (hs:∀i x σ H,xs[i]?=some x->Pv i σ H->g x σ H λσ2 H2=>tb ⟨Pv (i+1),rt,nx,Pv (i+1)⟩ σ2 H2)(hd:∀σ H,Pv xs.length σ H->nx σ H):Qs (KU K a) g tb nx rt σ H :=
 Lg (D:=⟨nx,rt,nx,nx⟩) Pv h0 hl hs hd
def Qt{n:Nat}{gs:EC}{R:St->Hp->Prop}(hS:cM K H a xs)(hn:xs.length=n)(h:gs xs σ H R):Px K n gs (.ref a) σ H R:=⟨a,xs,rfl,hS,hn,h⟩
def Lz{gs:EC}{vs:List V}{R:St->Hp->Prop}(h:g v σ H λσ' H'=>gs vs σ' H' R):NK g gs (v::vs) σ H R:=⟨v,vs,rfl,h⟩
def Qu{R:St->Hp->Prop}(h:R σ H):T3 [] σ H R:=⟨rfl,h⟩
def LA{xs:List V}(hS:bE K H p xs)(h:R (KS K p) H):U5 K R (.ref p) H:=⟨p,rfl,⟨xs,hS⟩,h⟩
def Qv{xs:List V}(hS:cM K H p xs)(h:R (KU K p) H):U6 K R (.ref p) H:=⟨p,rfl,⟨xs,hS⟩,h⟩
def ZE{tb:TS}{m:Nat}{W:Nat->St->Hp->Prop}(h:tb ⟨λσ' H'=>∃m',m'<m/\W m' σ' H',rt,nx,λσ' H'=>∃m',m'<m/\W m' σ' H'⟩ σ H):∃N:St->Hp->Prop,(∀σ' H',N σ' H'->∃m',m'<m/\W m' σ' H')/\tb ⟨N,rt,nx,N⟩ σ H:=⟨_,λ_ _ h=>h,h⟩
def lZ{tb:TS}(W:Nat->St->Hp->Prop)(h0:∃m,W m σ H)(hs:∀m σ H,W m σ H->c σ H λb H1=>if b=true then ∃N:St->Hp->Prop,(∀σ' H',N σ' H'->∃m',m'<m/\W m' σ' H')/\tb ⟨N,rt,nx,N⟩ σ H1 else nx σ H1):GH c tb ⟨nx,rt,bk,ct⟩ σ H:=⟨W,h0,hs⟩
def N3(t u:TS):TS:=P9 t u
def nO{st:Stmt}{rest:List Stmt}{t u:TS}(h1:PS X st t)(h2:uQ X rest u):uQ X (st::rest) (N3 t u):=iQ h1 h2
def Qw(h:t ⟨λσ' H'=>σ'=σ/\H'=H,rt,bk,ct⟩ σ H)(k:u ⟨nx,rt,bk,ct⟩ σ H):N3 t u ⟨nx,rt,bk,ct⟩ σ H:=⟨_,h,λ_ _ e=>by rw[e.1,e.2];exact k⟩
def nj.same{H0:Hp}(n:nj H p o H')(e:aB H0 H)(hp:H0 p=Option.none):aB H0 H':=λb v q=>n.keep (aW q hp) (e b v q)
def Vb{xs:List V}(hS:bE K H p xs)(h:A):S8 K "list" (.ref p) H/\A:=⟨.inl ⟨rfl,_,hS⟩,h⟩
def Qx{r:St}(h:Q v H):mF 0 (some v::r) H Q:=⟨v,rfl,h⟩
def ZF{r:St}{R:St->Hp->Prop}(h:R (some v::r) H):iw 0 v (y::r) H R:=h
def Qy{r:St}(h:Q v H):mF 1 (x0::some v::r) H Q:=⟨v,rfl,h⟩
def ZG{r:St}{R:St->Hp->Prop}(h:R (x0::some v::r) H):iw 1 v (x0::y::r) H R:=h
def Qz{r:St}(h:Q v H):mF 2 (x0::x1::some v::r) H Q:=⟨v,rfl,h⟩
def ZH{r:St}{R:St->Hp->Prop}(h:R (x0::x1::some v::r) H):iw 2 v (x0::x1::y::r) H R:=h
def QA{r:St}(h:Q v H):mF 3 (x0::x1::x2::some v::r) H Q:=⟨v,rfl,h⟩
def Vc{r:St}{R:St->Hp->Prop}(h:R (x0::x1::x2::some v::r) H):iw 3 v (x0::x1::x2::y::r) H R:=h
def QB{r:St}(h:Q v H):mF 4 (x0::x1::x2::x3::some v::r) H Q:=⟨v,rfl,h⟩
def ZI{r:St}{R:St->Hp->Prop}(h:R (x0::x1::x2::x3::some v::r) H):iw 4 v (x0::x1::x2::x3::y::r) H R:=h
def QC{r:St}(h:Q v H):mF 5 (x0::x1::x2::x3::x4::some v::r) H Q:=⟨v,rfl,h⟩
def ZJ{r:St}{R:St->Hp->Prop}(h:R (x0::x1::x2::x3::x4::some v::r) H):iw 5 v (x0::x1::x2::x3::x4::y::r) H R:=h
def QD{r:St}(h:Q v H):mF 6 (x0::x1::x2::x3::x4::x5::some v::r) H Q:=⟨v,rfl,h⟩
def ZK{r:St}{R:St->Hp->Prop}(h:R (x0::x1::x2::x3::x4::x5::some v::r) H):iw 6 v (x0::x1::x2::x3::x4::x5::y::r) H R:=h
def QE{r:St}(h:Q v H):mF 7 (x0::x1::x2::x3::x4::x5::x6::some v::r) H Q:=⟨v,rfl,h⟩
def ZL{r:St}{R:St->Hp->Prop}(h:R (x0::x1::x2::x3::x4::x5::x6::some v::r) H):iw 7 v (x0::x1::x2::x3::x4::x5::x6::y::r) H R:=h
def QF{r:St}(h:Q v H):mF 8 (x0::x1::x2::x3::x4::x5::x6::x7::some v::r) H Q:=⟨v,rfl,h⟩
def ZM{r:St}{R:St->Hp->Prop}(h:R (x0::x1::x2::x3::x4::x5::x6::x7::some v::r) H):iw 8 v (x0::x1::x2::x3::x4::x5::x6::x7::y::r) H R:=h
def QG{r:St}(h:Q v H):mF 9 (x0::x1::x2::x3::x4::x5::x6::x7::x8::some v::r) H Q:=⟨v,rfl,h⟩
def ZN{r:St}{R:St->Hp->Prop}(h:R (x0::x1::x2::x3::x4::x5::x6::x7::x8::some v::r) H):iw 9 v (x0::x1::x2::x3::x4::x5::x6::x7::x8::y::r) H R:=h
def LB{r:St}(h:Q v H):mF 10 (x0::x1::x2::x3::x4::x5::x6::x7::x8::x9::some v::r) H Q:=⟨v,rfl,h⟩
def Vd{r:St}{R:St->Hp->Prop}(h:R (x0::x1::x2::x3::x4::x5::x6::x7::x8::x9::some v::r) H):iw 10 v (x0::x1::x2::x3::x4::x5::x6::x7::x8::x9::y::r) H R:=h
def LC{r:St}(h:Q v H):mF 11 (x0::x1::x2::x3::x4::x5::x6::x7::x8::x9::LD::some v::r) H Q:=⟨v,rfl,h⟩
def Ve{r:St}{R:St->Hp->Prop}(h:R (x0::x1::x2::x3::x4::x5::x6::x7::x8::x9::LD::some v::r) H):iw 11 v (x0::x1::x2::x3::x4::x5::x6::x7::x8::x9::LD::y::r) H R:=h
def LF{XI:Option V}{r:St}(h:Q v H):mF 12 (x0::x1::x2::x3::x4::x5::x6::x7::x8::x9::LD::XI::some v::r) H Q:=⟨v,rfl,h⟩
def Vf{XI:Option V}{r:St}{R:St->Hp->Prop}(h:R (x0::x1::x2::x3::x4::x5::x6::x7::x8::x9::LD::XI::some v::r) H):iw 12 v (x0::x1::x2::x3::x4::x5::x6::x7::x8::x9::LD::XI::y::r) H R:=h
end
end L2
namespace ZP
open PySem
variable {Q:Value->Shared->Prop}
def Src(t:Bool)(h:Heap)(a:Addr)(xs:Array Value):Prop:=match t with
 | true=>h.IsTuple a xs
 | false=>h.IsList a xs
def mJ(t:Bool)(h:Heap)(it a:Addr)(i:Nat):Prop:=match t with
 | true=>h.IsTupleIter it a i
 | false=>h.IsListIter it a i
def nP(t:Bool)(a:Addr):Obj:=match t with
 | true=>{ cls:=.type "tuple_iterator", data:=.fields #[.ref a,.int 0 0] }
 | false=>{ cls:=.type "list_iterator", data:=.fields #[.ref a,.int 0 0] }
section
variable {t:Bool}{h h':Heap}{a it:Addr}{xs:Array Value}{i:Nat}
def Src.at(x:Src t h a xs)(k:∀o,h.get? a=some o->h'.get? a=some o):Src t h' a xs:=by
 cases t
 .sleep 154
 .sleep 154
def Src.here(x:Src t h a xs):∃o,h.get? a=some o:=by
 cases t
 .obtain⟨o,e,r⟩:=x;exact⟨o,e⟩
 .obtain⟨o,e,r⟩:=x;exact⟨o,e⟩
theorem Src.push(x:Src t h a xs)(o:Obj):Src t (h.push o) a xs:=x.at λ_ e=>c8 _ e
def mJ.at(x:mJ t h it a i)(k:∀o,h.get? it=some o->h'.get? it=some o):mJ t h' it a i:=by
 cases t
 .sleep 154
 .sleep 154
def mJ.here(x:mJ t h it a i):∃o,h.get? it=some o/\∃vs,o.data=.fields vs:=by
 cases t
 .obtain⟨o,e,c,d⟩:=x;exact⟨o,e,_,d⟩
 .obtain⟨o,e,c,d⟩:=x;exact⟨o,e,_,d⟩
def mJ.new(e:h.get? it=some (nP t a)):mJ t h it a 0:=by
 cases t
 .exact⟨_,e,rfl,rfl⟩
 .exact⟨_,e,rfl,rfl⟩
end
section
variable {prog:Program}{w:World}{A:Around}{E:Value->Shared->Prop}{s:Shared}{t:Bool}{a it:Addr}{xs:Array Value}{i:Nat}
def CW(x:Src t s.heap a xs)(q:Q (.ref s.heap.objs.size) { s with heap:=s.heap.push (nP t a) }):wpAny (model prog w) A (pyIter (.ref a)) Q E s:=by
 cases t
 .exact wpAny_pyIter_list x q
 .exact wpAny_pyIter_tuple x q
def alive{T:Addr}{o:Obj}{Q:Option Obj->Shared->Prop}(ho:s.heap.get? T=some o)(h:Q (some o) s):wpAny (model prog w) A (loadIfAlive T) Q E s:=by
 have h':Q (s.heap.get? T) s:=by rw[ho];exact h
 exact λ_ _ _=>h'
def next_item{x:Value}(hit:mJ t s.heap it a i)(hs:Src t s.heap a xs)(hx:xs[i]?=some x)
  (hQ:∀h',mJ t h' it a (i+1)->Heap.SameBut it s.heap h'->Q x { s with heap:=h' }):wpAny (model prog w) A (Builtin.SmallTypes.nextOf (.ref it)) Q E s:=by
 cases t
 .exact wpAny_nextOf_list_item hit hs hx hQ
 .sleep 9;refine aq (wpAny_setField ho hd (by simp) (aL ⟨x,rfl,aL (hQ _ ?_ (jC ..))⟩));exact⟨_,fB _ ho (iN (dF hd _)),(kh ..).trans hc,by rw[dF hd];simp[rawInt]⟩
def next_end(hh:A.handled=none)(hit:mJ t s.heap it a i)(hs:Src t s.heap a xs)(hx:xs[i]?=none)
  (hE:∀h' e,Heap.ExtBut it s.heap h'->(∃o,h'.get? e=some o/\o.cls=.type "StopIteration")->E (.ref e) { s with heap:=h' }):wpAny (model prog w) A (Builtin.SmallTypes.nextOf (.ref it)) Q E s:=by
 cases t
 .exact wpAny_nextOf_list_end hh hit hs hx hE
 .sleep 9;refine aq (wpAny_rule (aq (wpAny_setField ho hd (by simp) ?_)));sleep 25;exact hE _ _ (((jC ..).extBut.push _).push _) ⟨_,iC _ rfl,rfl⟩
end
abbrev ZO(h:Heap)(z TI TO:Addr)(f0:Value)(f:Bool):Prop :=
 h.get? z=some { cls:=.type "zip", dict:=none,data:=.fields #[f0,.bool f,.bool false,.ref TI,.ref TO],slots:=#[] }
structure Zs (t1 t2:Bool) (TI TO i1 i2 l1 l2:Addr) (i:Nat) (h:Heap):Prop where
 ti:IsPair h TI (.ref i1) (.ref i2)
 to:∃a b,IsPair h TO a b
 a1:mJ t1 h i1 l1 i
 a2:mJ t2 h i2 l2 i
def Zs.keep{t1 t2:Bool}{TI TO i1 i2 l1 l2:Addr}{i:Nat}{h h':Heap}(x:Zs t1 t2 TI TO i1 i2 l1 l2 i h)(k:∀b,b=TI\/b=TO\/b=i1\/b=i2->∀o,h.get? b=some o->h'.get? b=some o):Zs t1 t2 TI TO i1 i2 l1 l2 i h' :=
 ⟨k _ (.inl rfl) _ x.ti,let⟨a,b,e⟩:=x.to;⟨a,b,k _ (.inr (.inl rfl)) _ e⟩,x.a1.at λo e=>k _ (.inr (.inr (.inl rfl))) o e,x.a2.at λo e=>k _ (.inr (.inr (.inr rfl))) o e⟩
def Rest(z TO i1 i2:Addr)(h h':Heap):Prop:=∀c o,c≠z->c≠TO->c≠i1->c≠i2->h.get? c=some o->h'.get? c=some o
section
variable {prog:Program}{w:World}{A:Around}{E:Value->Shared->Prop}{s:Shared}{t1 t2:Bool}{z TI TO i1 i2 l1 l2:Addr}{i:Nat}{xs ys:Array Value}{x y:Value}
def HC(D:ZipApart z TI TO i1 i2 l1 l2)(hz:ZO s.heap z TI TO .none false)(st:Zs t1 t2 TI TO i1 i2 l1 l2 i s.heap)(hl1:Src t1 s.heap l1 xs)(hl2:Src t2 s.heap l2 ys)(hx:xs[i]?=some x)(hy:ys[i]?=some y)
  (hQ:∀h',ZO h' z TI TO (rawInt s.heap.objs.size) false->Zs t1 t2 TI TO i1 i2 l1 l2 (i+1) h'->IsPair h' s.heap.objs.size x y->h'.objs.size=s.heap.objs.size+1->Rest z TO i1 i2 s.heap h'->Q (.ref s.heap.objs.size) { s with heap:=h' }):
  wpAny (model prog w) A (Builtin.«zip.__next__» ⟨[.ref z],[]⟩) (λfin s'=>∃v,fin=.done (.ret v)/\Q v s') E s:=by
 sleep 12;sleep 168;sleep 110;refine aq (wpAny_setField_rec hz (by simp) λh₁ yx hs₁=>?_)
 replace yx:ZO h₁ z TI TO .ellipsis false:=yx
 sleep 102;sleep 15;sleep 147;refine aq (wpAny_updateSeq_pair HD λh₃ LG pB=>?_)
 replace LG:IsPair h₃ TO x b:=LG
 sleep 126;refine aq (next_item (h2.at λo e=>pB.extBut _ o D.TOi2.symm (hs₂.extBut _ o D.i12.symm (hs₁.extBut _ o D.i2z e)))
  (hl2.at λo e=>pB.extBut _ o D.l2TO (hs₂.extBut _ o D.l2i1 (hs₁.extBut _ o D.l2z e))) hy λh₄ h2₄ N5=>aL ?_)
 have Vg:IsPair h₄ TO x b:=N5.extBut _ _ D.TOi2 LG;refine aq (wpAny_seqItems Vg rfl ?_);refine aq (wpAny_updateSeq_pair Vg λh₅ LH N6=>?_)
 replace LH:IsPair h₅ TO x y:=LH
 refine aq (wpAny_letGo (aL (aL ?_)));refine aq (wpAny_seqItems LH rfl ?_);refine aq (wpAny_newTuple ?_);have hsz:h₅.objs.size=s.heap.objs.size:=by rw[N6.1,N5.1,pB.1,hs₂.1,hs₁.1]
 have hz₅:ZO h₅ z TI TO .ellipsis false:=N6.extBut _ _ D.TOz.symm (N5.extBut _ _ D.i2z.symm (pB.extBut _ _ D.TOz.symm (hs₂.extBut _ _ D.i1z.symm yx)));have hk₅:Rest z TO i1 i2 s.heap h₅:=λc o c1 c2 c3 c4 e=>N6.extBut _ _ c2 (N5.extBut _ _ c4 (pB.extBut _ _ c2 (hs₂.extBut _ _ c3 (hs₁.extBut _ _ c1 e))));have h1₅:mJ t1 h₅ i1 l1 (i+1):=N4.at λo e=>N6.extBut _ o D.TOi1.symm (N5.extBut _ o D.i12 (pB.extBut _ o D.TOi1.symm e));have h2₅:mJ t2 h₅ i2 l2 (i+1):=h2₄.at λo e=>N6.extBut _ o D.TOi2.symm e;have Vh:z<h₅.objs.size:=aK hz₅;show wpAny _ _ (Builtin.SmallTypes.ownedTupleHandOut (.ref z) (.ref h₅.objs.size) >>= _) _ _ _;refine aq ?_;unfold Builtin.SmallTypes.ownedTupleHandOut;have hz₆:ZO (h₅.push { cls:=.type "tuple", data:=.seq #[x,y] }) z TI TO .ellipsis false:=c8 _ hz₅;refine aq (wpAny_setField_rec hz₆ (by simp) λh₇ ZQ ZR=>?_)
 replace ZQ:ZO h₇ z TI TO (rawInt h₅.objs.size) false:=ZQ
 refine wpAny_setField_rec ZQ (by simp) λh₈ XJ ZS=>?_
 replace XJ:ZO h₈ z TI TO (rawInt h₅.objs.size) false:=XJ
 have up:∀c o,c≠z->h₅.get? c=some o->h₈.get? c=some o:=λc o c1 e=>ZS.extBut _ _ c1 (ZR.extBut _ _ c1 (c8 _ e));have hT₈:IsPair h₈ h₅.objs.size x y:=ZS.extBut _ _ (jo Vh) (ZR.extBut _ _ (jo Vh) (iC _ rfl));have hz8:h₈.objs.size=h₅.objs.size+1:=by rw[ZS.1,ZR.1,fE]
 rw[hsz] at XJ hT₈ hz8;refine aL ⟨_,rfl,?_⟩;show Q (.ref h₅.objs.size) _;rw[hsz];exact hQ h₈ XJ ⟨up _ _ D.TIz (hk₅ _ _ D.TIz D.TITO D.TIi1 D.TIi2 hTI),⟨x,y,up _ _ D.TOz LH⟩,h1₅.at λo e=>up _ o D.i1z e,h2₅.at λo e=>up _ o D.i2z e⟩ hT₈ hz8 λc o c1 c2 c3 c4 e=>up c o c1 (hk₅ c o c1 c2 c3 c4 e)
def XM{f:Bool}{T:Addr}{oT:Obj}(D:ZipApart z TI TO i1 i2 l1 l2)(hz:ZO s.heap z TI TO (rawInt T) f)(hT:s.heap.get? T=some oT)(st:Zs t1 t2 TI TO i1 i2 l1 l2 i s.heap)(hl1:Src t1 s.heap l1 xs)(hl2:Src t2 s.heap l2 ys)(hx:xs[i]?=some x)(hy:ys[i]?=some y)
  (hQ:∀h',ZO h' z TI TO (rawInt T) true->Zs t1 t2 TI TO i1 i2 l1 l2 (i+1) h'->IsPair h' s.heap.objs.size x y->h'.objs.size=s.heap.objs.size+1->Rest z TO i1 i2 s.heap h'->Q (.ref s.heap.objs.size) { s with heap:=h' }):
  wpAny (model prog w) A (Builtin.«zip.__next__» ⟨[.ref z],[]⟩) (λfin s'=>∃v,fin=.done (.ret v)/\Q v s') E s:=by
 sleep 12;have fin:∀h₁,ZO h₁ z TI TO (rawInt T) true->Heap.SameBut z s.heap h₁->∀h₂ h₃,mJ t1 h₂ i1 l1 (i+1)->Heap.SameBut i1 h₁ h₂->mJ t2 h₃ i2 l2 (i+1)->Heap.SameBut i2 h₂ h₃ ->
   Q (.ref h₃.objs.size) { s with heap:=h₃.push { cls:=.type "tuple", data:=.seq #[x,y] } }:=by
  intro h₁ yx hs₁ h₂ h₃ q1 hs₂ q2 pB;have hsz:h₃.objs.size=s.heap.objs.size:=by rw[pB.1,hs₂.1,hs₁.1]
  have up:Rest z TO i1 i2 s.heap (h₃.push { cls:=.type "tuple", data:=.seq #[x,y] }):=λc o c1 c2 c3 c4 e=>c8 _ (pB.extBut _ _ c4 (hs₂.extBut _ _ c3 (hs₁.extBut _ _ c1 e)));have hp:IsPair (h₃.push { cls:=.type "tuple", data:=.seq #[x,y] }) h₃.objs.size x y:=iC _ rfl;rw[hsz] at hp ⊢;refine hQ _ (c8 _ (pB.extBut _ _ D.i2z.symm (hs₂.extBut _ _ D.i1z.symm yx))) ⟨up _ _ D.TIz D.TITO D.TIi1 D.TIi2 hTI,⟨a,b,?_⟩,?_,?_⟩ hp (by rw[fE,hsz]) up
  .exact c8 _ (pB.extBut _ _ D.TOi2 (hs₂.extBut _ _ D.TOi1 (hs₁.extBut _ _ D.TOz hTO)))
  .exact q1.at λo e=>c8 _ (pB.extBut _ o D.i12 e)
  .exact q2.at λo e=>c8 _ e
 sleep 168;sleep 58;cases f
 .rw[if_pos (by decide)];refine aq (wpAny_setField_rec hz (by simp) λh₁ yx hs₁=>aL ?_)
  replace yx:ZO h₁ z TI TO (rawInt T) true:=yx
  sleep 11
 .sleep 105;refine aL ?_;have yx:=hz;have hs₁:Heap.SameBut z s.heap s.heap:=rJ ..;let h₁:=s.heap;sleep 11
def LI{f:Bool}{f0:Value}{Q:Fin->Shared->Prop}(hf:f0=.none\/∃(T:Addr)(oT:Obj),f0=rawInt T/\s.heap.get? T=some oT)(hh:A.handled=none)(D:ZipApart z TI TO i1 i2 l1 l2)(hz:ZO s.heap z TI TO f0 f)(st:Zs t1 t2 TI TO i1 i2 l1 l2 i s.heap)(hl1:Src t1 s.heap l1 xs)(hl2:Src t2 s.heap l2 ys)
  (hend:xs[i]?=none\/ys[i]?=none)
  (hE:∀h' e,Rest z TO i1 i2 s.heap h'->(∃o,h'.get? e=some o/\o.cls=.type "StopIteration")->E (.ref e) { s with heap:=h' }):
  wpAny (model prog w) A (Builtin.«zip.__next__» ⟨[.ref z],[]⟩) Q E s:=by
 sleep 12;sleep 168;rcases hf with rfl|⟨T,oT,rfl,hT⟩
 .sleep 110;refine aq (wpAny_setField_rec hz (by simp) λh₁ yx hs₁=>?_)
  replace yx:ZO h₁ z TI TO .ellipsis f:=yx
  sleep 102;cases hx:xs[i]? with
  | none =>
   refine aq (next_end hh (h1.at λo e=>hs₁.extBut _ o D.i1z e) (hl1.at λo e=>hs₁.extBut _ o D.l1z e) hx λh₂ e hs₂ he=>?_);obtain⟨oe,QH,hce⟩:=he;have hz₂:ZO h₂ z TI TO .ellipsis f:=hs₂ _ _ D.i1z.symm yx;have ZU:e≠z:=λx=>by subst x;rw[hz₂] at QH;cases QH;simp at hce
   exact wpAny_setField_rec hz₂ (by simp) λh₃ _ pB=>hE h₃ e (λc o c1 _ c3 _ x=>pB.extBut _ _ c1 (hs₂ _ _ c3 (hs₁.extBut _ _ c1 x))) ⟨oe,pB.extBut _ _ ZU QH,hce⟩
  | some x =>
   have hy:ys[i]?=none:=by
    rcases hend with h|h
    .rw[hx] at h;cases h
    .exact h
   sleep 15;sleep 147;refine aq (wpAny_updateSeq_pair HD λh₃ LG pB=>?_);sleep 126;refine aq (next_end hh (h2.at λo e=>pB.extBut _ o D.TOi2.symm (hs₂.extBut _ o D.i12.symm (hs₁.extBut _ o D.i2z e)))
    (hl2.at λo e=>pB.extBut _ o D.l2TO (hs₂.extBut _ o D.l2i1 (hs₁.extBut _ o D.l2z e))) hy λh₄ e N5 he=>?_)
   obtain⟨oe,QH,hce⟩:=he;have hz₄:ZO h₄ z TI TO .ellipsis f:=N5 _ _ D.i2z.symm (pB.extBut _ _ D.TOz.symm (hs₂.extBut _ _ D.i1z.symm yx));have ZU:e≠z:=λx=>by subst x;rw[hz₄] at QH;cases QH;simp at hce
   exact wpAny_setField_rec hz₄ (by simp) λh₅ _ N6=>hE h₅ e (λc o c1 c2 c3 c4 x=>N6.extBut _ _ c1 (N5 _ _ c4 (pB.extBut _ _ c2 (hs₂.extBut _ _ c3 (hs₁.extBut _ _ c1 x))))) ⟨oe,N6.extBut _ _ ZU QH,hce⟩
 .sleep 58;cases f
  .rw[if_pos (by decide)];refine aq (wpAny_setField_rec hz (by simp) λh₁ yx hs₁=>aL ?_);sleep 3
  .sleep 105;refine aL ?_;let h₁:=s.heap;have hs₁:Heap.SameBut z s.heap s.heap:=rJ ..;sleep 3
def LJ{Q:Option Value->Shared->Prop}{Q':Value->Shared->Prop}(hT:s.TypeIs (.ref z) "zip")(h:wpAny (model prog w) A.in1 (Builtin.«zip.__next__» ⟨[.ref z],[]⟩) (λfin s'=>∃v,fin=.done (.ret v)/\Q' v s') (λ_ _=>False) s)(q:∀v s',Q' v s'->Q (some v) s'):wpAny (model prog w) A (pyNext (.ref z)) Q E s:=by unfold pyNext;refine aq (wpAny_attempt (wpAny_callSpecial?_slot (name:=Str.ofString "__next__") hT F.slot_zip_next (wpAny_call_entry F.slot_zip_next hT F.entry_zip_next (wpAny_mono h (λfin s' h'=>?_) λ_ _ h'=>h'.elim) (F.args_zip_next_1 _))));obtain⟨v,rfl,h'⟩:=h';exact⟨v,rfl,aL (q v s' h')⟩
def QI{Q:Option Value->Shared->Prop}(hT:s.TypeIs (.ref z) "zip")(h:wpAny (model prog w) A.in1 (Builtin.«zip.__next__» ⟨[.ref z],[]⟩) (λ_ _=>False) (λe s'=>∃a o,e=.ref a/\s'.heap.get? a=some o/\o.cls=.type "StopIteration" /\ Q none s') s):wpAny (model prog w) A (pyNext (.ref z)) Q E s:=by unfold pyNext;refine aq (wpAny_attempt (wpAny_callSpecial?_slot (name:=Str.ofString "__next__") hT F.slot_zip_next (wpAny_call_entry F.slot_zip_next hT F.entry_zip_next (wpAny_mono h (λ_ _ h'=>h'.elim) λe s' h'=>?_) (F.args_zip_next_1 _))));obtain⟨a,o,rfl,ho,hc,q⟩:=h';refine aq (wpAny_isInstance (T := "StopIteration") (b:=true) ⟨o,ho,hc⟩ isSubtype_stop ?_);exact aL q
end
section
variable {prog:Program}{w:World}{A:Around}{E:Value->Shared->Prop}{s:Shared}{t1 t2:Bool}{l1 l2:Addr}{xs ys:Array Value}
abbrev XN(t1:Bool)(h:Heap)(l1:Addr):Heap:=h.push (nP t1 l1)
abbrev XO(t1 t2:Bool)(h:Heap)(l1 l2:Addr):Heap:=(XN t1 h l1).push (nP t2 l2)
abbrev XQ(t1 t2:Bool)(h:Heap)(l1 l2:Addr):Heap:=(XO t1 t2 h l1 l2).push { cls:=.type "tuple", data:=.seq #[.ref h.objs.size,.ref (XN t1 h l1).objs.size] }
abbrev XR(t1 t2:Bool)(h:Heap)(l1 l2:Addr):Heap:=(XQ t1 t2 h l1 l2).push { cls:=.type "tuple", data:=.seq #[.none,.none] }
abbrev QJ(t1 t2:Bool)(h:Heap)(l1 l2:Addr):Heap:=(XR t1 t2 h l1 l2).push { cls:=.type "zip", data:=.fields #[.none,.bool false,.bool false,.ref (XO t1 t2 h l1 l2).objs.size,.ref (XQ t1 t2 h l1 l2).objs.size] }
def EV(t1 t2:Bool)(l1 l2:Addr)(xs ys:Array Value):
  Meets (Builtin.«zip.__new__» ⟨[.type "zip", .ref l1,.ref l2],[]⟩) (λ_ R s=>Src t1 s.heap l1 xs/\Src t2 s.heap l2 ys /\
   R (.ok (.ret (.ref (XR t1 t2 s.heap l1 l2).objs.size))) { s with heap:=QJ t1 t2 s.heap l1 l2 }) :=
 .of_wp λprog w A R s h=>by
  obtain⟨hp,g,d,tk,os⟩:=s;obtain⟨hl1,hl2,h⟩:=h;have hsub:=sub_zip;have QK:Src t1 (Shared.heap ⟨hp,g,d,tk,os⟩) l1 xs:=hl1;have N7:Src t2 (Shared.heap ⟨hp.push (nP t1 l1),g,d,tk,os⟩) l2 ys:=Src.push hl2 _
  wp_walk using CW QK,CW N7
  exact⟨_,rfl,h⟩
def HE(hl1:Src t1 s.heap l1 xs)(hl2:Src t2 s.heap l2 ys)
  (h:∀h',ZO h' (s.heap.objs.size+4) (s.heap.objs.size+2) (s.heap.objs.size+3) .none false->Zs t1 t2 (s.heap.objs.size+2) (s.heap.objs.size+3) s.heap.objs.size (s.heap.objs.size+1) l1 l2 0 h' ->
   h'.objs.size=s.heap.objs.size+5->(∀c o,s.heap.get? c=some o->h'.get? c=some o)->Q (.ref (s.heap.objs.size+4)) { s with heap:=h' }):
  wpAny (model prog w) A (call (.type "zip") [.ref l1,.ref l2]) Q E s:=by
 refine callType_new F.called_zip (by decide) (F.typeCall_zip_2 _ _) (F.newCall_zip_2 _ _) (λobj=>F.args_object_init_3 obj _ _) F.entry_zip_new
  (EV t1 t2 l1 l2 xs ys) ⟨hl1,hl2,?_⟩
 have z1:(XN t1 s.heap l1).objs.size=s.heap.objs.size+1:=fE ..;have z2:(XO t1 t2 s.heap l1 l2).objs.size=s.heap.objs.size+2:=by rw[fE,z1]
 have z3:(XQ t1 t2 s.heap l1 l2).objs.size=s.heap.objs.size+3:=by rw[fE,z2]
 have z4:(XR t1 t2 s.heap l1 l2).objs.size=s.heap.objs.size+4:=by rw[fE,z3]
 have z5:(QJ t1 t2 s.heap l1 l2).objs.size=s.heap.objs.size+5:=by rw[fE,z4]
 have g5:(QJ t1 t2 s.heap l1 l2).get? (XR t1 t2 s.heap l1 l2).objs.size=some _:=iC _ rfl;have g4:(QJ t1 t2 s.heap l1 l2).get? (XQ t1 t2 s.heap l1 l2).objs.size=some _:=c8 _ (iC _ rfl);have g3:(QJ t1 t2 s.heap l1 l2).get? (XO t1 t2 s.heap l1 l2).objs.size=some _:=c8 _ (c8 _ (iC _ rfl));have r2:(nP t2 l2).isFreed=false:=by cases t2<;>rfl
 have r1:(nP t1 l1).isFreed=false:=by cases t1<;>rfl
 have g2:(QJ t1 t2 s.heap l1 l2).get? (XN t1 s.heap l1).objs.size=some (nP t2 l2):=c8 _ (c8 _ (c8 _ (iC _ r2)));have g1:(QJ t1 t2 s.heap l1 l2).get? s.heap.objs.size=some (nP t1 l1):=c8 _ (c8 _ (c8 _ (c8 _ (iC _ r1))));show _/\_;rw[z2,z3,z4] at g5;rw[z1,z2] at g3;rw[z3] at g4;rw[z1] at g2;rw[z4];exact⟨⟨_,g5,rfl⟩,h _ g5 ⟨g3,⟨_,_,g4⟩,mJ.new g1,mJ.new g2⟩ z5 λc o x =>
  c8 _ (c8 _ (c8 _ (c8 _ (c8 _ x))))⟩
end
section
variable {prog:Program}{w:World}{A:Around}{E:Value->Shared->Prop}{s:Shared}{I:Addr}{T:String}{St:Heap->Prop}
end
end ZP
def BT.Vi:PySem.bootBuiltins "zip" = some (.type "zip"):=by decide +kernel
namespace L2
open PySem PySem.Spec PyProof.Rows
variable {b a p:Addr}{xs:List V}{R:Option Int->Hp->Prop}{i:Int}{scope:Scope}{cl:List (Str×Addr)}{fr:List Str}{ix:List Nat}{v:V}{tt:TT}
section
variable {X:Cx}{pins:List (Addr×Obj)}{σ:St}{H:Hp}{s:Shared}{h':Heap}
def Inv.qI{t':Nat}{fp:List Addr}(I:Inv X pins σ H s)(k:∀b o,b∉fp->s.heap.get? b=some o->h'.get? b=some o)(hf:∀b∈fp,iF X pins H b):Inv X pins σ H { s with heap:=h',toks:=t' }:=by
 have TN:∀b u,H b=some u->b∉fp:=λb u e z=>by rw[(hf b z).1] at e;cases e
 refine I.step (g':=s.gens) (d':=s.drawn) (ch:=fp) (λb hb=>?_) (λb o _ _ hc e _=>k b o hc e) (λb o _ _ hc e _=>⟨o.slots,k b o hc e⟩) (λ_ _ _ _ n=>n)
  (λb o hc e=>⟨o,k b o hc e⟩) (λ_ _ e=>e) (λ_ _ _ e=>e) (λb ps e=>⟨#[],by rw[e];simp⟩) (λm hm=>?_) (λb u e=>?_) I.bare
 .exact⟨(hf b hb).2.2.2.1,(hf b hb).2.1,(hf b hb).2.2.2.2.1,(hf b hb).2.2.2.2.2⟩
 .obtain⟨o,es,ep,ho,r⟩:=hm;exact⟨o,es,ep,k _ o (λz=>(hf _ z).2.1 rfl) ho,r⟩
 .sleep 118
theorem iF.upd{T:Addr}{o:HO}(f:iF X pins H b)(h:b≠T):iF X pins (L2.upd H T o) b:=⟨by rw[ck h];exact f.1,f.2⟩
def EW(t:Bool)(K:aD)(H:Hp)(a:Addr)(xs:List V):Prop:=match t with
 | true=>cM K H a xs
 | false=>bE K H a xs
def aB.ZV{K:aD}{H H':Hp}(e:aB H H')(h:cM K H a xs):cM K H' a xs:=by sleep 148
def Inv.src{t:Bool}(I:Inv X pins σ H s)(h:EW t X.K H a xs):∃its:List Value,Vals xs its/\ZP.Src t s.heap a its.toArray/\xs.length<=sizeLine:=by
 cases t
 .obtain⟨its,r,pl,z⟩:=I.list h;exact⟨its,r,pl.isList,z⟩
 .obtain⟨its,r,pl,z⟩:=I.tuple h;exact⟨its,r,pl,z⟩
def bR(H:Hp)(ps:List Addr)(xs ys:List V)(i:Nat):Prop:=ps.length=i/\∀(j:Nat)(p:Addr),ps[j]?=some p->∃x y,xs[j]?=some x/\ys[j]?=some y/\H p=some (.tup [x,y])
def sE:jS X (binaryOp .FloorDiv) (rI (λ_ j=>0<j/\j<18446744073709551616) λi j=>.int (i / j)):=Ua λi j _ _ _ _ _ hc q=>by have h1:(0:Int)<j:=hc.1;have h2:j<18446744073709551616:=hc.2;refine floordiv_int (by omega) (by rw[Int.fdiv_eq_ediv_of_nonneg i (by omega)];exact q) (.inl (PyProof.noPylong_of_log2 ?_));have h3:j.natAbs.log2<64:=(Nat.log2_lt (by omega)).mpr (by omega);omega
end
section
variable {K:aD}{nx bk ct:St->Hp->Prop}{rt:VK}{σ:St}{H:Hp}{Q:VK}{te:TE}{t u:TS}
def N8(R:Option Int->Hp->Prop):V->Hp->Prop:=λx H=>∃i,x=.int i/\R (some i) H
def QL(h:te σ H (N8 R)):NS te σ H R:=h
def LK(h:R (some i) H):N8 R (.int i) H:=⟨i,rfl,h⟩
def HF(h:R none H):CJ σ H R:=h
end
def EX{α:Type}(P:α->Prop):List α->Prop
 | []=>True
 | a::l=>P a/\EX P l
theorem EX.mem{α:Type}{P:α->Prop}:∀{l:List α},EX P l->∀a∈l,P a
 | [],_,a,h=>nomatch h
 | b::l,hl,a,h=>by
  rcases aI.mp h with e|h
  .rw[e];exact hl.1
  .exact EX.mem hl.2 a h
section
variable {X:Cx}
def bD.caps{x:Str}{nm:List Str}(calm:X.calm=true)(clos:closureFor scope X.env=pure cl)(cell:∀y∈scope.names,y.2≠.cell)(kind:scope.kind=.function)
  (names:∀y∈scope.names,y.2=.local->scope.names.lookup y.1=some .local)(loc:scope.names.lookup x=some .local)(nd:(x::fr).Nodup)
  (hcl:EX (λp=>X.env.cells.lookup p.1=some p.2) cl)(hnm:cl.map (·.1)=nm)(hfree:∀z∈scope.names,z.2=.free->z.1∈nm)(hlen:fr.length=ix.length)
  (hfx:EX (λp=>X.N[p.2]?=some p.1/\X.env.kindOf p.1=some .cell/\(relabel scope X.env).names.lookup p.1=some .cell) (fr.zip ix)):bD X scope cl x fr ix where
 calm:=calm
 clos:=clos
 cell:=cell
 kind:=kind
 names:=names
 loc:=loc
 nd:=nd
 Td:=λy c h=>hcl.mem (y,c) (jt h)
 NZ:=λy h=>by
  sleep 41;have key:∃z∈scope.names,z.1=y/\z.2=.free:=by
   rcases h with h|h
   .obtain⟨z,hz,e⟩:=mem h;refine⟨z,hz,?_⟩;by_cases hf:(z.2==NameKind.free)=true
    .refine⟨?_,by cases hk:z.2<;>rw[hk] at hf<;>first|rfl|cases hf⟩;split at e
     .exact congrArg Prod.fst e
     .exact congrArg Prod.fst e
    .exfalso;rw[Bool.not_eq_true] at hf;rw[hf,rG,rG,if_neg jT] at e;exact cell z hz (congrArg Prod.snd e)
   .obtain⟨z,hz,e⟩:=mem h;refine⟨z,hz,?_⟩;split at e
    .exact absurd (congrArg Prod.snd e) (by intro q;cases q)
    .exact⟨congrArg Prod.fst e,congrArg Prod.snd e⟩
  obtain⟨z,hz,rfl,hk⟩:=key;have hm:=hfree z hz hk;rw[<- hnm] at hm;obtain⟨p,hp,e⟩:=aF.mp hm;cases q:cl.lookup z.1 with
  | some c=>exact⟨c,rfl⟩
  | none =>
   exfalso;have:=List.lookup_eq_none_iff.mp q p hp;rw[e] at this;simp at this
 fx:=λj y h=>by
  have hj:j<fr.length:=(fq h).1;have hi:ix[j]?=some (ix[j]'(by omega)):=by simp
  have hz:(y,ix[j]'(by omega))∈fr.zip ix:=fz (i:=j) (by rw[pG];exact⟨h,hi⟩);obtain⟨a,b,c⟩:=hfx.mem _ hz;exact⟨_,hi,a,.inl b,.inl c⟩
 len:=hlen
end
section
variable {X:Cx}{K:aD}{nx bk ct:St->Hp->Prop}{rt:VK}{σ:St}{H:Hp}{Q:VK}{P:Bool->Hp->Prop}{te ta tb:TE}{t u:TS}
def LL:R2:=λx y H Q=>y=.cX/\Q (.bl (decide (x=.cX))) H
def HG:R2:=λx y H Q=>y=.cX/\Q (.bl (!decide (x=.cX))) H
def CY:jS X (compareOp .Is) LL:=PJ
def yy:jS X (compareOp .IsNot) HG:=Lj
def QM(h:Q (.bl true) H):LL .cX .cX H Q:=⟨rfl,h⟩
def QN(h:Q (.bl false) H):LL (.ref a) .cX H Q:=⟨rfl,h⟩
def QO(h:Q (.bl false) H):LL (.int i) .cX H Q:=⟨rfl,h⟩
def LM(h:Q (.bl false) H):HG .cX .cX H Q:=⟨rfl,h⟩
def LN(h:Q (.bl true) H):HG (.int i) .cX H Q:=⟨rfl,h⟩
def HH(K:aD):List V->Hp->VK->Prop:=λxs H Q=>∃p ys,xs=[.ref p]/\((bE K H p ys/\∀l,H l=none->Q (.ref l) (upd H l (.tup ys)))\/(cM K H p ys/\Q (.ref p) H))
def u9:di X (.type "tuple") (HH X.K):=uA
def QS{ys:List V}(hS:bE K H p ys)(h:∀l H',eU H l (.tup ys) H'->Q (.ref l) H'):HH K [.ref p] H Q:=⟨p,ys,rfl,.inl ⟨hS,λl hl=>h l _ ⟨hl,rfl⟩⟩⟩
def QT{n:Nat}{gs:EC}{R:St->Hp->Prop}(hS:bE K H a xs)(hn:xs.length=n)(h:gs xs σ H R):UJ K n gs (.ref a) σ H R:=⟨a,xs,rfl,hS,hn,h⟩
def Vj{l:Addr}{zs:List V}(h1:H l=some (.lst xs))(h2:H b=some (.lst zs))(hz:xs.length+zs.length<=1000000)(h:∀p H',eU H p (.lst (xs++zs)) H'->Q (.ref p) H'):Uv (.ref l) (.ref b) H Q :=
 ⟨l,b,xs,zs,rfl,rfl,h1,h2,bJ hz (by decide),λp hp=>h p _ ⟨hp,rfl⟩⟩
def HJ{l:Addr}{zs:List V}(h1:H l=some (.lst xs))(h2:H b=some (.lst zs))(hz:xs.length+zs.length<=1000000)(h:∀H',nj H l (.lst (xs++zs)) H'->Q .cX H'):CM (.ref l) [.ref b] H Q :=
 ⟨l,b,xs,zs,rfl,rfl,h1,h2,bJ hz (by decide),h _ rfl⟩
def Vk(K:aD)(P:Bool->Hp->Prop):VK:=λx H=>∃k,Ll K x H k/\P k H
def Vl(K:aD)(ta:TE):TT:=λσ H Q=>ta σ H λx H'=>∃k,Ll K x H' k/\Q k H'
def vc{a:Expr}(ha:PE X a ta)(he:∀whole,isTrue a X.env whole=(do let v <- whole;standAt a.pos;holding [v] (truthy v))):PT X a (Vl X.K ta):=GR ha he
def Vm(h:ta σ H (Vk K P)):Vl K ta σ H P:=h
def QU(hS:bE K H p xs)(h:P (!xs.isEmpty) H):Vk K P (.ref p) H:=⟨_,.inl ⟨xs,hS,rfl⟩,h⟩
def ZW{r:V->Option Int->Option Int->Hp->VK->Prop}{tl th:TO}(h:te σ H λx H1=>tl σ H1 λl H2=>th σ H2 λu H3=>r x l u H3 Q):tSl r te tl th σ H Q:=h
def Vn{lo hi:Option Int}(hS:bE K H a xs)(h:∀p H',eU H p (.lst (iO xs lo hi)) H'->Q (.ref p) H'):Uq K (.ref a) lo hi H Q:=⟨a,xs,rfl,hS,λp hp=>h p _ ⟨hp,rfl⟩⟩
def QV{i:Nat}(e:σ[i]?=some (some v))(h:Q v H):mF i σ H Q:=⟨v,e,h⟩
def QW{i:Nat}(h:te σ H λv H1=>iw i v σ H1 nx):Ht te i ⟨nx,rt,bk,ct⟩ σ H:=h
def N9{c:TT}(Jt Jf:Hp->Prop)(h:c σ H λb H1=>if b=true then Jt H1 else Jf H1)(h1:∀H1,Jt H1->t ⟨nx,rt,bk,ct⟩ σ H1)(h2:∀H1,Jf H1->u ⟨nx,rt,bk,ct⟩ σ H1):UC c t u ⟨nx,rt,bk,ct⟩ σ H:=⟨Jt,Jf,h,h1,h2⟩
def QX{to ti:TE}{ts:Lf}{R:St->Hp->Prop}(h:to σ H λo H1=>ti σ H1 λi H2=>ts o i v H2 λH3=>R σ H3):T4 to ti ts v σ H R:=h
def jM{k:Int}{j:Nat}{R:Hp->Prop}(hl:H p=some (.lst xs))(hj:EM xs.length k=some j)(h:∀H',nj H p (.lst (xs.set j v)) H'->R H'):NT (.ref p) (.int k) v H R:=⟨p,xs,k,j,rfl,rfl,hl,hj,h _ rfl⟩
def yz(x y:Str):(x++y).length=x.length+y.length:=by show(x.cps++y.cps).size=x.cps.size+y.cps.size;simp
def HK(h:P true H):Lw σ H P:=h
def Bp(J:It)(tt:TT)(te:TE)(τ:St)(Q:VK)(H:Hp):Prop:=∃W:Nat->Nat->List V->Hp->Prop,(∃m,W 0 m [] H)/\∀i m ys H,W i m ys H ->
 (J.stop i H/\∀p,H p=none->Q (.ref p) (upd H p (.lst ys)))\/(J.go i H/\ys.length<sizeLine/\∃N:List V->Hp->Prop,(∀ys' H',N ys' H'->∃m',m'<m/\W (i+1) m' ys' H') /\
  ∀v H',J.Gx i H v H'->tt (some v::τ) H' λb H3=>if b=true then te (some v::τ) H3 λy H4=>N (ys++[y]) H4 else N ys H3)
def QY{wi:TI}(h:wi σ H λJ H1=>Bp J tt te (cut ix σ) Q H1):Hs wi tt te ix σ H Q:=h
def ia{lo:Int}{n:Nat}{τ:St}(Pv:Nat->List V->Hp->Prop)(h0:Pv 0 [] H)
  (hs:∀i ys H,i<n->Pv i ys H->ys.length<sizeLine/\tt (some (.int (lo+i))::τ) H λb H3=>if b=true then te (some (.int (lo+i))::τ) H3 λy H4=>Pv (i+1) (ys++[y]) H4 else Pv (i+1) ys H3)
  (hd:∀ys H,Pv n ys H->∀p H',eU H p (.lst ys) H'->Q (.ref p) H'):Bp (mJ lo n) tt te τ Q H:=by
 refine⟨λi m ys H=>m=n-i/\i<=n/\Pv i ys H,⟨n,by simp,aH _,h0⟩,?_⟩;rintro i m ys H ⟨rfl,hi,p⟩;by_cases hlt:i<n
 .obtain⟨hz,q⟩:=hs i ys H hlt p;refine .inr ⟨hlt,hz,Pv (i+1),λσ' H' p'=>⟨n-(i+1),by omega,rfl,hlt,p'⟩,λx H' y=>?_⟩;obtain⟨e,y⟩:=y;subst e y;exact q
 .have e:i=n:=by omega
  subst e;exact .inl ⟨az _,λq hq=>hd ys H p q _ ⟨hq,rfl⟩⟩
def gH{τ:St}(Pv:Nat->List V->Hp->Prop)(h0:Pv 0 [] H)(hl:∀i ys H,i<=xs.length->Pv i ys H->bE K H a xs)
  (hs:∀i x ys H,xs[i]?=some x->Pv i ys H->ys.length<sizeLine/\tt (some x::τ) H λb H3=>if b=true then te (some x::τ) H3 λy H4=>Pv (i+1) (ys++[y]) H4 else Pv (i+1) ys H3)
  (hd:∀ys H,Pv xs.length ys H->∀p H',eU H p (.lst ys) H'->Q (.ref p) H'):Bp (KS K a) tt te τ Q H:=by sleep 14
end
structure iR (X:Cx) (scope:Scope) (cl:List (Str×Addr)) (xs fr:List Str) (ix:List Nat):Prop where
 calm:X.calm=true
 clos:closureFor scope X.env=pure cl
 cell:∀y∈scope.names,y.2≠.cell
 kind:scope.kind=.function
 names:∀y∈scope.names,y.2=.local->scope.names.lookup y.1=some .local
 nd:(xs++fr).Nodup
 Td:∀y c,cl.lookup y=some c->X.env.cells.lookup y=some c
 NZ:∀y,((relabel scope X.env).names.lookup y=some .cell\/(relabel scope X.env).names.lookup y=some .free)->∃c,cl.lookup y=some c
 fx:∀(j:Nat) y,fr[j]?=some y->∃i:Nat,ix[j]?=some i/\X.N[i]?=some y/\(X.env.kindOf y=some .cell\/X.env.kindOf y=some .free)/\((relabel scope X.env).names.lookup y=some .cell\/(relabel scope X.env).names.lookup y=some .free)
 len:fr.length=ix.length
section
variable {X:Cx}{pins:List (Addr×Obj)}{σ:St}{H:Hp}{s:Shared}
def iR.of{x:Str}{xs:List Str}(O:bD X scope cl x fr ix)(nd:(xs++fr).Nodup):iR X scope cl xs fr ix:=⟨O.calm,O.clos,O.cell,O.kind,O.names,nd,O.Td,O.NZ,O.fx,O.len⟩
def qk{elt iter tg:Expr}{xs:List Str}{g:TG}{ifs:List Expr}{pos:Pos}{te:TE}{E:Value->Shared->Prop}{RR:Value->Addr->Result->Shared->Prop}
  (O:iR X scope cl xs fr ix)(hg:∀C fp s H,PG (mK X (xs++fr) scope cl C fp s H) tg g)(ht:∀C fp s H,PF (mK X (xs++fr) scope cl C fp s H) ifs tt)(he:∀C fp s H,PE (mK X (xs++fr) scope cl C fp s H) elt te)
  {it:Addr}{fp:List Addr}{tn:Nat->Heap->Prop}{J:It}{H2:Hp}{s2:Shared}(I2:Inv X pins σ H2 s2)(T:Turn X.prog X.w X.K tg J fp it tn)(st2:tn 0 s2.heap)(f2:∀b∈fp,iF X pins H2 b)
  (Z:List V->Hp->Prop)(W:Nat->Nat->List V->St->Hp->Prop)(m0:Nat)(w0:W 0 m0 [] (List.replicate xs.length none++cut ix σ) H2)
  (turn:∀i m ys τ H,W i m ys τ H->(J.stop i H/\Z ys H)\/(J.go i H/\ys.length<sizeLine/\∃N:List V->St->Hp->Prop,(∀ys' τ' H',N ys' τ' H'->∃m',m'<m/\W (i+1) m' ys' τ' H') /\
   ∀v H',J.Gx i H v H'->g v τ H' λτ2 H2=>tt τ2 H2 λb H3=>if b=true then te τ2 H3 λy H4=>N (ys++[y]) τ2 H4 else N ys τ2 H3))
  (hRR:∀D C s' ys H',Inv X pins σ (upd H' D (.lst ys)) s'->(∃m,s'.heap.Ns C m)->iF X pins (upd H' D (.lst ys)) C->H' D=none->Z ys H'->RR (.ref D) C (.ok .next) s'):
  wpAny (model X.prog X.w) X.A (newList []) (λacc s₃=>wpAny (model X.prog X.w) X.A (newFunctionEnv scope X.env.globals cl [] X.env.qual none .none (some X.env)) (λcenv s₄ =>
   codeAny (model X.prog X.w) X.A (.compStart (.ListComp elt [⟨tg,iter,ifs,0⟩] scope pos) 0 (.ref it) acc { cenv with scope:=relabel scope X.env }) (RR acc cenv.locals) s₄) E s₃) E s2:=by
 sleep 1;have ok:(mK X (xs++fr) scope cl G.objs.size fp s2 H2).Ok:=by sleep 17
 sleep 95;have Ic:Inv (mK X (xs++fr) scope cl G.objs.size fp s2 H2) [(s2.heap.objs.size,{ cls:=.type "list", data:=.seq ([]:List Value).toArray })] (List.replicate xs.length none++cut ix σ) H2 { s2 with heap:=h₁,toks:=s2.toks+([]:List (Str×Value)).length }:=by
  refine⟨ok,rfl,I2.bare,Un.kept old,⟨_,Bh,λi y v h1 h2 h3=>?_⟩,λy c e=>?_,UE,λy c e=>I2.kO y c (fJ y c e),λp hp=>?_,I2.hok.kept old,?_⟩
  .have hk:xs.length<=i:=by
    rcases aY i xs.length with q|q
    .rw[i6 (by simpa using q),List.getElem?_replicate,if_pos q] at h2;cases h2
    .exact q
   .obtain⟨j,rfl⟩:∃j,i=xs.length+j:=⟨i-xs.length,by omega⟩;have h1:fr[j]?=some y:=by
     have h1:(xs++fr)[xs.length+j]?=some y:=h1
     rwa [iD (by omega),Nat.add_sub_cancel_left] at h1
    have h2:(cut ix σ)[j]?=some (some v):=by
     rwa [iD (by simp),List.length_replicate,Nat.add_sub_cancel_left] at h2
    sleep 10
  .sleep 207
  .sleep 84
  .show(List.replicate xs.length none++cut ix σ).length=(xs++fr).length;unfold cut;simp[O.len]
 sleep 228;have r6:∀{pl:List (Addr×Obj)}{H':Hp},(∀p∈pl,p.1=s2.heap.objs.size)->(∀b∈fp,H' b=none)->∀b∈fp,iF (mK X (xs++fr) scope cl G.objs.size fp s2 H2) pl H' b:=λ{pl H'} hp hn b hb =>
  ⟨hn b hb,(below b (Bk b hb)).1,λhs=>ok.EA b hb hs,.inl hb,λy c e=>(f2 b hb).2.2.2.2.1 y c (fJ y c e),λp UH z=>Bl b hb (z.symm.trans (hp p UH))⟩
 sleep 153;have loop:codeAny (model X.prog X.w) X.A (.compLoop (.ListComp elt [⟨tg,iter,ifs,0⟩] scope pos) 0 (.ref it) (.ref s2.heap.objs.size) (compEnvC scope cl G.objs.size X.env)) (RR (.ref s2.heap.objs.size) G.objs.size)
   { s2 with heap:=h₁,toks:=s2.toks+([]:List (Str×Value)).length }:=by
  refine nN (λn s'=>∃(i:Nat)(ys:List V)(its:List Value)(c:Nat)(τ:St)(H':Hp),Inv (mK X (xs++fr) scope cl G.objs.size fp s2 H2) [(s2.heap.objs.size,{ cls:=.type "list", data:=.seq its.toArray c })] τ H' s'/\tn i s'.heap/\(∀b∈fp,H' b=none)/\Vals ys its/\ys.length<=sizeLine/\W i n ys τ H') ?_ m0
   ⟨0,[],[],0,_,H2,Ic,T.keep _ _ _ st2 (λb _ o e=>old b o e),λb hb=>(f2 b hb).1,.nil,aH _,w0⟩
  rintro n s3 ⟨i,ys,its,c,τ,H3,I3,st3,NO,rv,hl3,w3⟩;rcases turn i n ys τ H3 w3 with⟨stop,zz⟩|⟨go,hlt,N,hN,step⟩
  .refine wpAny_mono (T.done (mK X (xs++fr) scope cl G.objs.size fp s2 H2) rfl rfl rfl O.calm i _ s3 _ H3 _ I3 (r6 one NO) st3 stop) (λr s4 h4=>?_) λ_ _ e=>e;sleep 32
  .refine wpAny_mono (T.item (mK X (xs++fr) scope cl G.objs.size fp s2 H2) rfl rfl rfl O.calm i _ s3 _ H3 _ I3 (r6 one NO) st3 go) (λr s4 h4=>?_) λ_ _ e=>e;sleep 81;refine wpAny_mono (hg _ _ _ _ _ s5 τ H5 v u _ T9 r5 (step v H5 y5)) (λ_ s6 h6=>?_) λ_ _ f=>False.elim f;obtain⟨τ2,H6,I6,q6⟩:=h6;refine wpAny_mono (ht _ _ _ _ _ s6 _ H6 _ I6 q6) (λok s7 h7=>?_) λ_ _ f=>False.elim f;obtain⟨H7,I7,q7⟩:=h7;cases ok with
   | true =>
    sleep 42;obtain⟨m',hm,w9⟩:=hN _ _ _ n8;have Ia:Inv (mK X (xs++fr) scope cl G.objs.size fp s2 H2) (lz fp s5.heap) τ2 H8 s8:=I8.lY λp hp=>I8.pin p (cA _ (cA _ hp));sleep 48;refine⟨m',hm,i+1,ys++[y],its++[uy],c+1,τ2,H8,Ib.lY λp hp=>?_,T.keep _ _ _ A7 λb hb o e=>?_,λb hb=>?_,rv.append (.cons r8 .nil),by rw[aR,jI];omega,w9⟩
    .sleep 75
    .sleep 245
    .sleep 183
   | false =>
    rw[if_neg jT] at q7 ⊢;obtain⟨m',hm,w9⟩:=hN _ _ _ q7;refine⟨m',hm,i+1,ys,its,c,τ2,H7,I7.lA,T.keep _ _ _ A7 λb hb o e=>?_,λb hb=>?_,rv,hl3,w9⟩
    .exact(I7.pin (b,o) (cA _ (cA _ (dZ hb e)))).1
    .sleep 93
 sleep 180
def Bq(wi:TI)(g:TG)(tt:TT)(te:TE)(ix:List Nat)(k:Nat):TE:=λσ H Q=>wi σ H λJ H1=>∃W:Nat->Nat->List V->St->Hp->Prop,(∃m,W 0 m [] (List.replicate k none++cut ix σ) H1)/\∀i m ys τ H,W i m ys τ H ->
 (J.stop i H/\∀p,H p=none->Q (.ref p) (upd H p (.lst ys)))\/(J.go i H/\ys.length<sizeLine/\∃N:List V->St->Hp->Prop,(∀ys' τ' H',N ys' τ' H'->∃m',m'<m/\W (i+1) m' ys' τ' H') /\
  ∀v H',J.Gx i H v H'->g v τ H' λτ2 H2=>tt τ2 H2 λb H3=>if b=true then te τ2 H3 λy H4=>N (ys++[y]) τ2 H4 else N ys τ2 H3)
def yC{elt iter tg:Expr}{xs:List Str}{g:TG}{ifs:List Expr}{pos:Pos}{wi:TI}{te:TE}(O:iR X scope cl xs fr ix)(hi:PI X tg iter wi)(hg:∀C fp s H,PG (mK X (xs++fr) scope cl C fp s H) tg g)
  (ht:∀C fp s H,PF (mK X (xs++fr) scope cl C fp s H) ifs tt)(he:∀C fp s H,PE (mK X (xs++fr) scope cl C fp s H) elt te)
  (hs:∀v,foldedSetIterable iter X.env v=pure v:=by intro _;rfl):PE X (.ListComp elt [⟨tg,iter,ifs,0⟩] scope pos) (Bq wi g tt te ix xs.length):=by sleep 31;sleep 112;sleep 51;refine qk O hg ht he I2 T st2 f2 (λys H=>∀p,H p=none->Q (.ref p) (upd H p (.lst ys))) W m0 w0 turn λD C s' ys H' I' hm fC hD z=>?_;sleep 73
end
end L2
def BT.yD:PySem.bootBuiltins "enumerate" = some (.type "enumerate"):=by decide +kernel
namespace L2
open PySem PySem.Spec PyProof.Rows
variable {w:World}{K:aD}{es:List Expr}{k n:Nat}{pos:Pos}{t1 t2:Bool}{xs ys:List V}{a b:Addr}{R:It->Hp->Prop}{g:TG}{tt:TT}
def Vo(K:aD)(t1 t2:Bool)(l1 l2:Addr)(xs ys:List V):It :=
 ⟨λi H=>EW t1 K H l1 xs/\EW t2 K H l2 ys/\i<min xs.length ys.length,
  λi H v H'=>∃p x y,xs[i]?=some x/\ys[i]?=some y/\v=.ref p/\eU H p (.tup [x,y]) H',
  λi H=>EW t1 K H l1 xs/\EW t2 K H l2 ys/\min xs.length ys.length<=i⟩
def HL{P:Program}{z TI TO i1 i2 l1 l2:Addr}(D:ZipApart z TI TO i1 i2 l1 l2):
  Turn P w K (.Tuple es k pos) (Vo K t1 t2 l1 l2 xs ys) [z,TI,TO,i1,i2] z (λi h=>ZP.ZO h z TI TO .none false/\ZP.Zs t1 t2 TI TO i1 i2 l1 l2 i h) where
 mem:=by simp
 obj:=λi h st b hb=>by
  obtain⟨hz,hs⟩:=st;obtain⟨a,c,hTO⟩:=hs.to;sleep 99;rcases hb with e|e|e|e|e<;>rw[e]
  .exact⟨_,hz,λv q=>by cases q⟩
  .exact⟨_,hs.ti,λv q=>by cases q⟩
  .exact⟨_,hTO,λv q=>by cases q⟩
  .obtain⟨o,e1,vs,d⟩:=hs.a1.here;sleep 197
  .obtain⟨o,e1,vs,d⟩:=hs.a2.here;sleep 197
 keep:=λi h h' st kk=>⟨kk z (by simp) _ st.1,st.2.keep λb hb o e=>kk b (by rcases hb with q|q|q|q<;>simp[q]) o e⟩
 item:=by
  sleep 16;obtain⟨q1,q2,hlt⟩:=hg;sleep 229;have hx:xs[i]?=some (xs[i]'(by omega)):=by simp
  have hy:ys[i]?=some (ys[i]'(by omega)):=by simp
  generalize xs[i]'(by omega)=x at hx;generalize ys[i]'(by omega)=y at hy;obtain⟨u,hu,ru⟩:=v1.get hx;obtain⟨v,hv,rv⟩:=v2.get hy;obtain⟨hz,hs⟩:=st;refine ZP.LJ ⟨_,hz,rfl⟩ (ZP.HC (Q:=λr s'=>r=.ref s.heap.objs.size/\∃h',s'={ s with heap:=h' }/\ZP.ZO h' z TI TO (rawInt s.heap.objs.size) false/\ZP.Zs t1 t2 TI TO i1 i2 l1 l2 (i+1) h'/\IsPair h' s.heap.objs.size u v/\ZP.Rest z TO i1 i2 s.heap h')
   D hz hs EY EZ (by simpa using hu) (by simpa using hv) λh' a1 a2 a3 _ a5=>⟨rfl,h',rfl,a1,a2,a3,a5⟩) λr s' q=>?_
  obtain⟨rfl,h',rfl,hz',st',UH,hr⟩:=q;refine⟨_,rfl,wpAny_letOwnedTupleGo_zip hz' λh2 hz2 hs2=>?_⟩;have hTl:z≠s.heap.objs.size:=aQ (aK hz);have hr2:∀b o,b∉[z,TO,i1,i2]->s.heap.get? b=some o->h2.get? b=some o:=λb o hb e =>
   hs2.extBut b o (λq=>hb (by simp[q])) (hr b o (λq=>hb (by simp[q])) (λq=>hb (by simp[q])) (λq=>hb (by simp[q])) (λq=>hb (by simp[q])) e)
  have I1:Inv X pins σ H { s with heap:=h2,toks:=s.toks }:=I.qI (fp:=[z,TO,i1,i2]) hr2 λb hb=>hf b (by
   simp only[aI,fX,or_false] at hb ⊢;rcases hb with h|h|h|h<;>simp[h])
  have hfr:H s.heap.objs.size=none:=I.hok.fresh (az _);have I2:=I1.uZ (I.nI (az _) hfr) (o:=.tup [x,y]) ⟨by show 2<=sizeLine;decide,[u,v],.cons ru (.cons rv .nil),⟨_,hs2.extBut _ _ (bu hTl) UH,rfl,_,rfl⟩⟩;obtain⟨a,c,hTO⟩:=st'.to;refine⟨.ref s.heap.objs.size,_,I2,rfl,⟨_,x,y,hx,hy,rfl,hfr,rfl⟩,⟨hz2,st'.keep λb hb o e=>hs2.extBut b o ?_ e⟩,λb hb=>?_⟩
  .rcases hb with q|q|q|q<;>rw[q]
   .exact D.TIz
   .exact D.TOz
   .exact D.i1z
   .exact D.i2z
  .rw[ck ?_]
   .exact(hf b hb).1
   .obtain⟨a0,c0,ZX⟩:=hs.to;obtain⟨o1,e1,_⟩:=hs.a1.here;obtain⟨o2,e2,_⟩:=hs.a2.here;have lt:∀{b:Addr}{o:Obj},s.heap.get? b=some o->b≠s.heap.objs.size:=λe=>aQ (aK e);sleep 99;rcases hb with h|h|h|h|h<;>rw[h]
    .exact lt hz
    .exact lt hs.ti
    .exact lt ZX
    .exact lt e1
    .exact lt e2
 done:=by
  sleep 16;obtain⟨q1,q2,hge⟩:=hg;sleep 229;obtain⟨hz,hs⟩:=st;have e1:=v1.length;have e2:=v2.length;refine ZP.QI ⟨_,hz,rfl⟩ (ZP.LI (.inl rfl) (I.ok.hd hc) D hz hs EY EZ ?_ λh' e hr he=>?_)
  .rcases Nat.le_total xs.length ys.length with hle|hle
   .refine .inl ?_;sleep 250
   .refine .inr ?_;sleep 250
  .obtain⟨o,ho,hcl⟩:=he;refine⟨e,o,rfl,ho,hcl,rfl,?_⟩;exact I.qI (t':=s.toks) (fp:=[z,TO,i1,i2]) (λb o hb e=>hr b o (λq=>hb (by simp[q])) (λq=>hb (by simp[q])) (λq=>hb (by simp[q])) (λq=>hb (by simp[q])) e) λb hb=>hf b (by
    simp only[aI,fX,or_false] at hb ⊢;rcases hb with h|h|h|h<;>simp[h])
 self:=λA i s Q E st q=>wpAny_pyIter_zip st.1 q
section
variable {X:Cx}{es:List Expr}{k:Nat}{tpos:Pos}
def QZ(K:aD)(R:It->Hp->Prop):List V->Hp->Prop:=λvs H=>∃t1 t2 a b xs ys,vs=[.ref a,.ref b]/\EW t1 K H a xs/\EW t2 K H b ys/\R (Vo K t1 t2 a b xs ys) H
def Vp(K:aD)(ta:TA):TI:=λσ H R=>ta σ H (QZ K R)
def Br{a b:Expr}{ta:TA}{p:Pos}(hg:Gl X "zip")(hm:X.mg "zip" = none)(ha:PA X [a,b] ta)
  (he:starEach [a,b] X.env=(false,eval a X.env)::starEach [b] X.env:=by rfl)(hpl:(backTo pos (starEach [b] X.env)).any (·.1)=false:=by rfl):PI X (.Tuple es k tpos) (.Call (.Name "zip" p) [a,b] [] pos) (Vp X.K ta):=by
 intro pins s σ H R I h;refine wpAny_Call_Name_kw (jK I hg hm BT.Vi ?_);sleep 204;obtain⟨t1,t2,pa,pb,xs,ys,rfl,hx,hy,q⟩:=q1;obtain⟨u,u',rfl,r1,r2⟩:=vals2 rv;cases r1;cases r2;obtain⟨HN,v1,EY,z1⟩:=I1.src hx;obtain⟨its2,v2,EZ,z2⟩:=I1.src hy;obtain⟨o1,e1⟩:=EY.here;obtain⟨o2,e2⟩:=EZ.here;refine ZP.HE EY EZ λh' hz st hsz hk=>?_;sleep 240;refine wpAny_pyIter_zip hz ⟨_,_,_,_,H1,rfl,I2,HL (zipApart_new (aK e1) (aK e2)),⟨hz,st⟩,λb hb=>?_,q⟩;sleep 167;sleep 99;rcases hb with h|h|h|h|h<;>rw[h]
 .exact m8 _ _
 .exact m8 _ _
 .exact m8 _ _
 .exact az _
 .exact m8 _ _
end
def Vq(K:aD)(l:Addr)(xs:List V):It :=
 ⟨λi H=>bE K H l xs/\i<xs.length,λi H v H'=>∃p x,xs[i]?=some x/\v=.ref p/\eU H p (.tup [.int i,x]) H',λi H=>bE K H l xs/\xs.length<=i⟩
def E1{P:Program}{e it l:Addr}(hei:e≠it):
  Turn P w K (.Tuple es k pos) (Vq K l xs) [e,it] e (λi h=>(∃old,IsEnum h e it i old)/\h.IsListIter it l i) where
 mem:=by simp
 obj:=λi h st b hb=>by
  obtain⟨⟨old,he⟩,o,e1,c,d⟩:=st;sleep 99;rcases hb with q|q<;>rw[q]
  .exact⟨_,he,λv q=>by cases q⟩
  .sleep 197
 keep:=λi h h' st kk=>⟨let⟨old,he⟩:=st.1;⟨old,kk e (by simp) _ he⟩,let⟨o,e1,r⟩:=st.2;⟨o,kk it (by simp) o e1,r⟩⟩
 item:=by
  sleep 16;obtain⟨q1,hlt⟩:=hg;obtain⟨HN,v1,pl,z1⟩:=I.list q1;have hx:xs[i]?=some (xs[i]'(by omega)):=by simp
  generalize xs[i]'(by omega)=x at hx;obtain⟨u,hu,ru⟩:=v1.get hx;obtain⟨⟨old,he⟩,hit⟩:=st;have hT1:e≠s.heap.objs.size:=aQ (aK he);have hT2:it≠s.heap.objs.size:=by obtain⟨o,e1,_⟩:=hit;exact aQ (aK e1)
  refine wpAny_pyNext_enum_item he hit pl.isList (by simpa using hu) hei λh' ho yE hT hsz hk=>⟨_,rfl,?_⟩;refine wpAny_letOwnedTupleGo_enum ho λh2 he2 hs2=>?_;have hfr:H s.heap.objs.size=none:=I.hok.fresh (az _);have I1:Inv X pins σ H { s with heap:=h2,toks:=s.toks+1 }:=I.qI (fp:=[e,it]) (λb o hb e1=>hs2.extBut b o (λq=>hb (by simp[q])) (hk b o (λq=>hb (by simp[q])) (λq=>hb (by simp[q])) e1)) λb hb=>hf b hb;have I2:=I1.uZ (I.nI (az _) hfr) (o:=.tup [.int i,x]) ⟨by show 2<=sizeLine;decide,[.int i s.toks,u],.cons ⟨_,rfl⟩ (.cons ru .nil),⟨_,hs2.extBut _ _ (bu hT1) hT,rfl,_,rfl⟩⟩;refine⟨.ref s.heap.objs.size,_,I2,rfl,⟨_,x,hx,rfl,hfr,rfl⟩,⟨⟨_,by simpa using he2⟩,yE.extBut hs2.extBut (bu hei)⟩,λb hb=>?_⟩;rw[ck ?_]
  .exact(hf b hb).1
  .sleep 99;rcases hb with h|h<;>rw[h]
   .exact hT1
   .exact hT2
 done:=by
  sleep 16;obtain⟨q1,hge⟩:=hg;obtain⟨HN,v1,pl,z1⟩:=I.list q1;obtain⟨⟨old,he⟩,hit⟩:=st;have e1:=v1.length;refine wpAny_pyNext_enum_end (I.ok.hd hc) he hit pl.isList ?_ λh' hx=>⟨rfl,?_⟩
  .sleep 250
  .exact I.qI (t':=s.toks) (fp:=[e,it]) (λb o hb e1=>hx b o (λq=>hb (by simp[q])) e1) λb hb=>hf b hb
 self:=λA i s Q E st q=>let⟨old,he⟩:=st.1;wpAny_pyIter_enum he q
section
variable {X:Cx}{es:List Expr}{k:Nat}{tpos:Pos}
def Q0(K:aD)(R:It->Hp->Prop):List V->Hp->Prop:=λvs H=>∃a xs,vs=[.ref a]/\bE K H a xs/\R (Vq K a xs) H
def Oa(K:aD)(ta:TA):TI:=λσ H R=>ta σ H (Q0 K R)
def kB{a:Expr}{ta:TA}{p:Pos}(hg:Gl X "enumerate")(hm:X.mg "enumerate" = none)(ha:PA X [a] ta)
  (he:starEach [a] X.env=(false,eval a X.env)::starEach [] X.env:=by rfl)(hpl:(backTo pos (starEach [] X.env)).any (·.1)=false:=by rfl):PI X (.Tuple es k tpos) (.Call (.Name "enumerate" p) [a] [] pos) (Oa X.K ta):=by
 intro pins s σ H R I h;refine wpAny_Call_Name_kw (jK I hg hm BT.yD ?_);sleep 204;obtain⟨pa,xs,rfl,hx,q⟩:=q1;obtain⟨u,rfl,r1⟩:=vals1 rv;cases r1;obtain⟨HN,v1,pl,z1⟩:=I1.list hx;refine call_enumerate_list pl.isList λh' hE hI hsz hk=>?_;sleep 240;refine wpAny_pyIter_enum hE ⟨_,_,_,_,H1,rfl,I2,E1 (Nat.succ_ne_self _),⟨⟨_,hE⟩,hI⟩,λb hb=>?_,q⟩;sleep 167;sleep 99;rcases hb with h|h<;>rw[h]
 .exact m8 _ _
 .exact az _
end
section
variable {X:Cx}
end
mutual
inductive RD (K:aD) (H:Hp):V->PyData->Prop
 | cX:RD K H .cX .none
 | bl (b:Bool):RD K H (.bl b) (.bool b)
 | int (i:Int):RD K H (.int i) (.int i)
 | str (x:Str):RD K H (.str x) (.str x)
 | lst {a:Addr} {xs:List V} {ds:List PyData}:bE K H a xs->qJ K H xs ds->RD K H (.ref a) (.list ds)
 | tup {a:Addr} {xs:List V} {ds:List PyData}:cM K H a xs->qJ K H xs ds->RD K H (.ref a) (.tuple ds)
inductive qJ (K:aD) (H:Hp):List V->List PyData->Prop
 | nil:qJ K H [] []
 | cons {x:V} {d:PyData} {xs:List V} {ds:List PyData}:RD K H x d->qJ K H xs ds->qJ K H (x::xs) (d::ds)
end
section
variable {X:Cx}{pins:List (Addr×Obj)}{σ:St}{H:Hp}{s:Shared}
mutual
theorem RD.reads(I:Inv X pins σ H s):∀{x:V}{d:PyData}{u:Value},RD X.K H x d->RelV x u->∃as,Reads s.heap u d as
 | _,_,_,.cX,r=>by cases r;exact⟨[],.none⟩
 | _,_,_,.bl b,r=>by cases r;exact⟨[],.bool b⟩
 | _,_,_,.int i,r=>by obtain⟨t,rfl⟩:=r;exact⟨[],.int i t⟩
 | _,_,_,.str x,r=>by obtain⟨t,rfl⟩:=r;exact⟨[],.str x t⟩
 | _,_,_,.lst h rs,r=>by
  cases r;obtain⟨its,rv,⟨o,n,e,hc,hd,hs⟩,z⟩:=I.list h;obtain⟨as,q⟩:=qJ.reads I rs rv;exact⟨_,.list e hc hs (by simpa using q)⟩
 | _,_,_,.tup h rs,r=>by cases r;obtain⟨its,rv,⟨o,e,hc,n,hs⟩,z⟩:=I.tuple h;obtain⟨as,q⟩:=qJ.reads I rs rv;exact⟨_,.tuple e hc hs (by simpa using q)⟩
theorem qJ.reads(I:Inv X pins σ H s):∀{xs:List V}{ds:List PyData}{us:List Value},qJ X.K H xs ds->Vals xs us->∃as,ReadsAll s.heap us ds as
 | _,_,_,.nil,r=>by cases r;exact⟨[],.nil⟩
 | _,_,_,.cons h rs,r=>by
  cases r with
  | cons r1 r2 =>
   obtain⟨as,q⟩:=RD.reads I h r1;obtain⟨bs,q'⟩:=qJ.reads I rs r2;exact⟨_,.cons q q'⟩
end
end
section
variable {K:aD}{H H':Hp}
mutual
theorem RD.same(e:aB H H'):∀{x:V}{d:PyData},RD K H x d->RD K H' x d
 | _,_,.cX=>.cX
 | _,_,.bl b=>.bl b
 | _,_,.int i=>.int i
 | _,_,.str x=>.str x
 | _,_,.lst h rs=>.lst (e.seq h) (qJ.same e rs)
 | _,_,.tup h rs=>.tup (e.ZV h) (qJ.same e rs)
theorem qJ.same(e:aB H H'):∀{xs:List V}{ds:List PyData},qJ K H xs ds->qJ K H' xs ds
 | _,_,.nil=>.nil
 | _,_,.cons h rs=>.cons (RD.same e h) (qJ.same e rs)
end
def qJ.append{ds es:List PyData}(h:qJ K H xs ds)(h':qJ K H ys es):qJ K H (xs++ys) (ds++es):=by
 induction xs generalizing ds with
 | nil=>cases h;exact h'
 | cons x xs ih=>cases h with
  | cons a b=>exact .cons a (ih b)
end
def Sh(k:Nat)(d:PyData):Prop:=d.canLay0=true/\d.depth<=k
theorem Sh.shaped{d:PyData}(h:Sh k d)(hk:k<=64):SeqAt.shaped d=true:=by unfold SeqAt.shaped;rw[h.1,decide_eq_true (bJ h.2 hk)];rfl
def Sh.mono{j k:Nat}{d:PyData}(h:Sh j d)(hk:j<=k):Sh k d:=⟨h.1,bJ h.2 hk⟩
theorem Sh.int(i:Int):Sh k (.int i):=⟨rfl,aH _⟩
theorem Sh.bool(i:Bool):Sh k (.bool i):=⟨rfl,aH _⟩
def Sh.cX:Sh k .none:=⟨rfl,aH _⟩
theorem Sh.str{x:Str}(h:PyData.strOk x=true):Sh k (.str x):=⟨h,aH _⟩
theorem Sh.all:∀{ds:List PyData},(∀d∈ds,Sh k d)->PyData.canLayAll0 ds=true/\PyData.depthAll ds<=k
 | [],_=>⟨rfl,aH _⟩
 | d::ds,h=>by
  have h1:=h d (by simp);have h2:=Sh.all (ds:=ds) λe he=>h e (c9 _ he);refine⟨?_,?_⟩
  .show(PyData.canLay0 d&&PyData.canLayAll0 ds)=true;rw[h1.1,h2.1];rfl
  .show max (PyData.depth d) (PyData.depthAll ds)<=k;exact Nat.max_le.mpr ⟨h1.2,h2.2⟩
theorem Sh.list{ds:List PyData}(h:∀d∈ds,Sh k d):Sh (k+1) (.list ds):=⟨(Sh.all h).1,Nat.succ_le_succ (Sh.all h).2⟩
def Sh.tup{k:Nat}{ds:List PyData}(h:∀d∈ds,Sh k d):Sh (k+1) (.tuple ds):=⟨(Sh.all h).1,Nat.succ_le_succ (Sh.all h).2⟩
def HP(K:aD):R2:=λx y H Q=>∃d e,RD K H x d/\RD K H y e/\SeqAt.shaped d=true/\SeqAt.shaped e=true/\Q (.bl (PyData.eqv d e)) H
def Vr(K:aD):R2:=λx y H Q=>∃d e,RD K H x d/\RD K H y e/\SeqAt.shaped d=true/\SeqAt.shaped e=true/\Q (.bl (!PyData.eqv d e)) H
section
variable {X:Cx}
def Bs(hu:X.A.units+64<cLine):jS X (compareOp .Eq) (HP X.K):=by sleep 30;sleep 169;exact eq_dataH ra rb sd se hu ⟨.bl _,H,I,rfl,q⟩
def HQ(hu:X.A.units+64<cLine):jS X (compareOp .NotEq) (Vr X.K):=by sleep 30;sleep 169;exact ne_dataH ra rb sd se hu ⟨.bl _,H,I,rfl,q⟩
end
section
variable {K:aD}{nx bk ct:St->Hp->Prop}{rt:VK}{σ:St}{H:Hp}{Q:VK}{P:Bool->Hp->Prop}{ta tb tc te:TE}{t u:TS}
def Q2{x y:V}(d:PyData)(k:Nat)(hk:k<=64)(hx:RD K H x d)(hy:RD K H y d)(hs:Sh k d)(h:Q (.bl true) H):HP K x y H Q:=⟨d,d,hx,hy,hs.shaped hk,hs.shaped hk,by rw[SeqAt.eqv_refl d hs.1];exact h⟩
def HR{x y:V}(d:PyData)(k:Nat)(hk:k<=64)(hx:RD K H x d)(hy:RD K H y d)(hs:Sh k d)(h:Q (.bl false) H):Vr K x y H Q:=⟨d,d,hx,hy,hs.shaped hk,hs.shaped hk,by rw[SeqAt.eqv_refl d hs.1];exact h⟩
def iI{lo hi:Option Int}(hS:cM K H a xs)(hw:¬(HT.dz xs.length 0 lo=0/\HT.dz xs.length xs.length hi=xs.length))(h:∀p H',eU H p (.tup (iO xs lo hi)) H'->Q (.ref p) H'):Um K (.ref a) lo hi H Q:=⟨a,xs,rfl,hS,hw,λp hp=>h p _ ⟨hp,rfl⟩⟩
def Vs{l:Addr}{k:Int}(hl:H l=some (.lst xs))(h1:-(2 ^ 62)<=k)(h2:k<2 ^ 62)(hz:xs.length*k.toNat<=1000000)(h:∀p H',eU H p (.lst (List.replicate k.toNat xs).flatten) H'->Q (.ref p) H'):Uw (.ref l) (.int k) H Q :=
 ⟨l,k,xs,rfl,rfl,hl,by omega,by omega,bJ hz (by decide),λp hp=>h p _ ⟨hp,rfl⟩⟩
def Q3{tl:TA}(h:tl σ H (QZ K R)):Vp K tl σ H R:=h
def CZ(hx:EW t1 K H a xs)(hy:EW t2 K H b ys)(h:R (Vo K t1 t2 a b xs ys) H):QZ K R [.ref a,.ref b] H:=⟨t1,t2,a,b,xs,ys,rfl,hx,hy,h⟩
def LO{tl:TA}(h:tl σ H (Q0 K R)):Oa K tl σ H R:=h
def Vt(hS:bE K H a xs)(h:R (Vq K a xs) H):Q0 K R [.ref a] H:=⟨a,xs,rfl,hS,h⟩
def sF{tb:TS}(Pv:Nat->St->Hp->Prop)(h0:Pv 0 σ H)(hl:∀i σ H,i<=xs.length->Pv i σ H->bE K H a xs)
  (hs:∀i x p σ H H',xs[i]?=some x->Pv i σ H->eU H p (.tup [.int i,x]) H'->g (.ref p) σ H' λσ2 H2=>tb ⟨Pv (i+1),rt,nx,Pv (i+1)⟩ σ2 H2)(hd:∀σ H,Pv xs.length σ H->nx σ H):Qs (Vq K a xs) g tb nx rt σ H:=by
 refine⟨λi m σ H=>m=xs.length-i/\i<=xs.length/\Pv i σ H,⟨xs.length,by simp,aH _,h0⟩,?_⟩;rintro i m σ H ⟨rfl,hi,p⟩;have q:=hl i σ H hi p;by_cases hlt:i<xs.length
 .refine .inr ⟨⟨q,hlt⟩,Pv (i+1),λσ' H' p'=>⟨xs.length-(i+1),by omega,rfl,hlt,p'⟩,λx H' y=>?_⟩;obtain⟨pa,x',hx,rfl,n⟩:=y;exact hs i x' pa σ H H' hx p n
 .have e:i=xs.length:=by omega
  subst e;exact .inl ⟨⟨q,az _⟩,hd σ H p⟩
def Vu{tb:TS}(Pv:Nat->St->Hp->Prop)(h0:Pv 0 σ H)(hl:∀i σ H,i<=min xs.length ys.length->Pv i σ H->EW t1 K H a xs/\EW t2 K H b ys)
  (hs:∀i x y p σ H H',xs[i]?=some x->ys[i]?=some y->Pv i σ H->eU H p (.tup [x,y]) H'->g (.ref p) σ H' λσ2 H2=>tb ⟨Pv (i+1),rt,nx,Pv (i+1)⟩ σ2 H2)(hd:∀σ H,Pv (min xs.length ys.length) σ H->nx σ H):Qs (Vo K t1 t2 a b xs ys) g tb nx rt σ H:=by
 refine⟨λi m σ H=>m=min xs.length ys.length-i/\i<=min xs.length ys.length/\Pv i σ H,⟨min xs.length ys.length,by simp,aH _,h0⟩,?_⟩;rintro i m σ H ⟨rfl,hi,p⟩;have q:=hl i σ H hi p;by_cases hlt:i<min xs.length ys.length
 .refine .inr ⟨⟨q.1,q.2,hlt⟩,Pv (i+1),λσ' H' p'=>⟨min xs.length ys.length-(i+1),by omega,rfl,hlt,p'⟩,λx H' y=>?_⟩;obtain⟨pa,x',y',hx,hy,rfl,n⟩:=y;exact hs i x' y' pa σ H H' hx hy p n
 .have e:i=min xs.length ys.length:=by omega
  rw[e] at p;exact .inl ⟨⟨q.1,q.2,by omega⟩,hd σ H p⟩
def HS(J:It)(g:TG)(tt:TT)(te:TE)(τ0:St)(Q:VK)(H:Hp):Prop:=∃W:Nat->Nat->List V->St->Hp->Prop,(∃m,W 0 m [] τ0 H)/\∀i m ys τ H,W i m ys τ H ->
 (J.stop i H/\∀p,H p=none->Q (.ref p) (upd H p (.lst ys)))\/(J.go i H/\ys.length<sizeLine/\∃N:List V->St->Hp->Prop,(∀ys' τ' H',N ys' τ' H'->∃m',m'<m/\W (i+1) m' ys' τ' H') /\
  ∀v H',J.Gx i H v H'->g v τ H' λτ2 H2=>tt τ2 H2 λb H3=>if b=true then te τ2 H3 λy H4=>N (ys++[y]) τ2 H4 else N ys τ2 H3)
def LP{wi:TI}{ix:List Nat}(h:wi σ H λJ H1=>HS J g tt te (List.replicate k none++cut ix σ) Q H1):Bq wi g tt te ix k σ H Q:=h
def HU{τ0:St}(Pv:Nat->List V->St->Hp->Prop)(h0:Pv 0 [] τ0 H)(hl:∀i zs τ H,i<=min xs.length ys.length->Pv i zs τ H->EW t1 K H a xs/\EW t2 K H b ys/\zs.length<=i)(hz:xs.length<=1000000)
  (hs:∀i x y p zs τ H H',xs[i]?=some x->ys[i]?=some y->Pv i zs τ H->eU H p (.tup [x,y]) H'->g (.ref p) τ H' λτ2 H2=>tt τ2 H2 λb H3=>if b=true then te τ2 H3 λy H4=>Pv (i+1) (zs++[y]) τ2 H4 else Pv (i+1) zs τ2 H3)
  (hd:∀zs τ H,Pv (min xs.length ys.length) zs τ H->∀p H',eU H p (.lst zs) H'->Q (.ref p) H'):HS (Vo K t1 t2 a b xs ys) g tt te τ0 Q H:=by
 refine⟨λi m zs τ H=>m=min xs.length ys.length-i/\i<=min xs.length ys.length/\Pv i zs τ H,⟨min xs.length ys.length,by simp,aH _,h0⟩,?_⟩;rintro i m zs τ H ⟨rfl,hi,p⟩;obtain⟨q1,q2,q3⟩:=hl i zs τ H hi p;by_cases hlt:i<min xs.length ys.length
 .refine .inr ⟨⟨q1,q2,hlt⟩,bT (show zs.length<1000001 by omega) (by decide),Pv (i+1),λzs' τ' H' p'=>⟨min xs.length ys.length-(i+1),by omega,rfl,hlt,p'⟩,λx H' y=>?_⟩;obtain⟨pa,x',y',hx,hy,rfl,n⟩:=y;exact hs i x' y' pa zs τ H H' hx hy p n
 .have e:i=min xs.length ys.length:=by omega
  rw[e] at p;exact .inl ⟨⟨q1,q2,by omega⟩,λr hr=>hd zs τ H p r _ ⟨hr,rfl⟩⟩
def C0{τ0:St}(Pv:Nat->List V->St->Hp->Prop)(h0:Pv 0 [] τ0 H)(hl:∀i zs τ H,i<=xs.length->Pv i zs τ H->bE K H a xs/\zs.length<=i)(hz:xs.length<=1000000)
  (hs:∀i x p zs τ H H',xs[i]?=some x->Pv i zs τ H->eU H p (.tup [.int i,x]) H'->g (.ref p) τ H' λτ2 H2=>tt τ2 H2 λb H3=>if b=true then te τ2 H3 λy H4=>Pv (i+1) (zs++[y]) τ2 H4 else Pv (i+1) zs τ2 H3)
  (hd:∀zs τ H,Pv xs.length zs τ H->∀p H',eU H p (.lst zs) H'->Q (.ref p) H'):HS (Vq K a xs) g tt te τ0 Q H:=by
 refine⟨λi m zs τ H=>m=xs.length-i/\i<=xs.length/\Pv i zs τ H,⟨xs.length,by simp,aH _,h0⟩,?_⟩;rintro i m zs τ H ⟨rfl,hi,p⟩;obtain⟨q1,q3⟩:=hl i zs τ H hi p;by_cases hlt:i<xs.length
 .refine .inr ⟨⟨q1,hlt⟩,bT (show zs.length<1000001 by omega) (by decide),Pv (i+1),λzs' τ' H' p'=>⟨xs.length-(i+1),by omega,rfl,hlt,p'⟩,λx H' y=>?_⟩;obtain⟨pa,x',hx,rfl,n⟩:=y;exact hs i x' pa zs τ H H' hx p n
 .have e:i=xs.length:=by omega
  rw[e] at p;exact .inl ⟨⟨q1,by omega⟩,λr hr=>hd zs τ H p r _ ⟨hr,rfl⟩⟩
end
def yF(w:World)(K:aD)(a:Addr)(kvs:List (Key×V)):Prop:=(a==sysModules)=false/\∀(P:Program)(h:Heap),K.In h->∃vs,KV kvs vs/\h.DictOf (bK P w) a vs
def entriesOf(w:World):List (Str×Tok×Value)->List DictEntry
 | []=>[]
 | (k,t,v)::r=>{ hash:=PyData.keyHash w.params k,key:=.str k t,val:=v }::entriesOf w r
theorem kC{P:Program}{w:World}:∀(es:List (Str×Tok×Value)),(∀e∈entriesOf w es,∃k,(bK P w).is k e.key=true/\e.hash=(bK P w).hash k)/\Pairs (bK P w) (entriesOf w es) (es.map λe=>(Sum.inr e.1,e.2.2))
 | []=>by
  refine⟨λe h=>?_,?_⟩
  .simp[entriesOf] at h
  .exact Pairs.nil
 | (k,t,v)::r=>by
  obtain⟨h1,h2⟩:=kC (P:=P) (w:=w) r;refine⟨λe he=>?_,.cons (lu P w k t) rfl h2⟩;rcases aI.mp he with q|q
  .subst q;exact⟨.inr k,lu P w k t,rfl⟩
  .exact h1 e q
def yF.mk'{es:List (Str×Tok×Value)}{kvs:List (Key×V)}(l:K.lookup a=some ⟨.type "dict", none,.dict (entriesOf w es).toArray n,#[]⟩)(hd:(a==sysModules)=false)(nd:(es.map (·.1)).Nodup)
  (hv:KV kvs (es.map λe=>((Sum.inr e.1:Key),e.2.2))):yF w K a kvs:=by
 refine⟨hd,λP h TJ=>⟨_,hv,_,_,_,TJ a _ l,⟨rfl,rfl,rfl⟩,rfl,?_,?_,?_⟩⟩
 .intro e he;exact(kC es).1 e (by simpa using he)
 .simpa using(kC (P:=P) (w:=w) es).2
 .have q:((es.map λe=>((Sum.inr e.1:Key),e.2.2)).map (·.1))=(es.map (·.1)).map (λx=>(Sum.inr x:Key)):=by simp[fU,Function.comp_def]
  rw[q];exact lg.mpr (List.Pairwise.imp (λh e=>h (Sum.inr.inj e)) nd)
section
variable {X:Cx}{o i e f:Expr}{pos apos cpos:Pos}{td ty tx:TE}{a:Addr}{kvs:List (Key×V)}
def HV(a:Addr)(kvs:List (Key×V))(td ty:TE):TE:=λσ H Q=>td σ H λx H1=>ty σ H1 λy H2=>∃k v,x=.ref a/\y=kV k/\e9 kvs k=some v/\Q v H2
def yG(C:yF X.w X.K a kvs)(ho:PE X o td)(hi:PE X i ty)(hs:G6 i):PE X (.Subscript o i pos) (HV a kvs td ty):=by sleep 31;refine wI PySem.F.slot_dict_getitem.lookup hs (cT (ho pins s σ H _ I h) λu s1 ⟨x,H1,I1,rx,q1⟩=>cT (hi pins s1 σ H1 _ I1 q1) λiv s2 ⟨y,H2,I2,ry,k,v,ex,ey,l,q2⟩=>?_);subst ex ey;obtain rfl:u=Value.ref a:=rx;obtain⟨vs,rel,dd⟩:=C.2 X.prog s2.heap I2.wm;obtain⟨w',hw,rw'⟩:=ly.some_of (v:=v) (o:=valueAt vs k) (by rw[<- l];exact rel.val k);exact⟨dd.typeIs,wpAny_getItem_of (nM ry) dd.mapOf hw ⟨v,H2,I2.tok _,rw',q2⟩⟩
end
section
variable {nx bk ct:St->Hp->Prop}{rt:VK}{σ:St}{H:Hp}{Q:VK}{td ty tx:TE}{a:Addr}{kvs:List (Key×V)}
def rDK(a:Addr)(kvs:List (Key×V)):R2:=λx y H Q=>∃k v,x=.ref a/\y=kV k/\e9 kvs k=some v/\Q v H
def LQ(h:td σ H λx H1=>ty σ H1 λy H2=>rDK a kvs x y H2 Q):HV a kvs td ty σ H Q:=h
def Q4{x:Str}{v:V}(hv:e9 kvs (.inr x)=some v)(h:Q v H):rDK a kvs (.ref a) (.str x) H Q:=⟨.inr x,v,rfl,rfl,hv,h⟩
end
def gW(K:aD)(a:Addr)(xs:List V):Prop:=∀H:Hp,cM K H a xs
def gW.sq{H:Hp}(c:gW K a xs):cM K H a xs:=c H
def gW.mk'{od:Option Addr}{its:Array Value}{sl:Array (Option Value)}(l:K.lookup a=some ⟨.type "tuple", od,.seq its n,sl⟩)(r:Vals xs its.toList)(hz:its.size<=1000):gW K a xs :=
 λ_=>.inr ⟨_,its,n,l,rfl,rfl,bJ hz (by decide),r⟩
section
variable {X:Cx}{K:aD}
def gI(e:X.K=K):KY X (PX K):=e▸bL
def nQ(e:X.K=K):KY X (PY K):=e▸cO
def kD(e:X.K=K):di X (.builtin "len") (Qo K):=e▸bI
def Q5(e:X.K=K):di X (.builtin "isinstance") (Qq K):=e▸u7
def LR(e:X.K=K)(hu:X.A.units+64<cLine):jS X (compareOp .Eq) (HP K):=e▸Bs hu
def qK{t:EC}(e:X.K=K)(hc:X.calm=true)(h:S6 X es t)
  (hn:(assignEach es X.env).length=n:=by rfl)(hst:(assignEach es X.env).findIdx? (·.1)=none:=by rfl):PG X (.Tuple es k pos) (Px K n t):=e▸ng hc h hn hst
def HW{tg l:Expr}{tl:TE}(e:X.K=K)(hl:PE X l tl):PI X tg l (GI K tl):=e▸cJ hl
end
def HX{α:Type}(x:α)(xs:List α):nE (x::xs) 0=some x:=fO (j:=0) rfl
end L2
def BT.Ob:PySem.bootBuiltins "min" = some (.builtin "min"):=by decide +kernel
def BT.Oc:PySem.bootBuiltins "max" = some (.builtin "max"):=by decide +kernel
namespace L2
open PySem PySem.Spec PyProof.Rows
variable {i:Int}{xs:List V}
section
variable {X:Cx}{K:aD}{nx bk ct:St->Hp->Prop}{rt:VK}{σ:St}{H:Hp}{Q:VK}{P:Bool->Hp->Prop}{ta tb tc te td ty tx tv:TE}{t u:TS}{a:Addr}{kvs:List (Key×V)}
def rDG:R2:=λx y H Q=>∃a v,x=.ref a/\kU H a y (some v)/\Q v H
def Q6(h:td σ H λx H1=>ty σ H1 λy H2=>rDG x y H2 Q):NW td ty σ H Q:=h
def Od{v:V}(hd:H a=some (.dK kvs))(hv:e9 kvs (.inl i)=some v)(h:Q v H):rDG (.ref a) (.int i) H Q:=⟨a,v,rfl,.inl ⟨kvs,.inl i,.inl hd,rfl,hv.symm⟩,h⟩
def rDI:R2:=λy x H Q=>∃a o,x=.ref a/\kU H a y o/\Q (.bl o.isSome) H
def Vv:R2:=λy x H Q=>∃a o,x=.ref a/\kU H a y o/\Q (.bl (!o.isSome)) H
def Vw(h:ty σ H λy H1=>td σ H1 λx H2=>rDI y x H2 Q):Uz ty td σ H Q:=h
def Q7(h:ty σ H λy H1=>td σ H1 λx H2=>Vv y x H2 Q):CN ty td σ H Q:=h
def rD2(ty tx:TE)(σ:St)(Q:VK):V->Hp->Prop:=λx H1=>∃a,x=.ref a/\Zl H1 a/\ty σ H1 λy H2=>tx σ H2 λz H3=>∃o,kU H3 a y o/\Q (o.getD z) H3
def Vx(a:Addr):V->V->Hp->VK->Prop:=λy z H3 Q=>∃o,kU H3 a y o/\Q (o.getD z) H3
def LS(h:td σ H (rD2 ty tx σ Q)):Hj td ty tx σ H Q:=h
def ZY(hd:H a=some (.dK kvs))(h:ty σ H λy H2=>tx σ H2 λz H3=>Vx a y z H3 Q):rD2 ty tx σ Q (.ref a) H:=⟨a,rfl,.inl ⟨kvs,.inl hd⟩,h⟩
def Vy{z:V}(hd:H a=some (.dK kvs))(h:Q ((e9 kvs (.inl i)).getD z) H):Vx a (.int i) z H Q:=⟨_,.inl ⟨kvs,.inl i,.inl hd,rfl,rfl⟩,h⟩
def ZZ(v x y:V)(H3:Hp)(R:Hp->Prop):Prop:=∃a H4,x=.ref a/\yp H3 a y v H4/\R H4
def Q8(h:tv σ H λv H1=>td σ H1 λx H2=>ty σ H2 λy H3=>ZZ v x y H3 λH4=>nx σ H4):NX td ty tv ⟨nx,rt,bk,ct⟩ σ H:=h
def Vz{v:V}{R:Hp->Prop}(hd:H a=some (.dK kvs))(hz:kvs.length<1000000)(h:∀H',nj H a (.dK (putK kvs (.inl i) v)) H'->R H'):ZZ v (.ref a) (.int i) H R:=⟨a,_,rfl,.inl ⟨kvs,.inl i,hd,rfl,bT hz (by decide),rfl⟩,h _ rfl⟩
def Q9(h:∀p H',eU H p (.dK []) H'->Q (.ref p) H'):Hf σ H Q:=λp hp=>h p _ ⟨hp,rfl⟩
def C1{l:Addr}{k:Nat}{y:V}(hl:H l=some (.lst xs))(h0:0<=i)(hk:i.toNat=k)(hy:xs[k]?=some y)(hz:xs.length<=1000000)(h:∀H',nj H l (.lst (xs.eraseIdx k)) H'->Q y H'):G2 (.ref l) [.int i] H Q:=by
 have hlt:k<xs.length:=(fq hy).1;refine⟨l,xs,i,k,y,rfl,rfl,hl,by omega,by omega,?_,hy,h _ rfl⟩;have e1:(if i<0 then i+(xs.length:Int) else i)=i:=if_neg (by omega);unfold seqIndex?;simp only[e1];have h1:i<(xs.length:Int):=by omega
 rw[if_pos (by simp[h0,h1]),hk]
def LU{l:Addr}(hl:H l=some (.lst xs))(h:∀H',nj H l (.lst []) H'->Q .cX H'):G4 (.ref l) [] H Q:=⟨l,xs,rfl,rfl,hl,h _ rfl⟩
def fh{b:Addr}{ys:List V}(ha:cM K H a xs)(hb:cM K H b ys)(hx:xs≠[])(hy:ys≠[])(hz:xs.length+ys.length<=1000000)(h:∀p H',eU H p (.tup (xs++ys)) H'->Q (.ref p) H'):GV K (.ref a) (.ref b) H Q :=
 ⟨a,b,xs,ys,rfl,rfl,ha,hb,hx,bJ hz (by decide),λe=>absurd e hy,λ_ p hp=>h p _ ⟨hp,rfl⟩⟩
def Oe:List V->Hp->VK->Prop:=λxs H Q=>∃i j,xs=[.int i,.int j]/\Q (.int (if j<i then j else i)) H
def sG(hc:X.calm=true):di X (.builtin "min") Oe:=EG hc
def Ra{j:Int}(h:Q (.int (if j<i then j else i)) H):Oe [.int i,.int j] H Q:=⟨i,j,rfl,h⟩
def yH{i:Nat}{y:Str}{py spos:Pos}{elt iter tg:Expr}{xs:List Str}{g:TG}{ifs:List Expr}{scope:Scope}{cl:List (Str×Addr)}{pos:Pos}{fr:List Str}{ix:List Nat}{wi:TI}{tt:TT}{te:TE}(hN:X.N.Nodup)(Zr:X.N[i]?=some y)(hy:Loc X.env.scope y)
  (O:iR X scope cl xs fr ix)(hi:PI X tg iter wi)(hg:∀C fp s H,PG (mK X (xs++fr) scope cl C fp s H) tg g)
  (ht:∀C fp s H,PF (mK X (xs++fr) scope cl C fp s H) ifs tt)(he:∀C fp s H,PE (mK X (xs++fr) scope cl C fp s H) elt te)
  (hsw:swapsWith (.ListComp elt [⟨tg,iter,ifs,0⟩] scope pos) (some (.Name y py)) spos.line X.env=pure true:=by rfl)
  (hs:∀v,foldedSetIterable iter X.env v=pure v:=by intro _;rfl)(hf:X.fn y=true\/X.env.scope.names.lookup y=some .local:=by first|exact .inl rfl|exact .inr rfl|assumption):
  PS X (.Assign [.Name y py] (.ListComp elt [⟨tg,iter,ifs,0⟩] scope pos) spos) (Ht (Bq wi g tt te ix xs.length) i):=by sleep 62;sleep 233;show wpAny _ X.A (do let _ <- comprehension (.ListComp elt [⟨tg,iter,ifs,0⟩] scope pos) scope X.env _ (newList []) false (eval iter X.env) (some (assign (.Name y py) X.env))) _ _ s;sleep 40;refine qk O hg ht he I2 T st2 f2 (λys H=>∀p,H p=none->D.nx (σ.set i (some (.ref p))) (upd H p (.lst ys))) W m0 w0 turn λL C s' ys H' I' hm fC hD z=>?_;sleep 23
end
section
variable {K:aD}{H:Hp}{Q:VK}{te:TE}
end
structure VA (K:aD) (x qual:Str) (st:Stmt) (f:Addr) (fd:FuncData) (dV:Value):Prop where
 ex:∃(oc:Value)(od:Option Addr)(kV doc pm:Value)(an:Option Addr)(cdv ct:Value)(osl:Array (Option Value)),
  fd=PySem.W.fnOf x qual (ku st) (iP st) (aC st) dV kV doc pm an cdv ct/\K.lookup f=some ⟨oc,od,.func fd,osl⟩/\PySem.W.codeIn K cdv qual=true
 kp:PySem.W.keepIn K (.ref f)=true
section
variable {P:Program}{w:World}{K:aD}{mg:Str->Option Value}{base:Heap}
def VA.ok{x qual:Str}{st:Stmt}{f:Addr}{fd:FuncData}{dV:Value}{N ps:List Str}{k:Nat}{sp:Sp}(F:VA K x qual st f fd dV)(S:aN N ps (aC st))(len:∀vs H Q E,sp vs H Q E->vs.length=ps.length)
  (hbody:∀(cdv:Value)(A:Around)(outer:List Env)(s:Shared)(H:Hp)(vs:List V)(Q:VK)(E:XK),jc k (A.deeper (envOfC qual (aC st) s.heap.objs.size f cdv))->sp vs H Q E ->
   ∃t,uQ (yi gS P w K mg base N qual (aC st) f cdv A outer s H E).GF (iP st) t/\t { nx:=λ_ H'=>Q .cX H',rt:=Q } (start N vs) H):b8 P w K mg base gS (k+1) f fd ps sp:=by sleep 78
end
section
variable {X:Cx}{K:aD}{nx bk ct:St->Hp->Prop}{rt:VK}{σ:St}{H:Hp}{Q:VK}{P:Bool->Hp->Prop}{ta tb tc te td ty tx tv:TE}{t u:TS}{a:Addr}
def Of(R:It->Hp->Prop):List V->Hp->Prop:=λvs H1=>∃i j:Int,vs=[.int i,.int j]/\(-(2 ^ 62)<=i/\i<2 ^ 62 /\ -(2 ^ 62)<=j/\j<2 ^ 62)/\R (mJ i (j-i).toNat) H1
def HY{tl:TA}{R:It->Hp->Prop}(h:tl σ H (Of R)):NN tl σ H R:=h
def Rb{j:Int}{R:It->Hp->Prop}(h1:-(2 ^ 62)<=i/\i<2 ^ 62 /\ -(2 ^ 62)<=j/\j<2 ^ 62)(h:R (mJ i (j-i).toNat) H):Of R [.int i,.int j] H:=⟨i,j,rfl,h1,h⟩
def VB{a:Addr}{tt:TT}{τ:St}(Pv:Nat->List V->Hp->Prop)(h0:Pv 0 [] H)(hl:∀i ys H,i<=xs.length->Pv i ys H->cM K H a xs)
  (hs:∀i x ys H,xs[i]?=some x->Pv i ys H->ys.length<sizeLine/\tt (some x::τ) H λb H3=>if b=true then te (some x::τ) H3 λy H4=>Pv (i+1) (ys++[y]) H4 else Pv (i+1) ys H3)
  (hd:∀ys H,Pv xs.length ys H->∀p H',eU H p (.lst ys) H'->Q (.ref p) H'):Bp (KU K a) tt te τ Q H:=by sleep 14
def Rc{a:Addr}{τ:St}(f:V->V)(hS:cM K H a xs)(hz:xs.length<=1000000)(he:∀x∈xs,∀Q:VK,Q (f x) H->te (some x::τ) H Q)(h:∀p H',eU H p (.lst (xs.map f)) H'->Q (.ref p) H'):Bp (KU K a) Lw te τ Q H:=by
 refine VB (xs:=xs) (λi ys H'=>H'=H/\ys=(xs.take i).map f) ⟨rfl,rfl⟩ ?_ ?_ ?_
 .rintro i ys H' hi ⟨rfl,_⟩;exact hS
 .rintro i x ys H' hx ⟨rfl,rfl⟩;have hi:i<xs.length:=(fq hx).1;refine⟨bT (show((xs.take i).map f).length<1000001 by rw[av,cG];omega) (by decide),?_⟩;refine HK (Lv ?_);refine he x (fz hx) _ ⟨rfl,?_⟩;rw[cB,hx,bF];rfl
 .rintro ys H' ⟨rfl,rfl⟩ p H2 n2;rw[cH] at n2;exact h p H2 n2
end
end L2
namespace ZP
open PySem PySem.Spec PyProof.Rows
section
variable {prog:Program}{w:World}{A:Around}{E:Value->Shared->Prop}{s:Shared}
end
end ZP
def F.dQ:PySem.entryFor PySem.table "dict.update.loop" = some PySem.Builtin.«dict.update.loop»:=PySem.entryFor_of_tree (by kernel_rfl)
def F.bC:PySem.plainId "dict.update.loop" = true:=by decide +kernel
namespace L2
open PySem PySem.Spec PyProof.Rows
def gq(ks:Nat->Key)(vs:Nat->V):Nat->List (Key×V)
 | 0=>[]
 | i+1=>putK (gq ks vs i) (ks i) (vs i)
theorem kE(ks:Nat->Key)(vs:Nat->V):∀i,(gq ks vs i).length<=i
 | 0=>az _
 | i+1=>by have h1:=lD (gq ks vs i) (ks i) (vs i);have h2:=kE ks vs i;show(putK (gq ks vs i) (ks i) (vs i)).length<=i+1;omega
structure C2 (prog:Program) (w:World) (z d:Addr) (tn:String) (fp:List Addr) (n:Nat) (ks:Nat->Key) (vs:Nat->V) (St:Nat->Heap->Prop):Prop where
 ty:∀i(s:Shared),St i s.heap->s.TypeIs (.ref z) tn
 nd:(Value.type tn != Value.type "dict")=true
 self:∀(A:Around)(s:Shared)(Q:Value->Shared->Prop)(E:Value->Shared->Prop),St 0 s.heap->Q (.ref z) s->wpAny (model prog w) A (pyIter (.ref z)) Q E s
 nk:∀(A:Around)i(s:Shared)(Q:Option Value->Shared->Prop)(E:Value->Shared->Prop),A.handled=none->St i s.heap->(∀h' tk,(∀b o,s.heap.get? b=some o->h'.get? b=some o)->Q none { s with heap:=h',toks:=tk })->wpAny (model prog w) A (getAttr? (.ref z) "keys") Q E s
 frame:∀i h h',St i h->(∀b o,b≠d->h.get? b=some o->h'.get? b=some o)->St i h'
 item:∀(A:Around)i(s:Shared)(Q:Option Value->Shared->Prop)(E:Value->Shared->Prop),A.handled=none->i<n->St i s.heap ->
  (∀h' tk u v,RelV (kV (ks i)) u->RelV (vs i) v->(s.heap.objs.size≠d->St (i+1) h')->h'.get? s.heap.objs.size=some { cls:=.type "tuple", data:=.seq #[u,v] }->(∀b o,b∉fp->s.heap.get? b=some o->h'.get? b=some o) ->
   Q (some (.ref s.heap.objs.size)) { s with heap:=h',toks:=tk })->wpAny (model prog w) A (pyNext (.ref z)) Q E s
 done:∀(A:Around)(s:Shared)(Q:Option Value->Shared->Prop)(E:Value->Shared->Prop),A.handled=none->St n s.heap->(∀h',(∀b o,b∉fp->s.heap.get? b=some o->h'.get? b=some o)->Q none { s with heap:=h' })->wpAny (model prog w) A (pyNext (.ref z)) Q E s
section
variable {prog:Program}{w:World}{A:Around}{z d:Addr}{tn:String}{fp:List Addr}{n:Nat}{ks:Nat->Key}{vs:Nat->V}{St:Nat->Heap->Prop}
def C2.loop{R:Result->Shared->Prop}{s0:Shared}(O:C2 prog w z d tn fp n ks vs St)(hd:d∉fp)(hh:A.in1.handled=none)(hn:n<=sizeLine)
  (hR:∀h' tk rs,(∀b o,b∉fp->b≠d->s0.heap.get? b=some o->h'.get? b=some o)->h'.DictOf (bK prog w) d rs->KV (gq ks vs n) rs->R (.ok (.ret .none)) { s0 with heap:=h',toks:=tk }):
  ∀(k i:Nat)(h:Heap)(t:Nat)(rs:List (Key×Value))(c:Tok),n-i=k->i<=n->(∀b o,b∉fp->b≠d->s0.heap.get? b=some o->h.get? b=some o)->St i h->h.DictOf (bK prog w) d rs->KV (gq ks vs i) rs ->
   codeAny (model prog w) A (.builtin "dict.update.loop" ⟨[.ref d,.ref z,.int i c,.none],[]⟩) R { s0 with heap:=h,toks:=t }:=by
 intro k;induction k with
 | zero =>
  intro i h t rs c hk hi kp st dd rel;have e:i=n:=by omega
  subst e;sleep 176;refine aq (O.done _ { s0 with heap:=h,toks:=t } _ _ hh st λh' k'=>?_);show wpAny _ A.in1 (Builtin.Dict.addKeywords d [] >>= _) _ _ _;refine aq (aL (aL ?_));sleep 146
 | succ k ih =>
  intro i h t rs c hk hi kp st dd rel;have hlt:i<n:=by omega
  sleep 176;refine aq (O.item _ i { s0 with heap:=h,toks:=t } _ _ hh hlt st λh1 t1 u v ru rv st1 ht k1=>?_);have hT:d≠h.objs.size:=by obtain⟨o,_,_,q,_⟩:=dd;exact aQ (aK q)
  sleep 189;have VC:({ s0 with heap:=h1,toks:=t1 }:Shared).TypeIs (.ref h.objs.size) "tuple" := ⟨_,ht,rfl⟩;show wpAny _ A.in1 (holding [Value.ref h.objs.size] _ >>= _) _ _ _;refine aq (wpAny_holding ?_);refine aq (wpAny_tryCatch ?_);unfold Builtin.Dict.pairItems;refine aq (wpAny_typeOf VC ?_);show wpAny _ _ (seqItems? (.ref h.objs.size) >>= _) _ _ _;refine aq (wpAny_seqItems ht rfl (aL ?_));show wpAny _ _ (holding [u,v] (dictSet d u v)) _ _ _;refine wpAny_holding (wpAny_dictSet_pairs (hsz:=?_) (nM ru) d1 λh2 d2 sb=>?_)
  .sleep 107;refine ih (i+1) h2 _ (stored rs (ks i) v) 0 (by omega) hlt (λb o b1 b2 q=>?_) (O.frame _ _ _ (st1 (bu hT)) λb o b1 q=>sb.extBut b o b1 q) d2 (rel.put (ks i) rv);sleep 187
  .rw[<- rel.length];exact bJ (kE ks vs i) (bJ (jJ hlt) hn)
end
section
variable {prog:Program}{w:World}{A:Around}{E:Value->Shared->Prop}{s:Shared}{z:Addr}{tn:String}{fp:List Addr}{n:Nat}{ks:Nat->Key}{vs:Nat->V}{St:Nat->Heap->Prop}
theorem C2.call{Q:Value->Shared->Prop}(O:C2 prog w z s.heap.objs.size tn fp n ks vs St)(hfp:∀b∈fp,b<s.heap.objs.size)(hh:A.in1.in1.handled=none)(hn:n<=sizeLine)(st:St 0 s.heap)
  (q:∀h' tk rs,(∀b o,b∉fp->s.heap.get? b=some o->h'.get? b=some o)->h'.DictOf (bK prog w) s.heap.objs.size rs->KV (gq ks vs n) rs->Q (.ref s.heap.objs.size) { s with heap:=h',toks:=tk }):
  wpAny (model prog w) A (call (.type "dict") [.ref z]) Q E s:=by sleep 20;sleep 143;have hd:s.heap.objs.size∉fp:=λh=>fY _ (hfp _ h);have st1:St 0 (s.heap.push { cls:=.type "dict", data:=.dict #[] }):=O.frame _ _ _ st λb o _ e=>c8 _ e;refine⟨dd.typeIs,F.args_dict_init_2 _ _,?_⟩;unfold Builtin.«dict.__init__»;refine aq ?_;unfold Builtin.Dict.selfAndRest;refine aq (wpAny_notOrdered_dict dd.typeIs ?_);refine aL (a:=(s.heap.objs.size,[Value.ref z])) ?_;show wpAny _ _ (Builtin.Dict.updateFrom "dict.__init__" s.heap.objs.size (.ref z) [] .none) _ _ _;unfold Builtin.Dict.updateFrom;refine aq (wpAny_typeOf (O.ty 0 _ st1) ?_);rw[if_pos O.nd];refine aq (O.nk _ 0 _ _ _ hh st1 λh1 t1 k1=>?_);show wpAny _ _ (rule _ >>= _) _ _ _;refine aq (wpAny_rule ?_);have st2:St 0 h1:=O.frame _ _ _ st1 λb o _ e=>k1 b o e;refine aq (O.self _ _ _ _ st2 ?_);sleep 107;have hsz:∀b o,s.heap.get? b=some o->b≠s.heap.objs.size:=λb o e=>aQ (aK e);refine O.loop (s0:={ s with heap:=h1,toks:=t1 }) hd hh hn (λh' tk rs k' d' rel=>?_) _ 0 h1 t1 [] 0 rfl (aH _) (λb o _ _ e=>e) st2 (let⟨o,es,ep,x,r⟩:=dd;⟨o,es,ep,k1 _ _ x,r⟩) .nil;exact⟨rfl,q h' tk rs (λb o b1 e=>k' b o b1 (hsz b o e) (k1 b o (c8 _ e))) d' rel⟩
end
end L2
namespace ZP
open PySem PySem.Spec PyProof.Rows
end ZP
namespace L2
open PySem PySem.Spec PyProof.Rows
section
variable {X:Cx}
variable {K:aD}{σ:St}{H:Hp}{Q:VK}{a b:Addr}
end
section
variable {X:Cx}{K:aD}{nx bk ct:St->Hp->Prop}{rt:VK}{σ:St}{H:Hp}{Q:VK}{P:Bool->Hp->Prop}{ta tb tc te td ty tx tv:TE}{t u:TS}{a:Addr}
def VD{i:Nat}{ti:TZ}{x:V}(e:σ[i]?=some (some x))(h:te σ H λy H1=>ti x y H1 λz H2=>iw i z σ H2 nx):T5 i te ti ⟨nx,rt,bk,ct⟩ σ H:=⟨x,e,h⟩
def VE{f:Int->Int->Int}{i j:Int}(h:Q (.int (f i j)) H):ipI f (.int i) (.int j) H Q:=⟨i,j,rfl,rfl,h⟩
end
section
variable {K:aD}{nx bk ct:St->Hp->Prop}{rt:VK}{σ:St}{H:Hp}{Q:VK}{ta:TA}
end
end L2
namespace HT
open PySem PySem.Spec PyProof.Rows
section
variable {prog:Program}{w:World}{A:Around}{E:Value->Shared->Prop}{s:Shared}
end
end HT
namespace L2
open PySem PySem.Spec PyProof.Rows
section
variable {X:Cx}{K:aD}{nx bk ct:St->Hp->Prop}{rt:VK}{σ:St}{H:Hp}{Q:VK}{a:Addr}
end
section
variable {X:Cx}{K:aD}{nx bk ct:St->Hp->Prop}{rt:VK}{σ:St}{H:Hp}{Q:VK}{ta tv:TE}{t:TA}{a C dx:Addr}{fs fs':List (Str×V)}{f m:Str}{v y z:V}{sp:Sp}{E:XK}
def Rf{i j:Int}(h:Q (.int (i-j)) H):Uh (.int i) (.int j) H Q:=⟨i,j,rfl,rfl,h⟩
end
section
variable {co si pl mk wd se an st x:V}
end
section
variable {X:Cx}{K:aD}{σ:St}{H:Hp}{Q:VK}{t:TA}
def uB(i:Int)(n:Nat):List V:=(List.range n).map λk:Nat=>V.int (i+(k:Int))
def HZ(i:Int)(n:Nat):(uB i n).length=n:=by unfold uB;simp
def E2{i:Int}{n:Nat}{acc:Array Value}(h:ItemsOf (λk v=>∃t,v=.int (i+(k:Int)*1) t) acc n):Vals (uB i n) acc.toList:=by
 obtain⟨h1,h2⟩:=h;have key:∀(l:List Value)(m:Nat),(∀(k:Nat) v,l[k]?=some v->∃t,v=Value.int (i+((m+k:Nat):Int)) t)->Vals ((List.range' m l.length).map λk:Nat=>V.int (i+(k:Int))) l:=by
  intro l;induction l with
  | nil=>intro m _;exact .nil
  | cons x l ih =>
   intro m h;rw[eB,List.range'_succ,cj];refine .cons ?_ (ih (m+1) λk v hk=>?_)
   .obtain⟨t,e⟩:=h 0 x rfl;exact⟨t,by rw[e];rfl⟩
   .obtain⟨t,e⟩:=h (k+1) v (by simpa using hk);exact⟨t,by rw[e,show m+(k+1)=m+1+k by omega]⟩
 have:=key acc.toList 0 λk v hk=>by obtain⟨t,e⟩:=h2 k v (by simpa using hk);exact⟨t,by rw[e,Int.mul_one,Nat.zero_add]⟩
 unfold uB;rw[List.range_eq_range'];have hl:acc.toList.length=n:=by rw[cY,h1]
 rw[hl] at this;exact this
end
end L2
namespace ZP
open PySem PySem.Spec PyProof.Rows
def uC:entryFor table "list.__getattribute__" = some Builtin.«object.__getattribute__»:=entryFor_alias (id' := "object.__getattribute__") (by kernel_rfl) (by decide +kernel) (by decide +kernel) (by kernel_rfl)
def wM:typeLookup (.type "list") "__getattr__" = pure none:=by rw[typeLookup_type,builtinLookup_eq_fast];kernel_rfl
def wN:typeLookup (.type "list") "keys" = pure none:=by rw[typeLookup_type,builtinLookup_eq_fast];kernel_rfl
def uD(x:Addr)(its:Array Value)(n:Nat)(sl:Array (Option Value))(u:Tok):
  Meets (Builtin.«object.__getattribute__» ⟨[.ref x,.str "keys" u],[]⟩) (λA R s=>s.heap.get? x=some { cls:=.type "list", dict:=none,data:=.seq its n,slots:=sl }/\raisesAttr (.ref x) "keys" A R s):=by refine Meets.of_wp λprog w A R s q=>?_;obtain⟨h0,g0,d0,t0,o0⟩:=s;obtain⟨hx,q⟩:=q;have hT:(⟨h0,g0,d0,t0,o0⟩:Shared).TypeIs (.ref x) "list" := ⟨_,hx,rfl⟩;have hmiss:=wN;unfold Builtin.«object.__getattribute__»;sleep 101;exact wpAny_raiseAttrError q.1 q.2 (attrMsg_fits (by decide +kernel) (by size_fits))
def C3{prog:Program}{w:World}{A:Around}{E:Value->Shared->Prop}{s:Shared}{x:Addr}{its:Array Value}{n:Nat}{sl:Array (Option Value)}{Q:Option Value->Shared->Prop}(hx:s.heap.get? x=some { cls:=.type "list", dict:=none,data:=.seq its n,slots:=sl })(hA:A.handled=none)
  (q:∀h' tk,(∀b o,s.heap.get? b=some o->h'.get? b=some o)->Q none { s with heap:=h',toks:=tk }):wpAny (model prog w) A (getAttr? (.ref x) "keys") Q E s:=by
 obtain⟨h0,g0,d0,t0,o0⟩:=s;have hT:∀tk',(⟨h0,g0,d0,tk',o0⟩:Shared).TypeIs (.ref x) "list" := λ_=>⟨_,hx,rfl⟩;have e1:=sub_AttributeError;have e2:=F.slot_list_getattribute.lookup;have e3:=F.slot_list_getattribute.bind (.ref x);have e4:=wM;unfold getAttr? getAttrBy? getAttrBy
 repeat (any_goals (first|assumption|exact hT _|((with_reducible show wpAny _ _ (call (Value.builtin "list.__getattribute__") _ _) _ _ _);refine call_meets F.slot_list_getattribute (hT _) uC (F.args_list_getattribute_2 _ _) (uD x its n sl _) ⟨hx,hA,λh' tk' e he=>?_⟩)|wp_step))
 obtain⟨t',u',Gy⟩:=he.there;show wpAny _ _ (getattributeRaised _ _ _ _ _ _ _) _ _ _;unfold getattributeRaised;sleep 101;exact q _ _ he.keeps
end ZP
namespace L2
open PySem PySem.Spec PyProof.Rows
section
variable {prog:Program}{w:World}{A:Around}
def Bt{R:Result->Shared->Prop}{s0:Shared}{it l d:Addr}{its:Array Value}{n:Nat}{ks:Nat->Key}{vs:Nat->V}(hd:d≠it)(hdl:d≠l)(hli:l≠it)(hh:A.in1.handled=none)(hn:n<=sizeLine)(hsz:its.size=n)
  (hp:∀i,i<n->∃(T:Addr)(u v:Value)(o:Obj)(c:Nat),its[i]?=some (.ref T)/\s0.heap.get? T=some o/\o.cls=.type "tuple" /\ o.data=.seq #[u,v] c/\T≠it/\T≠d/\RelV (kV (ks i)) u/\RelV (vs i) v)
  (hl:s0.heap.IsList l its)
  (hR:∀h' tk rs,(∀b o,b≠it->b≠d->s0.heap.get? b=some o->h'.get? b=some o)->h'.DictOf (bK prog w) d rs->KV (gq ks vs n) rs->R (.ok (.ret .none)) { s0 with heap:=h',toks:=tk }):
  ∀(k i:Nat)(h:Heap)(t:Nat)(rs:List (Key×Value))(c:Tok),n-i=k->i<=n->(∀b o,b≠it->b≠d->s0.heap.get? b=some o->h.get? b=some o)->h.IsListIter it l i->h.DictOf (bK prog w) d rs->KV (gq ks vs i) rs ->
   codeAny (model prog w) A (.builtin "dict.update.loop" ⟨[.ref d,.ref it,.int i c,.none],[]⟩) R { s0 with heap:=h,toks:=t }:=by
 sleep 103;intro k;induction k with
 | zero =>
  sleep 34;sleep 146
 | succ k ih =>
  intro i h t rs c hk hi kp hit dd rel;have hlt:i<n:=by omega
  obtain⟨T,u,v,o,cc,hx,hT,Z0,Z1,n1,n2,ru,rv⟩:=hp i hlt;sleep 36;sleep 189;sleep 35;show wpAny _ _ (holding [u,v] (dictSet d u v)) _ _ _;refine wpAny_holding (wpAny_dictSet_pairs (hsz:=?_) (nM ru) d1 λh2 d2 sb=>?_)
  .sleep 107;refine ih (i+1) h2 _ (stored rs (ks i) v) 0 (by omega) hlt (λb o b1 b2 q=>?_) ?_ d2 (rel.put (ks i) rv)
   .sleep 187
   .sleep 218
  .rw[<- rel.length];exact bJ (kE ks vs i) (bJ (jJ hlt) hn)
end
section
variable {prog:Program}{w:World}{A:Around}{E:Value->Shared->Prop}{s:Shared}
def Bu{l:Addr}{its:Array Value}{n:Nat}{ks:Nat->Key}{vs:Nat->V}{Q:Value->Shared->Prop}(hx:PlainL s.heap l its)(hh:A.in1.in1.handled=none)(hn:n<=sizeLine)(hsz:its.size=n)
  (hp:∀i,i<n->∃(T:Addr)(u v:Value)(o:Obj)(c:Nat),its[i]?=some (.ref T)/\s.heap.get? T=some o/\o.cls=.type "tuple" /\ o.data=.seq #[u,v] c/\RelV (kV (ks i)) u/\RelV (vs i) v)
  (q:∀h' tk rs,(∀b o,s.heap.get? b=some o->h'.get? b=some o)->h'.DictOf (bK prog w) s.heap.objs.size rs->KV (gq ks vs n) rs->Q (.ref s.heap.objs.size) { s with heap:=h',toks:=tk }):
  wpAny (model prog w) A (call (.type "dict") [.ref l]) Q E s:=by
 sleep 20;sleep 143;sleep 0;have dd1:h1.DictOf (bK prog w) s.heap.objs.size []:=let⟨o,es,ep,x,r⟩:=dd;⟨o,es,ep,k1 _ _ x,r⟩;have hdi:s.heap.objs.size≠h1.objs.size:=by obtain⟨o,_,_,x,_⟩:=dd1;exact LV _ _ x
 obtain⟨ol,nl,xX,_⟩:=hx;refine Bt (s0:={ s with heap:=h1.push { cls:=.type "list_iterator", data:=.fields #[.ref l,.int 0 0] },toks:=t1 }) (it:=h1.objs.size) (l:=l) (d:=s.heap.objs.size) (its:=its) (n:=n) (ks:=ks) (vs:=vs) hdi (bu (sz _ _ xX)) (LV _ _ (k0 _ _ xX)) hh hn hsz (λi hi=>?_) (let⟨o,a,r⟩:=hl1;⟨o,k2 _ _ a,r⟩) (λh' tk rs k' d' rel=>?_) _ 0 _ t1 [] 0 rfl (aH _) (λb o _ _ e=>e) ⟨_,iC _ rfl,rfl,rfl⟩ (let⟨o,es,ep,x,r⟩:=dd1;⟨o,es,ep,k2 _ _ x,r⟩) .nil
 .obtain⟨T,u,v,o,c,a1,a2,a3,a4,a5,a6⟩:=hp i hi;exact⟨T,u,v,o,c,a1,k2 _ _ (k0 _ _ a2),a3,a4,LV _ _ (k0 _ _ a2),sz _ _ a2,a5,a6⟩
 .sleep 170
end
section
variable {X:Cx}{K:aD}{H:Hp}{Q:VK}{a:Addr}
def wO(ps:List (Key×V)):List (Key×V):=gq (λi=>(ps.getD i (.inl 0,.cX)).1) (λi=>(ps.getD i (.inl 0,.cX)).2) ps.length
def sH(H:Hp):List V->List (Key×V)->Prop:=Paired λu p=>∃t,u=.ref t/\H t=some (.tup [kV p.1,p.2])
def VF(K:aD):List V->Hp->VK->Prop:=λvs H Q=>∃a us ps,vs=[.ref a]/\bE K H a us/\sH H us ps/\∀p,H p=none->Q (.ref p) (upd H p (.dK (wO ps)))
theorem vd{H:Hp}:∀{us:List V}{ps:List (Key×V)},sH H us ps->us.length=ps.length/\∀i,i<ps.length->∃t,us[i]?=some (.ref t)/\H t=some (.tup [kV (ps.getD i (.inl 0,.cX)).1,(ps.getD i (.inl 0,.cX)).2])
 | _,_,.nil=>⟨rfl,λi h=>absurd h (gF _)⟩
 | _,_,.cons h t=>by
  obtain⟨e,k⟩:=vd t;refine⟨by simp[e],λi hi=>?_⟩;cases i with
  | zero =>
   obtain⟨z,rfl,hz⟩:=h;exact⟨z,rfl,hz⟩
  | succ i =>
   obtain⟨z,h1,h2⟩:=k i (by simpa using hi);exact⟨z,by simpa using h1,by simpa[List.getD] using h2⟩
def yI(hc:X.calm=true):di X (.type "dict") (VF X.K):=by
 sleep 38;obtain⟨l,ul,ps,rfl,hS,hP,q⟩:=h;sleep 214;obtain⟨e1,hk⟩:=vd hP;sleep 91;refine Bu (n:=ps.length) (ks:=λi=>(ps.getD i (.inl 0,.cX)).1) (vs:=λi=>(ps.getD i (.inl 0,.cX)).2) pl hA (by omega) (by rw[aV];omega) (λi hi=>?_) λh' tk rs k' d' rel=>?_
 .obtain⟨t,ht,Z3⟩:=hk i hi;sleep 135;cases Z4 with
  | cons a1 b1 =>
   cases b1 with
   | cons a2 b2 =>
    cases b2;exact⟨t,_,_,o,n,by simpa using hw,ho,hc',hd,a1,a2⟩
 .sleep 123;have I4:=I3.uZ fd (o:=.dK (wO ps)) ⟨bJ (kE _ _ _) (by omega),beq_eq_false_iff_ne.mpr n6,rs,rel,d'⟩;exact⟨.ref _,_,I4,rfl,q _ fd.1⟩
def VG{us:List V}{ps:List (Key×V)}(hS:bE K H a us)(hP:sH H us ps)(h:∀p H',eU H p (.dK (wO ps)) H'->Q (.ref p) H'):VF K [.ref a] H Q:=⟨a,us,ps,rfl,hS,hP,λp hp=>h p _ ⟨hp,rfl⟩⟩
end
section
variable {H:Hp}{Q:VK}{a:Addr}{kvs:List (Key×V)}
def VH{x:Int}(hd:H a=some (.dK kvs))(h:Q (.bl (e9 kvs (.inl x)).isSome) H):rDI (.int x) (.ref a) H Q:=⟨a,_,rfl,.inl ⟨kvs,.inl x,.inl hd,rfl,rfl⟩,h⟩
end
theorem lE(f:Nat->Int):∀n,argBest (λi j=>decide (f i>f j)) n<=n/\∀i,i<=n->f i<=f (argBest (λi j=>decide (f i>f j)) n)
 | 0=>⟨az _,λi h=>by rw[Nat.le_zero.mp h];exact Int.le_refl _⟩
 | n+1=>by
  obtain⟨h1,h2⟩:=lE f n;by_cases h:f (n+1)>f (argBest (λi j=>decide (f i>f j)) n)
  .have e:argBest (λi j=>decide (f i>f j)) (n+1)=n+1:=by simp only[argBest];rw[if_pos (decide_eq_true h)]
   rw[e];refine⟨az _,λi hi=>?_⟩;rcases aY i (n+1) with hl|hl
   .have:=h2 i (by omega);omega
   .rw[show i=n+1 by omega];exact Int.le_refl _
  .have e:argBest (λi j=>decide (f i>f j)) (n+1)=argBest (λi j=>decide (f i>f j)) n:=by simp only[argBest];rw[if_neg (by simpa using h)]
   rw[e];refine⟨by omega,λi hi=>?_⟩;rcases aY i (n+1) with hl|hl
   .exact h2 i (by omega)
   .rw[show i=n+1 by omega];omega
theorem ve:∀{xs:List Int}{its:List Value},Vals (xs.map V.int) its->∃ps:List (Int×Tok),its=ps.map (λp=>.int p.1 p.2)/\ps.map (·.1)=xs
 | [],_,.nil=>⟨[],rfl,rfl⟩
 | x::xs,_,.cons r t=>by obtain⟨u,rfl⟩:=r;obtain⟨ps,rfl,e⟩:=ve t;exact⟨(x,u)::ps,rfl,by simp[e]⟩
section
variable {X:Cx}{K:aD}{H:Hp}{Q:VK}{a:Addr}
end
section
variable {K:aD}{σ:St}{H:Hp}{Q:VK}{te:TE}
def Rh{x y:V}(d e:PyData)(k:Nat)(hk:k<=64)(hx:RD K H x d)(hy:RD K H y e)(hs:Sh k d)(hs':Sh k e)(h:Q (.bl (PyData.eqv d e)) H):HP K x y H Q:=⟨d,e,hx,hy,hs.shaped hk,hs'.shaped hk,h⟩
end
section
variable {σ:St}{H:Hp}{Q:VK}
end
section
variable {X:Cx}{K:aD}{H:Hp}{Q:VK}{a:Addr}
end
section
variable {X:Cx}{K:aD}{H:Hp}{Q:VK}{σ:St}{a:Addr}
end
section
variable {X:Cx}{tg:Expr}
end
section
variable {K:aD}{nx bk ct:St->Hp->Prop}{rt:VK}{σ:St}{H:Hp}{Q:VK}{te:TE}
end
section
variable {K:aD}{nx:St->Hp->Prop}{rt:VK}{σ:St}{H:Hp}{g:TG}{tb:TS}{a:Addr}{xs:List V}
end
section
variable {K:aD}{H:Hp}{Q:VK}{te:TE}{tt:TT}{τ:St}{a:Addr}{xs:List V}
end
section
variable {nx bk ct:St->Hp->Prop}{rt:VK}{σ:St}{H:Hp}{t u:TS}
def C4(t u:TS):TS:=Pu t u
def Ri{D:Ends}(h:C4 t u D σ H):Pu t u D σ H:=h
def Rj(h:∀nx':St->Hp->Prop,(∀σ H,u ⟨nx,rt,λ_ _=>False,λ_ _=>False⟩ σ H->nx' σ H)->t ⟨nx',rt,λ_ _=>False,λ_ _=>False⟩ σ H):C4 t u ⟨nx,rt,λ_ _=>False,λ_ _=>False⟩ σ H:=h _ λ_ _ x=>x
def Bv(h:∀nx':St->Hp->Prop,(∀σ H,u ⟨nx,rt,bk,ct⟩ σ H->nx' σ H)->t ⟨nx',rt,bk,ct⟩ σ H):C4 t u ⟨nx,rt,bk,ct⟩ σ H:=h _ λ_ _ x=>x
def Rk(h:∀no Z5 Z6:St->Hp->Prop,(∀σ H,nx σ H->no σ H)->(∀σ H,bk σ H->Z5 σ H)->(∀σ H,ct σ H->Z6 σ H)->∀nx':St->Hp->Prop,(∀σ H,u ⟨no,rt,Z5,Z6⟩ σ H->nx' σ H)->t ⟨nx',rt,Z5,Z6⟩ σ H):C4 t u ⟨nx,rt,bk,ct⟩ σ H:=h _ _ _ (λ_ _ x=>x) (λ_ _ x=>x) (λ_ _ x=>x) _ λ_ _ x=>x
def Oh{c:TT}(h:∀kt kf:Hp->Prop,(∀H,t ⟨nx,rt,bk,ct⟩ σ H->kt H)->(∀H,u ⟨nx,rt,bk,ct⟩ σ H->kf H)->c σ H λb H1=>if b=true then kt H1 else kf H1):TX c t u ⟨nx,rt,bk,ct⟩ σ H:=h _ _ (λ_ x=>x) λ_ x=>x
end
end L2
namespace SN
open PySem
variable {xs:Array Nat}
def Ie{j:Nat}(hs:xs.toList.Pairwise (· < ·)):∀(fuel lo hi:Nat),hi-lo<=fuel->lo<=hi->hi<=xs.size->(∀i v,i<lo->xs[i]?=some v->v<j)->(∀i v,hi<=i->xs[i]?=some v->j<=v) ->
  ∀p,SetTable.below.go xs j fuel lo hi=p->p<=xs.size/\(∀i v,i<p->xs[i]?=some v->v<j)/\∀i v,p<=i->xs[i]?=some v->j<=v:=by
 sleep 61;intro fuel;induction fuel with
 | zero =>
  intro lo hi hf hlh hsz h1 h2 p e;unfold SetTable.below.go at e;subst e;have:lo=hi:=by omega
  exact⟨by omega,h1,λi v hi'=>h2 i v (by omega)⟩
 | succ fuel ih =>
  intro lo hi hf hlh hsz h1 h2 p e;unfold SetTable.below.go at e;by_cases hlt:lo<hi
  .rw[if_pos hlt] at e;dsimp only at e;have hm:(lo+hi) / 2<xs.size:=by omega
   have hg:xs[(lo+hi) / 2]?=some xs[(lo+hi) / 2]:=gu hm;have hgd:xs.getD ((lo+hi) / 2) j=xs[(lo+hi) / 2]:=by simp[Array.getD,hm]
   rw[hgd] at e;by_cases hc:xs[(lo+hi) / 2]<j
   .rw[if_pos hc] at e;refine ih ((lo+hi) / 2+1) hi (by omega) (by omega) hsz (λi v hi' hv=>?_) h2 p e;rcases aY i ((lo+hi) / 2) with hl|hg'
    .have:=mono hl hv hg;omega
    .sleep 188;exact hc
   .rw[if_neg hc] at e;refine ih lo ((lo+hi) / 2) (by omega) (by omega) (by omega) h1 (λi v hi' hv=>?_) p e;rcases aY ((lo+hi) / 2) i with hl|hg'
    .have:=mono hl hg hv;omega
    .sleep 188;omega
  .rw[if_neg hlt] at e;subst e;exact⟨by omega,h1,λi v hi'=>h2 i v (by omega)⟩
def kF(hs:xs.toList.Pairwise (· < ·))(j:Nat):SetTable.below xs j<=xs.size/\(∀i v,i<SetTable.below xs j->xs[i]?=some v->v<j)/\∀i v,SetTable.below xs j<=i->xs[i]?=some v->j<=v :=
 Ie hs xs.size 0 xs.size (by omega) (by omega) (az _) (λi v h=>absurd h (gF _)) (λi v h hv=>by
  have:=(mH.mp hv).1;omega) _ rfl
def Bw(hs:xs.toList.Pairwise (· < ·)):SetTable.below xs 0=0:=by
 obtain⟨h1,h2,_⟩:=kF hs 0;rcases Nat.eq_zero_or_pos (SetTable.below xs 0) with e|hp
 .exact e
 .have:=h2 0 xs[0] hp (gu (by omega));omega
def Bx(hs:xs.toList.Pairwise (· < ·)){i v:Nat}(hv:xs[i]?=some v):SetTable.below xs (v+1)=i+1:=by
 obtain⟨h1,h2,h3⟩:=kF hs (v+1);have hi:=(mH.mp hv).1;sleep 61;rcases lW (SetTable.below xs (v+1)) (i+1) with hl|he|hg
 .have:=h3 i v (by omega) hv;omega
 .exact he
 .have hk:i+1<xs.size:=by omega
  have hu:=gu hk;have h4:=h2 (i+1) _ hg hu;have h5:=mono (g8 i) hv hu;omega
def mL(hs:xs.toList.Pairwise (· < ·)){j:Nat}(hj:∀(i:Nat)(v:Nat),xs[i]?=some v->v≠j):(SetTable.insertAt xs (SetTable.below xs j) j).toList.Pairwise (· < ·):=by
 obtain⟨h1,h2,h3⟩:=kF hs j;rw[SetTable.toList_insertAt];have hmt:∀v∈xs.toList.take (SetTable.below xs j),v<j:=λv hv=>by
  obtain⟨i,hi⟩:=fV.mp hv;have hlt:i<SetTable.below xs j:=by have:=(fq hi).1;rw[cG] at this;omega
  rw[rO hlt,fR] at hi;exact h2 i v hlt hi
 have hmd:∀v∈xs.toList.drop (SetTable.below xs j),j<v:=λv hv=>by obtain⟨i,hi⟩:=fV.mp hv;rw[List.getElem?_drop,fR] at hi;have h4:=h3 _ v (m8 _ _) hi;have h5:=hj _ v hi;omega
 rw[List.pairwise_append];refine⟨hs.sublist (List.take_sublist ..),?_,λa ha b hb=>?_⟩
 .rw[pI];exact⟨hmd,hs.sublist (List.drop_sublist ..)⟩
 .have:=hmt a ha;rcases aI.mp hb with e|hb
  .omega
  .have:=hmd b hb;omega
end SN
namespace SG
open PySem
variable {led:Bool}{es:Array (Int×Value)}{t:SetTable}{j ep i:Nat}{a it tp:Addr}{o:Obj}{Q:Value->Shared->Prop}{ys:List Nat}{ns:List Int}
structure Tab (led:Bool) (es:Array (Int×Value)) (t:SetTable):Prop where
 led:t.led=led
 E3:t.dummies=#[]
 up:t.place.toList.Pairwise (· < ·)
 fits:t.fits es.size=true
def Tab.sz(T:Tab led es t):t.place.size=es.size:=by have:=T.fits;unfold SetTable.fits at this;simp only[rF,beq_iff_eq] at this;exact this.1
def nR(h:t.dummies=#[])(j:Nat):SetTable.has t.dummies j=false:=by unfold SetTable.has;rw[h];simp
def nu(hs:t.place.toList.Pairwise (· < ·))(h:t.slot j=.empty):∀(i:Nat)(v:Nat),t.place[i]?=some v->v≠j:=by
 intro i v hv e;subst e;obtain⟨h1,h2,h3⟩:=SN.kF hs v;have hi:SetTable.below t.place v<=i:=by
  rcases aY i (SetTable.below t.place v) with hl|hg
  .exact absurd (h2 i v hl hv) (fY _)
  .exact hg
 have hlt:=(mH.mp hv).1;have hb:SetTable.below t.place v<t.place.size:=Nat.lt_of_le_of_lt hi hlt;have hg:=gu hb;have h4:=h3 _ _ (az _) hg;have hi2:SetTable.below t.place v=i:=by
  rcases aY (SetTable.below t.place v) i with hl|hge
  .rw[<- fR] at hv hg;obtain⟨a1,e1⟩:=fq hg;obtain⟨a2,e2⟩:=fq hv;have:=k9.mp hs _ _ a1 a2 hl;rw[e1,e2] at this;omega
  .omega
 unfold SetTable.slot at h;dsimp only at h;rw[hi2,hv] at h;simp at h
def yJ(hd:t.dummies=#[])(f:Nat->Int)(x:Int):∀(fuel:Nat)(p:SetTable.Probe)(j:Nat)(dm:Option Nat),p.dummy=none->SetTable.probe.go t f x fuel p=some (.empty j dm)->dm=none/\t.slot j=.empty:=by
 intro fuel;induction fuel with
 | zero=>intro p j dm _ h;cases h
 | succ fuel ih =>
  intro p j dm hp h;have adv:(t.advance p).dummy=none:=by unfold SetTable.advance;split<;>exact hp
  unfold SetTable.probe.go at h;cases hs:t.slot p.j with
  | empty =>
   rw[hs] at h;cases h;exact⟨hp,hs⟩
  | dummy =>
   exfalso;unfold SetTable.slot at hs;dsimp only at hs;rw[nR hd] at hs;split at hs<;>cases hs
  | live i =>
   rw[hs] at h;dsimp only at h;split at h
   .cases h
   .exact ih _ j dm adv h
def E4(hd:t.dummies=#[]){x:Int}{b:Bool}(h:t.freeSlot x=some (j,b)):b=false/\t.slot j=.empty:=by
 unfold SetTable.freeSlot at h;cases e:t.probe (λ_=>x+1) x (t.probeStart x) with
 | none=>rw[e] at h;cases h
 | some m =>
  cases m with
  | candidate _ _ _=>rw[e] at h;cases h
  | empty k dm =>
   rw[e] at h;obtain⟨rfl,h2⟩:=yJ hd _ _ _ _ k dm rfl e;cases h;exact⟨rfl,h2⟩
def nS(n:Nat):(Array.range n).toList.Pairwise (· < ·):=by rw[Array.toList_range];exact wj
def Tab.lay(T:Tab led es t)(h:Int)(x:Value):
  ∃es1 t1 gv,layNew t es h x=(es1,t1,false,gv)/\Tab led es1 t1/\es1.toList.Perm (es.toList++[(h,x)]):=by
 have hp:=layNew_perm t es h x;have hf:=layNew_fits t es h x;rw[Array.toList_push] at hp;cases e:t.freeSlot h with
 | none =>
  have el:layNew t es h x=(es.push (h,x),t.standIn (es.size+1),false,true):=by unfold layNew;rw[e]
  rw[el] at hp hf;exact⟨_,_,_,el,⟨T.led,rfl,nS _,hf⟩,hp⟩
 | some q =>
  obtain⟨j,b⟩:=q;obtain⟨rfl,hs⟩:=E4 T.E3 e;have Rl:t.put j=({ t with place:=SetTable.insertAt t.place (SetTable.below t.place j) j },SetTable.below t.place j):=by unfold SetTable.put;rw[nR T.E3];rfl
  have el:layNew t es h x=(SetTable.insertAt es (SetTable.below t.place j) (h,x),({ t with place:=SetTable.insertAt t.place (SetTable.below t.place j) j }:SetTable).orStandIn (SetTable.insertAt es (SetTable.below t.place j) (h,x)).size,false,!({ t with place:=SetTable.insertAt t.place (SetTable.below t.place j) j }:SetTable).fits (SetTable.insertAt es (SetTable.below t.place j) (h,x)).size):=by unfold layNew;rw[e];dsimp only;rw[Rl]
  rw[el] at hp hf;dsimp only at hp hf;refine⟨_,_,_,el,⟨?_,?_,?_,hf⟩,hp⟩
  .unfold SetTable.orStandIn;split<;>exact T.led
  .unfold SetTable.orStandIn;split
   .exact T.E3
   .rfl
  .unfold SetTable.orStandIn;split
   .exact SN.mL T.up (nu T.up hs)
   .exact nS _
def Tab.VI(T:Tab led es t)(n:Nat):
    ∃es1 t1 gv,relayAll t es n=(es1,t1,gv)/\Tab led es1 t1/\es1.toList.Perm es.toList:=by
  have hp:=relayAll_perm t es n;have hf:=relayAll_fits t es n;generalize hR:relayAll t es n=R at hp hf;obtain⟨es1,t1,gv⟩:=R;dsimp only at hp hf;refine⟨es1,t1,gv,rfl,⟨?_,?_,?_,hf⟩,hp⟩<;>clear hp hf<;>unfold relayAll at hR<;>cases e:t.relaid (es.map (·.1)) n with
  | none =>
    rw[e] at hR;cases hR
    first|exact T.led|rfl|exact nS _
  | some q =>
    obtain⟨t',od⟩:=q;rw[e] at hR;dsimp only at hR;split at hR
    · obtain⟨rfl,rfl,_⟩:_/\_/\_:=by simpa only[Prod.mk.injEq] using hR
      unfold SetTable.relaid SetTable.laid at e;cases e2:SetTable.layClean (SetTable.sizeAbove n-1) (es.map (·.1)) with
      | none=>rw[e2] at e;cases e
      | some ow =>
        rw[e2] at e;cases e
        first
          | exact T.led
          | rfl
          | (rw[List.toList_toArray,lg]
             refine List.Pairwise.filterMap _ (λa b hab x hx y hy=>?_) (wj (n:=SetTable.sizeAbove n-1+1));obtain⟨_,_,rfl⟩:=dg.mp hx;obtain⟨_,_,rfl⟩:=dg.mp hy;exact hab)
    · cases hR
      first|exact T.led|rfl|exact nS _
open PySem.Spec PyProof.Rows
def cC(w:World):Bool:=w.params.followText "set-order"
def LW:entryFor table "set.__iter__" = some Builtin.«frozenset.__iter__»:=entryFor_alias (id' := "frozenset.__iter__") (by kernel_rfl) rfl (by decide +kernel) (by kernel_rfl)
def gk:Slot "set_iterator" "__next__" "set_iterator.__next__" := .of (owner := "set_iterator") (n := "__next__") (by rw[typeLookup_type,builtinLookup_eq_fast];kernel_rfl) (by decide +kernel) (by decide +kernel) (by decide +kernel) (by first|exact .inl (by decide +kernel)|exact .inr (by decide +kernel)) (by rw[isSubtype_type];kernel_rfl)
def qL:entryFor table "set_iterator.__next__" = some Builtin.«set_iterator.__next__»:=entryFor_of_tree (by kernel_rfl)
def qM(a:Value):argsOk "set_iterator.__next__" ⟨[a],[]⟩:=by unfold argsOk;kernel_rfl
def qN:Slot "set_iterator" "__iter__" "set_iterator.__iter__" := .of (owner := "set_iterator") (n := "__iter__") (by rw[typeLookup_type,builtinLookup_eq_fast];kernel_rfl) (by decide +kernel) (by decide +kernel) (by decide +kernel) (by first|exact .inl (by decide +kernel)|exact .inr (by decide +kernel)) (by rw[isSubtype_type];kernel_rfl)
def C5:entryFor table "set_iterator.__iter__" = some Builtin.«dict_keyiterator.__iter__»:=entryFor_alias (id' := "dict_keyiterator.__iter__") (by kernel_rfl) rfl (by decide +kernel) (by kernel_rfl)
def C6(a:Value):argsOk "set_iterator.__iter__" ⟨[a],[]⟩:=by unfold argsOk;kernel_rfl
def ord(w:World)(a:Addr)(es:Array (Int×Value))(ep:Nat):Array (Int×Value):=if cC w=true then pickOrder (w.params.setOrder a ep) es else es
theorem nv{α:Type}:∀(l:List α)(i:Nat)(h:i<l.length),(l[i]::l.eraseIdx i).Perm l
 | x::l,0,_=>mU _
 | x::l,i+1,h=>by
  have hi:i<l.length:=by simpa using h
  simp only[List.getElem_cons_succ,wg];exact(List.Perm.swap x l[i] _).trans ((nv l i hi).cons x)
theorem vf{α:Type}(nx:Nat->Nat):∀(fuel k:Nat)(left:List α)(out:Array α),left.length<=fuel->(pickOrder.go nx fuel k left out).toList.Perm (out.toList++left)
 | 0,k,left,out,h=>by
  unfold pickOrder.go;rw[List.eq_nil_of_length_eq_zero (Nat.le_zero.mp h),iZ]
 | fuel+1,k,left,out,h=>by
  unfold pickOrder.go;cases e:left[nx k % left.length]? with
  | none =>
   dsimp only;have:left=[]:=by
    cases left with
    | nil=>rfl
    | cons x l =>
     have hlt:nx k % (x::l).length<(x::l).length:=Nat.mod_lt _ (Nat.zero_lt_succ _);rw[fN hlt] at e;cases e
   rw[this,iZ]
  | some x =>
   dsimp only;obtain⟨hlt,ex⟩:=fq e;have hl:(left.eraseIdx (nx k % left.length)).length<=fuel:=by rw[List.length_eraseIdx_of_lt hlt];omega
   refine(vf nx fuel (k+1) _ (out.push x) hl).trans ?_;rw[Array.toList_push,mV];refine List.Perm.append_left _ ?_;have:=nv left _ hlt;rw[ex] at this;exact this
def Ig(w:World)(a:Addr)(es:Array (Int×Value))(ep:Nat):(ord w a es ep).toList.Perm es.toList:=by
 unfold ord;split
 .unfold pickOrder;have:=vf (w.params.setOrder a ep) es.size 0 es.toList #[] (by simp);simpa using this
 .exact mU _
def uE{M:Model}{A:Around}{E:Value->Shared->Prop}{s:Shared}{src:Source}{n:Nat}{Q:Nat->Shared->Prop}(hn:n≠0)(h:∀i,i<n->Q i { s with drawn:=s.drawn.bump src }):wpAny M A (choose src n) Q E s :=
 λ_ _ _=>⟨hn,h _ (Nat.mod_lt _ (Nat.pos_of_ne_zero hn))⟩
theorem sI{M:Model}{A:Around}{E:Value->Shared->Prop}{α:Type}:∀(n:Nat)(xs:List α)(s:Shared)(Q:List α->Shared->Prop),xs.length<=n->(∀ys d',ys.Perm xs->Q ys { s with drawn:=d' })->wpAny M A (drawOrder n xs) Q E s
 | 0,xs,s,Q,hn,h=>by
  have:xs=[]:=List.eq_nil_of_length_eq_zero (Nat.le_zero.mp hn);subst this;exact aL (h [] s.drawn (mU _))
 | n+1,[],s,Q,hn,h=>aL (h [] s.drawn (mU _))
 | n+1,x::xs,s,Q,hn,h=>by
  unfold drawOrder;refine aq (uE (by simp) λi hi=>?_);have e:(x::xs)[i]?=some (x::xs)[i]:=fN hi;rw[e];dsimp only;have hl:((x::xs).eraseIdx i).length<=n:=by rw[List.length_eraseIdx_of_lt hi];simp only[eB] at hn ⊢;omega
  refine aq (sI n _ _ _ hl λys d' hp=>aL ?_);exact h _ d' ((hp.cons _).trans (nv _ i hi))
section
variable {prog:Program}{w:World}{A:Around}{E:Value->Shared->Prop}{s:Shared}
def Still(w:World)(es:Array (Int×Value))(t:SetTable):Prop:=cC w=true\/t.plain=true\/es.size<=1
def E5(w:World)(a:Addr)(o:Obj)(es:Array (Int×Value))(ep:Nat)(t:SetTable)(it:Addr)(i:Nat)(h:Heap):Prop :=
 h.get? a=some o/\∃oi sl,h.get? it=some oi/\oi.cls=.type "set_iterator" /\ oi.data=.fields #[.int ((sl:Nat):Int) 0,.int ((i:Nat):Int) 0,.ref a,.int ((es.size:Nat):Int) 0,.int ((ep:Nat):Int) 0]/\(cC w=false->SetTable.below t.place sl=i)
def E5.ty(h:E5 w a o es ep t it i s.heap):s.TypeIs (.ref it) "set_iterator" := by obtain⟨_,oi,sl,h1,h2,_⟩:=h;exact⟨oi,h1,h2⟩
def C7{o:Obj}{sl:Nat}{Q:Option (Value×Nat)->Shared->Prop}(ho:s.heap.get? a=some o)(hd:o.data=.set es ep t)(T:Tab (!cC w) es t)(hst:Still w es t)(hb:cC w=false->SetTable.below t.place sl=i)
  (h:∀Gw,(∀e,(ord w a es ep)[i]?=some e->cC w=false->SetTable.below t.place Gw=i+1)->Q ((ord w a es ep)[i]?.map λe=>(e.2,Gw)) s):wpAny (model prog w) A (setNext a sl i ep) Q E s:=by
 unfold setNext;sleep 52;sleep 157;cases hx:cC w with
 | true =>
  rw[if_pos rfl];sleep 124;refine aq ?_;unfold setWalk;sleep 52;sleep 157;rw[if_pos hx];refine aq (wpAny_askSetting (aL (aL ?_)));have:=h sl (λe _ z=>by rw[hx] at z;cases z);unfold ord at this;rw[if_pos hx] at this;exact this
 | false =>
  sleep 105;have VJ:t.led=true:=by rw[T.led,hx];rfl
  have hz:=T.sz;have hup:=T.up;have hb':=hb hx;have ho':ord w a es ep=es:=by unfold ord;rw[hx];rfl
  rw[ho'] at h;have hdr:(!t.plain&&decide (es.size>1))=false:=by
   rcases hst with e|e|e
   .rw[hx] at e;cases e
   .rw[e];rfl
   .have:decide (es.size>1)=false:=decide_eq_false (by omega);rw[this,Bool.and_false]
  clear T hb ho hd hst;obtain⟨mask,place,dummies,finger,led,moves,plain⟩:=t;dsimp only at VJ hz hup hb' h hdr;subst VJ;show wpAny _ _ (if(!plain&&decide (es.size>1))=true then _ else _) _ _ _;rw[if_neg (by rw[hdr];decide)];refine aq (wpAny_of_eq (a:=()) rfl ?_);dsimp only;rw[hb'];rcases aY i es.size with hlt|hge
  .have e1:es[i]?=some es[i]:=gu hlt;have e2:place[i]?=some place[i]:=gu (by omega);rw[e1,e2];refine aL ?_;have:=h (place[i]+1) (λ_ _ _=>SN.Bx hup e2);rw[e1] at this;exact this
  .have e1:es[i]?=none:=qh hge;rw[e1];refine aL ?_;have:=h 0 (λe z=>by rw[e1] at z;cases z);rw[e1] at this;exact this
def LX{e:Int×Value}{Q:Option Value->Shared->Prop}(hne:a≠it)(hd:o.data=.set es ep t)(T:Tab (!cC w) es t)(hst:Still w es t)
  (I:E5 w a o es ep t it i s.heap)(hi:(ord w a es ep)[i]?=some e)(hQ:∀h',E5 w a o es ep t it (i+1) h'->(∀b x,b≠it->s.heap.get? b=some x->h'.get? b=some x)->Q (some e.2) { s with heap:=h' }):wpAny (model prog w) A (pyNext (.ref it)) Q E s:=by
 sleep 267;show wpAny _ _ (do setField (.ref it) 0 (rawInt Gw);setField (.ref it) 1 (rawInt ((i:Int)+1));ret e.2) _ _ s;have g1:=fB (Obj.mapFields (·.setIfInBounds 0 (rawInt Gw))) xY (iN (dF hf _));have d1:=dF hf (·.setIfInBounds 0 (rawInt Gw));refine aq (wpAny_setField xY hf (by simp) (aq (wpAny_setField g1 d1 (by simp) (aL ⟨_,rfl,aL (hQ _ ?_ λb x hb e=>?_)⟩))))
 .have hk:∀(f g:Obj->Obj)(b:Addr)(x:Obj),b≠it->s.heap.get? b=some x->((s.heap.update it f).update it g).get? b=some x:=λf g b x hb e=>by rw[fT _ _ _ _ hb,fT _ _ _ _ hb];exact e
  refine⟨hk _ _ _ _ hne ho,_,Gw,fB _ g1 (iN (dF d1 _)),(kh ..).trans ((kh ..).trans hc),?_,λhx=>hb' e hi hx⟩;rw[dF d1];simp[rawInt]
 .rw[fT _ _ _ _ hb,fT _ _ _ _ hb];exact e
def Rm{Q:Option Value->Shared->Prop}(hh:A.handled=none)(hne:a≠it)(hd:o.data=.set es ep t)(T:Tab (!cC w) es t)(hst:Still w es t)
  (I:E5 w a o es ep t it i s.heap)(hi:(ord w a es ep)[i]?=none)(hQ:∀h',(∀b x,b≠it->s.heap.get? b=some x->h'.get? b=some x)->Q none { s with heap:=h' }):wpAny (model prog w) A (pyNext (.ref it)) Q E s:=by sleep 267;show wpAny _ _ (do setField (.ref it) 2 .none;raiseNew (<- newExc (.type "StopIteration") [])) _ _ s;refine aq (wpAny_setField xY hf (by simp) (aq ?_));sleep 21;exact c8 _ (c8 _ (by rw[fT _ _ _ _ hb];exact e))
def E6(hh:A.handled=none)(hne:a≠it)(hd:o.data=.set es ep t)(T:Tab (!cC w) es t)(hst:Still w es t):
  Walks prog w A it [it,a] [it] (ord w a es ep).size (λi v=>∃e,(ord w a es ep)[i]?=some e/\v=e.2) (λi h=>E5 w a o es ep t it i h) where
 sub:=λb hb=>by simp at hb;simp[hb]
 frame:=λi h h' st hk=>by obtain⟨h1,oi,sl,h2,r⟩:=st;exact⟨hk a (by simp) o h1,oi,sl,hk it (by simp) oi h2,r⟩
 item:=λi s Q E hi st hQ=>LX hne hd T hst st (gu hi) λh' st' hk=>hQ _ h' s.toks ⟨_,gu hi,rfl⟩ st' λb x hb e=>hk b x (λz=>hb (by simp[z])) e
 done:=λs Q E st hQ=>Rm hh hne hd T hst st (qh (az _)) λh' hk=>hQ h' s.toks λb x hb e=>hk b x (λz=>hb (by simp[z])) e
 self:=λi s Q E st hQ=>by sleep 82
def E7(a:Addr)(o:Obj)(es:Array (Int×Value))(ep:Nat)(tp:Addr)(ys:List Nat)(it:Addr)(i:Nat)(h:Heap):Prop :=
 h.get? a=some o/\(∃ot n,h.get? tp=some ot/\ot.data=.seq (ys.map λ(j:Nat)=>rawInt j).toArray n)/\∃oi,h.get? it=some oi/\oi.cls=.type "set_iterator" /\ oi.data=.fields #[.ref tp,.int ((i:Nat):Int) 0,.ref a,.int ((es.size:Nat):Int) 0,.int ((ep:Nat):Int) 0]
def E7.ty(h:E7 a o es ep tp ys it i s.heap):s.TypeIs (.ref it) "set_iterator" := by obtain⟨_,_,oi,h1,h2,_⟩:=h;exact⟨oi,h1,h2⟩
def LY{t:SetTable}{e:Int×Value}{Q:Option Value->Shared->Prop}(hne:a≠it)(hnt:tp≠it)(hd:o.data=.set es ep t)(hfit:t.fits es.size=true)
  (I:E7 a o es ep tp ys it i s.heap)(hi:ys[i]?=some j)(he:es[j]?=some e)(hQ:∀h',E7 a o es ep tp ys it (i+1) h'->(∀b x,b≠it->s.heap.get? b=some x->h'.get? b=some x)->Q (some e.2) { s with heap:=h' }):wpAny (model prog w) A (pyNext (.ref it)) Q E s:=by
 sleep 265;have e1:((ys.map λ(j:Nat)=>rawInt j).toArray)[i]?=some (rawInt j):=by rw[k6,bz,hi];rfl
 rw[e1];show wpAny _ _ (do let x <- setNextDrawn a ((j:Nat):Int).toNat ((ep:Nat):Int).toNat;setField (.ref it) 1 (rawInt ((i:Int)+1));ret x) _ _ s;rw[show((j:Nat):Int).toNat=j from rfl,show((ep:Nat):Int).toNat=ep from rfl];refine aq ?_;unfold setNextDrawn;refine aq (wpAny_setState_of ho hd hfit ?_);dsimp only;rw[if_neg (by simp),he];refine aL ?_;refine aq (wpAny_setField xY hf (by simp) (aL ⟨_,rfl,aL (hQ _ ?_ λb x hb e=>?_)⟩))
 .refine⟨by rw[fT _ _ _ _ hne];exact ho,⟨ot,nt,by rw[fT _ _ _ _ hnt];exact AW,hdt⟩,_,fB _ xY (iN (dF hf _)),(kh ..).trans hc,?_⟩;rw[dF hf];simp[rawInt]
 .rw[fT _ _ _ _ hb];exact e
def Rn{t:SetTable}{Q:Option Value->Shared->Prop}(hh:A.handled=none)(hne:a≠it)(hd:o.data=.set es ep t)(hfit:t.fits es.size=true)
  (I:E7 a o es ep tp ys it i s.heap)(hi:ys[i]?=none)(hQ:∀h',(∀b x,b≠it->s.heap.get? b=some x->h'.get? b=some x)->Q none { s with heap:=h' }):wpAny (model prog w) A (pyNext (.ref it)) Q E s:=by
 sleep 265;have e1:((ys.map λ(j:Nat)=>rawInt j).toArray)[i]?=none:=by rw[k6,bz,hi];rfl
 rw[e1];show wpAny _ _ (do setField (.ref it) 0 (rawInt 0);setField (.ref it) 2 .none;raiseNew (<- newExc (.type "StopIteration") [])) _ _ s;have g1:=fB (Obj.mapFields (·.setIfInBounds 0 (rawInt 0))) xY (iN (dF hf _));have d1:=dF hf (·.setIfInBounds 0 (rawInt 0));refine aq (wpAny_setField xY hf (by simp) (aq (wpAny_setField g1 d1 (by simp) (aq ?_))));sleep 21;exact c8 _ (c8 _ (by rw[fT _ _ _ _ hb,fT _ _ _ _ hb];exact e))
def ql(es:Array (Int×Value))(ys:List Nat):Array (Int×Value):=(ys.map λj=>es.toList.getD j (0,.none)).toArray
def By(h:ys.Perm (List.range es.size)):(ql es ys).toList.Perm es.toList:=by
 unfold ql;rw[List.toList_toArray];refine(h.map _).trans ?_;have:(List.range es.size).map (λj=>es.toList.getD j (0,.none))=es.toList:=by refine List.ext_getElem (by simp) λi h1 h2=>?_;simp only[rQ,List.getElem_range];rw[mG,fN h2];rfl
 rw[this]
def yK(hh:A.handled=none){t:SetTable}(hne:a≠it)(hnt:tp≠it)(hd:o.data=.set es ep t)(hfit:t.fits es.size=true)(hp:ys.Perm (List.range es.size)):
  Walks prog w A it [it,a,tp] [it] (ql es ys).size (λi v=>∃e,(ql es ys)[i]?=some e/\v=e.2) (λi h=>E7 a o es ep tp ys it i h) where
 sub:=λb hb=>by simp at hb;simp[hb]
 frame:=λi h h' st hk=>by obtain⟨h1,⟨ot,nt,h2,h3⟩,oi,h4,r⟩:=st;exact⟨hk a (by simp) o h1,⟨ot,nt,hk tp (by simp) _ h2,h3⟩,oi,hk it (by simp) oi h4,r⟩
 item:=λi s Q E hi st hQ=>by
  have hi':i<ys.length:=by simpa[ql] using hi
  have e1:ys[i]?=some ys[i]:=fN hi';have hj:ys[i]<es.size:=fW.mp (hp.mem_iff.mp (jH hi'));have e2:es[ys[i]]?=some es[ys[i]]:=gu hj;refine LY hne hnt hd hfit st e1 e2 λh' st' hk=>hQ _ h' s.toks ⟨es[ys[i]],?_,rfl⟩ st' λb x hb e=>hk b x (λz=>hb (by simp[z])) e;unfold ql;rw[k6,bz,e1];show some (es.toList.getD ys[i] (0,.none))=_;rw[mG,fR,e2];rfl
 done:=λs Q E st hQ=>Rn hh hne hd hfit st (by simp[ql]) λh' hk=>hQ h' s.toks λb x hb e=>hk b x (λz=>hb (by simp[z])) e
 self:=λi s Q E st hQ=>by sleep 82
def Ih{o:Obj}{t:SetTable}(ho:s.heap.get? a=some o)(hx:o.ExactSet)(hd:o.data=.set es ep t)(T:Tab (!cC w) es t)(hsz:es.size<=100000)
  (h:∀(it:Addr)(h':Heap)(d':Drawn)(fp:List Addr)(od:Array (Int×Value))(St:Nat->Heap->Prop),(∀b x,s.heap.get? b=some x->h'.get? b=some x)->s.heap.objs.size<=it->(∀b∈fp,b=a\/s.heap.objs.size<=b)->od.toList.Perm es.toList ->
   (∀A':Around,A'.handled=none->Walks prog w A' it fp [it] od.size (λi v=>∃e,od[i]?=some e/\v=e.2) St)->St 0 h'->Q (.ref it) { s with heap:=h',drawn:=d' }):wpAny (model prog w) A (pyIter (.ref a)) Q E s:=by
 have ty:s.TypeIs (.ref a) "set" := ⟨o,ho,hx.1⟩;have hlt:=aK ho;refine wpAny_pyIter_slot ty F.slot_set_iter (wpAny_call_entry F.slot_set_iter ty LW ?_ (F.args_set_iter_1 _));unfold Builtin.«frozenset.__iter__»;refine aq (wpAny_of_eq (a:=a) rfl ?_);refine aq (m:=Builtin.Frozenset.sizeOf a) (aq (wpAny_setEntries_of ho hd T.fits (aL ?_)));unfold setDrawn;refine aq (aq (wpAny_setState_of ho hd T.fits ?_));dsimp only;unfold setsByText;refine aq (aq (wpAny_askSetting (aL (aL ?_))));show wpAny _ _ (if(!cC w&&(!t.plain&&decide (es.size>1)))=true then _ else _) _ _ _;by_cases hdr:(!cC w&&(!t.plain&&decide (es.size>1)))=true
 .rw[if_pos hdr];refine aq (sI es.size (List.range es.size) s _ (by simp) λys d' hp=>?_);have hyl:ys.length=es.size:=by rw[hp.length_eq,gT]
  refine aq (wpAny_newTuple ?_ (by rw[av,hyl,sizeLine_eq];omega));refine aq (wpAny_setEpoch_of (c8 _ ho) hd T.fits (aq (wpAny_newObj_type (aL ⟨_,rfl, "set_iterator", _,⟨_,iC _ rfl,rfl⟩,gk.lookup,?_⟩))));dsimp only;have hz:(s.heap.push { cls:=.type "tuple", data:=.seq (ys.map λ(i:Nat)=>rawInt i).toArray }).objs.size=s.heap.objs.size+1:=by rw[fE]
  refine h _ _ d' [_,a,s.heap.objs.size] (ql es ys) _ (λb x e=>c8 _ (c8 _ e)) (by rw[hz];exact lq _) (λb hb=>?_) (By hp) (λA' hA=>yK hA (tp:=s.heap.objs.size) (by rw[hz];exact aQ (jn hlt)) (by rw[hz];exact aQ (g8 _)) hd T.fits hp) ?_
  .sleep 99;rcases hb with e|e|e
   .rw[e,hz];exact .inr (lq _)
   .exact .inl e
   .rw[e];exact .inr (az _)
  .exact⟨c8 _ (c8 _ ho),⟨_,_,c8 _ (iC _ rfl),rfl⟩,_,iC _ rfl,rfl,rfl⟩
 .rw[if_neg hdr];have hst:Still w es t:=by
   unfold Still;cases hb:cC w
   .cases hpl:t.plain
    .rw[hb,hpl] at hdr;simp at hdr;exact .inr (.inr hdr)
    .exact .inr (.inl rfl)
   .exact .inl rfl
  refine aq (aL (aq (wpAny_setEpoch_of ho hd T.fits (aq (wpAny_newObj_type (aL ⟨_,rfl, "set_iterator", _,⟨_,iC _ rfl,rfl⟩,gk.lookup,?_⟩))))));refine h s.heap.objs.size _ s.drawn [s.heap.objs.size,a] (ord w a es ep) _ (λb x e=>c8 _ e) (az _) (λb hb=>?_) (Ig w a es ep) (λA' hA=>E6 hA (aQ hlt) hd T hst) ?_
  .sleep 99;rcases hb with e|e
   .rw[e];exact .inr (az _)
   .exact .inl e
  .exact⟨c8 _ ho,_,0,iC _ rfl,rfl,rfl,λ_=>SN.Bw T.up⟩
def Ro(es:List (Int×Value)):Prop:=∀e∈es,∃n k,e=(hashInt n,Value.int n k)
def Small(led:Bool)(h:Heap)(a:Addr)(ns:List Int):Prop :=
 ∃o es ep t,h.get? a=some o/\o.ExactSet/\o.data=.set es ep t/\Tab led es t/\Ro es.toList/\es.size=ns.length/\ns.Nodup/\∀n,n∈ns↔∃k,((hashInt n,Value.int n k):Int×Value)∈es.toList
def Small.at'{h h':Heap}(S:Small led h a ns)(e:∀o,h.get? a=some o->h'.get? a=some o):Small led h' a ns:=by obtain⟨o,es,ep,t,ho,r⟩:=S;exact⟨o,es,ep,t,e o ho,r⟩
def Ro.elems{es:List (Int×Value)}(h:Ro es):ElemsOf (intKind prog w) es:=λe he=>by obtain⟨n,k,rfl⟩:=h e he;exact⟨⟨n,intKind_is _ _ _ _,rfl⟩,rfl⟩
def yL(b:Bool){s1:Shared}{R:Unit->Shared->Prop}(h:R () s1):wpAny (model prog w) A (match b with|true=>rule "set.scan.the-table-gave-way" | false=>pure ()) R E s1:=by
 cases b
 .exact aL h
 .exact wpAny_rule h
def yM{o:Obj}{t:SetTable}(ho:s.heap.get? a=some o)(hx:o.ExactSet)(hd:o.data=.set es ep t){es1:Array (Int×Value)}{t1:SetTable}(T1:Tab led es1 t1)(hz:es1.size<=100000)
  {g:Bool->Sem Unit}(hg:∀(b:Bool)(s₁:Shared)(Q':Unit->Shared->Prop),Q' () s₁->wpAny (model prog w) A (g b) Q' E s₁){R:Option Bool->Shared->Prop}
  (h:∀h' o2 nT E8 t2,Heap.SameBut a s.heap h'->h'.get? a=some o2->o2.ExactSet->o2.data=.set nT E8 t2->Tab led nT t2->nT.toList.Perm es1.toList->R (some true) { s with heap:=h' }):
  wpAny (model prog w) A (do
    storeSet a es1 t1
    if(!false&&t1.tooFull)=true then do
      g (relayAll t1 es1 (SetTable.grown es1.size)).2.2
      storeSet a (relayAll t1 es1 (SetTable.grown es1.size)).1 (relayAll t1 es1 (SetTable.grown es1.size)).2.1
      pure (some true)
     else pure (some true)) R E s:=by
 refine aq (wpAny_storeSet_of ho hd ?_ (by rw[sizeLine_eq];omega));have LZ:=fB (Obj.putSet es1 t1) ho (by rw[putSet_of es1 t1 hd];rfl);rw[putSet_of es1 t1 hd] at LZ;have Og:=jC s.heap a (Obj.putSet es1 t1);split
 .obtain⟨nT,t2,gv,er,T2,perm⟩:=T1.VI (SetTable.grown es1.size);rw[er];dsimp only;have hz2:nT.size=es1.size:=by rw[<- cY,perm.length_eq,cY]
  refine aq (hg _ _ _ ?_);refine aq (wpAny_storeSet_of LZ rfl ?_ (by rw[sizeLine_eq];omega));have Te:=fB (Obj.putSet nT t2) LZ (by rw[putSet_of nT t2 rfl];rfl);rw[putSet_of nT t2 rfl] at Te;exact aL (h _ _ nT _ t2 (Og.trans (jC _ a _)) Te hx rfl T2 perm)
 .exact aL (h _ _ es1 _ t1 Og LZ hx rfl T1 (mU _))
def add_int{k:Int}{q:Tok}{Q:Bool->Shared->Prop}(hS:Small led s.heap a ns)(hl:ns.length<=4000)
  (h:∀b h',Heap.SameBut a s.heap h'->Small led h' a (if k∈ns then ns else ns++[k])->Q b { s with heap:=h' }):wpAny (model prog w) A (setAddHashed a (.int k q) (hashInt k)) Q E s:=by
 obtain⟨o,es,ep,t,ho,hx,hd,T,hI,hz,nd,mem⟩:=hS;have hel:=hI.elems (prog:=prog) (w:=w);have hb:es.size<scanBound:=by unfold scanBound;omega
 have isk:(intKind prog w).is k (.int k q)=true:=intKind_is _ _ _ _;sleep 163;rw[byScan_of (knd:=intKind prog w) rfl hb hel,if_pos rfl];unfold setAddByScan;refine aq (aq (wpAny_rule (aq (wpAny_setScan_of (knd:=intKind prog w) isk ho hd T.fits hel ?_))));cases hr:es.toList.findIdx? (λe=>(intKind prog w).is k e.2) with
 | some j =>
  dsimp only;obtain⟨hj,hpj,_⟩:=List.findIdx?_eq_some_iff_getElem.mp hr;have hin:k∈ns:=by rw[mem];have hm:=jH hj;obtain⟨n,c,e3⟩:=hI _ hm;rw[e3] at hpj hm;have:k=n:=(intKind prog w).inj _ _ _ hpj (intKind_is _ _ _ _);rw[this];exact⟨c,hm⟩
  refine aL (aL ?_);exact h false s.heap (rJ a s.heap) (by rw[if_pos hin];exact⟨o,es,ep,t,ho,hx,hd,T,hI,hz,nd,mem⟩)
 | none =>
  dsimp only;have hno:=List.findIdx?_eq_none_iff.mp hr;have Ii:k∉ns:=λhin=>by obtain⟨c,hc⟩:=(mem _).mp hin;have:=hno _ hc;rw[intKind_is] at this;cases this
  obtain⟨es1,t1,gv,hlay,T1,perm⟩:=T.lay (hashInt k) (.int k q);have hz1:es1.size=es.size+1:=by rw[<- cY,perm.length_eq,aR,cY];rfl
  rw[hlay];dsimp only;refine aq (yL gv ?_);have fin:∀h' o2 nT E8 t2,Heap.SameBut a s.heap h'->h'.get? a=some o2->o2.ExactSet->o2.data=.set nT E8 t2->Tab led nT t2->nT.toList.Perm es1.toList->Q true { s with heap:=h' }:=λh' o2 nT E8 t2 sb g2 x2 d2 T2 p2=>by
   have p3:=p2.trans perm;refine h true h' sb ?_;rw[if_neg Ii];refine⟨o2,nT,E8,t2,g2,x2,d2,T2,λe he=>?_,by rw[aR,<- cY,p3.length_eq,aR,cY,hz];rfl,?_,λn=>?_⟩
   .rcases aO.mp (p3.mem_iff.mp he) with he|he
    .exact hI e he
    .exact⟨k,q,aA.mp he⟩
   .rw[gp];exact⟨nd,by simp,λx hx' y hy e=>Ii (by rw[<- aA.mp hy,<- e];exact hx')⟩
   .rw[aO,aA,mem n];constructor
    .rintro(⟨c,hc⟩|e)
     .exact⟨c,p3.mem_iff.mpr (mX _ hc)⟩
     .rw[e];exact⟨q,p3.mem_iff.mpr (by simp)⟩
    .rintro⟨c,hc⟩;rcases aO.mp (p3.mem_iff.mp hc) with hc|hc
     .exact .inl ⟨c,hc⟩
     .rw[aA] at hc;have:=congrArg Prod.snd hc;injection this with e1 e2;exact .inr e1
  split
  .refine aq ?_;rw[hashByValue_scannable 8 (x:=.int k q) rfl];refine aL ?_;simp only[plainKind,if_true];sleep 70
  .refine aq (aL ?_);simp only[if_true];sleep 70
def uF(val:Nat->Int):Nat->List Int
 | 0=>[]
 | i+1=>if val i∈uF val i then uF val i else uF val i++[val i]
theorem yN(val:Nat->Int):∀i,(uF val i).length<=i
 | 0=>az _
 | i+1=>by
  have:=yN val i;unfold uF;split
  .omega
  .rw[aR,jI];omega
theorem yO(val:Nat->Int):∀(i:Nat)(n:Int),n∈uF val i↔∃j,j<i/\n=val j
 | 0,n=>by simp[uF]
 | i+1,n=>by
  have ih:=yO val i;unfold uF;split
  .rename_i hin;rw[ih n];sleep 60
  .rw[aO,aA,ih n];constructor
   .rintro(⟨j,hj,e⟩|e)
    .exact⟨j,by omega,e⟩
    .exact⟨i,by omega,e⟩
   .rintro⟨j,hj,e⟩;rcases aY j i with hlt|hge
    .exact .inl ⟨j,hlt,e⟩
    .have:j=i:=by omega
     subst this;exact .inr e
def Ij{R:Result->Shared->Prop}{I:Addr}{fp wr:List Addr}{G:Array GenState->Array GenState->Prop}{n:Nat}{P:Nat->Value->Prop}{St:Nat->Shared->Prop}(W:WalksS prog w A.in1 I fp wr G n P St)(d:Addr)(hd:d∉fp)(Sp:Nat->Heap->Prop)
  (at':∀i h h',Sp i h->(∀b o,b∉wr->h.get? b=some o->h'.get? b=some o)->Sp i h')
  (add:∀(E':Value->Shared->Prop) i v (s':Shared) (Q:Bool->Shared->Prop),i<n->P i v->Sp i s'.heap->(∀b h' tk,s'.toks<=tk->Heap.SameBut d s'.heap h'->Sp (i+1) h'->Q b { s' with heap:=h',toks:=tk })->wpAny (model prog w) A.in1 (setAdd d v) Q E' s'):
  ∀(m i:Nat)(s:Shared),n-i=m->i<=n->St i s->Sp i s.heap->(∀s',Moved (d::wr) G s s'->Sp n s'.heap->R (.ok (.ret .none)) s') ->
   codeAny (model prog w) A (.builtin "set.update.loop" ⟨[.ref d,.ref I],[]⟩) R s:=by
 have hdw:d∉wr:=λh=>hd (W.sub _ h);have up:∀b∈wr,b∈d::wr:=λb hb=>c9 _ hb;intro m;induction m with
 | zero =>
  intro i s em hi st hS hR;obtain rfl:i=n:=by omega
  sleep 161;refine aq (m:=pyNext (.ref I)) (W.done s _ _ st λs' hm=>?_);exact aL (hR s' (hm.mono up) (at' _ _ _ hS λb o hb e=>hm.heap b o hb e))
 | succ m ih =>
  intro i s em hi st hS hR;have hlt:i<n:=by omega
  sleep 161;refine aq (m:=pyNext (.ref I)) (W.item i s _ _ hlt st λv s' hP st' hm=>?_);have hS':=at' _ _ _ hS λb o hb e=>hm.heap b o hb e;refine aq (m:=holding [v] (setAdd d v)) (wpAny_holding ?_);refine add _ i v s' _ hlt hP hS' λb h' tk htk sb hSi=>?_;refine aL ⟨plainId_quiet PyProof.Rows.F.plain_set_update_loop _,ih (i+1) _ (by omega) hlt (W.frame _ s' _ _ st' htk λb hb o e=>?_) hSi λs2 hm2 VL=>?_⟩
  .rw[sb.2 b (λz:b=d=>hd (by rw[<- z];exact hb))];exact e
  .refine hR s2 (Moved.trans W.gtrans ((hm.mono up).then_heap htk λb o hb e=>?_) hm2) VL;rw[sb.2 b (λz:b=d=>hb (by rw[z];exact i8))];exact e
def L1(a:Value)
  (h:Q (.ref s.heap.objs.size) { s with heap:=s.heap.push { cls:=.type "set", dict:=none,data:=.set #[] 0 (.fresh 0 0 (!cC w)) } }):
  codeAny (model prog w) A (.call (.builtin "set.__new__") ⟨[.type "set", a],[]⟩) (wants Q E) s:=by
 refine codeAny_of_tree ?_;refine aq (m:=checkBuiltinCall "set.__new__" ⟨[.type "set", a],[]⟩) (wpAny_of_eq (PySem.F.newCall_set_1 a) (aL ⟨plainId_quiet F.plain_set_new _,codeAny_builtin F.entry_set_new ?_⟩));rw[iu F.plain_set_new];unfold Builtin.«set.__new__» Builtin.Frozenset.newClass;have hsub:=sub_set_self;obtain⟨hp,g,d,tk,os⟩:=s;dsimp only
 wp_walk
 refine wpAny_askSetting (aL ?_);dsimp only;simp only[newObj];refine aq (wpAny_alloc (aL (aL ?_)));exact h
def vg:Tab led #[] (.fresh 0 0 led):=⟨rfl,rfl,by show List.Pairwise _ [];exact List.Pairwise.nil,rfl⟩
def yP{h:Heap}(e:h.get? a=some { cls:=.type "set", dict:=none,data:=.set #[] 0 (.fresh 0 0 led) }):Small led h a [] :=
 ⟨_,#[],0,_,e,⟨rfl,rfl,rfl⟩,rfl,vg,(λe he=>by simp at he),rfl,kg,λn=>by simp⟩
set_option maxHeartbeats 3200000 in
def set_list{l:Addr}{items:Array Value}(hh:A.handled=none)(hl:s.heap.IsList l items)(Sp:Nat->Heap->Prop)
  (sp0:∀h',(∀b o,s.heap.get? b=some o->h'.get? b=some o)->h'.get? s.heap.objs.size=some { cls:=.type "set", dict:=none,data:=.set #[] 0 (.fresh 0 0 (!cC w)) }->Sp 0 h')
  (at':∀i h h',Sp i h->(∀b o,b<=s.heap.objs.size->h.get? b=some o->h'.get? b=some o)->Sp i h')
  (add:∀(A':Around)(E':Value->Shared->Prop) i v (s':Shared) (Q:Bool->Shared->Prop),A'.handled=none->A'.units<=A.units+8->items[i]?=some v->Sp i s'.heap->(∀b h' tk,s'.toks<=tk->Heap.SameBut s.heap.objs.size s'.heap h'->Sp (i+1) h'->Q b { s' with heap:=h',toks:=tk })->wpAny (model prog w) A' (setAdd s.heap.objs.size v) Q E' s')
  (h:∀(h':Heap)(tk:Nat),Sp items.size h'->(∀b o,b<s.heap.objs.size->s.heap.get? b=some o->h'.get? b=some o)->Q (.ref s.heap.objs.size) { s with heap:=h',toks:=tk }):
  wpAny (model prog w) A (call (.type "set") [.ref l]) Q E s:=by
 obtain⟨c0,t0,m0⟩:=F.called_set.mro;have m1:=F.called_set.made;have m2:=F.called_set.sub;refine wpAny_call (codeAny_of_tree ?_);show wpAny _ _ (callAny (.type "set") ⟨[.ref l],[]⟩) _ _ _;refine aL ⟨Code.quiet_builtin _ (by decide +kernel),(codeAny_builtin F.entry_type_call ?_)⟩;rw[Around.under_plain (weight_type_call_type "set" [.ref l] []) rfl];have m3:=F.called_set.notType;have m4:=F.called_set.canCreate;have m5:=PySem.F.typeCall_set_1 (.ref l);sleep 101;refine codeAny_mono (L1 (.ref l) (E:=E) (Q:=λobj z=>obj=.ref s.heap.objs.size/\z={ s with heap:=s.heap.push { cls:=.type "set", dict:=none,data:=.set #[] 0 (.fresh 0 0 (!cC w)) } }) ⟨rfl,rfl⟩) λr z hr=>?_;cases r with
 | error e=>exact hr
 | ok fl =>
  cases fl with
  | ret obj =>
   obtain⟨rfl,rfl⟩:=hr;generalize hH:s.heap.push { cls:=.type "set", dict:=none,data:=.set #[] 0 (.fresh 0 0 (!cC w)) }=H1;have g1:H1.get? s.heap.objs.size=some { cls:=.type "set", dict:=none,data:=.set #[] 0 (.fresh 0 0 (!cC w)) }:=by rw[<- hH];exact iC _ rfl
   have k1:∀b o,s.heap.get? b=some o->H1.get? b=some o:=λb o e=>by rw[<- hH];exact c8 _ e
   have z1:H1.objs.size=s.heap.objs.size+1:=by rw[<- hH,fE]
   have ty:Shared.TypeIs { s with heap:=H1 } (.ref s.heap.objs.size) "set" := ⟨_,g1,rfl⟩;have m6:=F.called_set.init.lookup;have m7:=F.called_set.init.bind (.ref s.heap.objs.size);sleep 101;refine codeAny_mono (codeAny_call_builtin (R:=wants (λr z=>r=.none/\∃h' tk,z={ s with heap:=h',toks:=tk }/\Sp items.size h'/\∀b o,b<s.heap.objs.size->s.heap.get? b=some o->h'.get? b=some o) E)
    F.called_set.init.plain F.entry_set_init (check_set_init_1 ty ?_)) λr2 s2 hr2=>?_
   .have hl1:H1.IsList l items:=by obtain⟨ol,e1,e2,n1,e3⟩:=hl;exact⟨ol,k1 _ _ e1,e2,n1,e3⟩
    obtain⟨ol,e1,e2,n1,e3⟩:=hl;obtain⟨cc,dd,xx,ss⟩:=ol;simp only at e2 e3;subst e2 e3;have e4:=k1 _ _ e1;have f1:=PySem.F.sub_list_set;have f2:=PySem.F.sub_list_frozenset;have f3:(Value.type "list" == Value.type "dict")=false:=by decide
    unfold Builtin.«set.__init__» noKeywords Builtin.Frozenset.updateFrom;generalize hp:pyIter=PI
    wp_walk
    subst hp;refine wpAny_pyIter_list hl1 (aq (wpAny_runValue ?_));have hlS:l<s.heap.objs.size:=aK e1;have n2:l≠H1.objs.size:=by rw[z1];exact aQ (jn hlS)
    have n3:s.heap.objs.size∉[H1.objs.size,l]:=by
     rw[z1];intro z;rcases aI.mp z with z|z
     .omega
     .exact absurd (aA.mp z) (jo hlS)
    refine Ij ((Walks.list (by simp[hh]) _ l n2 items).toS) s.heap.objs.size n3 Sp (λi h h' q hk=>at' i h h' q λb o hb e=>hk b o (λz=>?_) e) (λE' i v s' Q hi hP hSp hQ=>add _ E' i v s' Q (by simp[hh]) (by simp only[Around.in1];omega) hP hSp hQ) (items.size-0) 0 _ (by omega) (aH _) ⟨⟨_,iC _ rfl,rfl,rfl⟩,(hl1.push _)⟩ (sp0 _ (λb o e=>c8 _ (k1 _ _ e)) (c8 _ g1)) ?_
    .rw[aA.mp z,z1] at hb;omega
    intro s3 hm VL;obtain⟨h3,g3,d3,t3,o3⟩:=s3;obtain rfl:g3=s.gens:=hm.gens;obtain rfl:d3=s.drawn:=hm.drawn;obtain rfl:o3=s.os:=hm.os;refine aL (aL ⟨rfl,h3,t3,rfl,VL,λb o hb e=>?_⟩);refine hm.heap b o (λz=>?_) (c8 _ (k1 _ _ e));rcases aI.mp z with z|z
    .exact absurd z (aQ hb)
    .rw[aA.mp z,z1] at hb;omega
   .cases r2 with
    | error e=>exact hr2
    | ok f2 =>
     cases f2 with
     | ret r =>
      obtain⟨rfl,h3,t3,rfl,VL,Tf⟩:=hr2;sleep 101;exact h _ _ VL Tf
     | _=>exact hr2.elim
  | _=>exact hr.elim
end
def ints_of{l:List Value}(h:∀v∈l,∃n k,v=Value.int n k):∃ns:List Int,IntsAre l ns:=by
 induction l with
 | nil=>exact⟨[],.nil⟩
 | cons v l ih =>
  obtain⟨n,k,rfl⟩:=h v (by simp);obtain⟨ns,r⟩:=ih λu hu=>h u (by simp[hu]);exact⟨n::ns,.cons n k r⟩
def L3{l:List Value}(r:IntsAre l ns):∀n,n∈ns↔∃k,Value.int n k∈l:=by
 induction r with
 | nil=>intro n;simp
 | @cons m k l ns _ ih =>
  intro n;rw[aI,ih n];constructor
  .rintro(e|⟨c,hc⟩)
   .rw[e];exact⟨k,by simp⟩
   .exact⟨c,by simp[hc]⟩
  .rintro⟨c,hc⟩;rcases aI.mp hc with e|hc
   .cases e;exact .inl rfl
   .exact .inr ⟨c,hc⟩
def L4:typeLookup (.type "set") "__len__" = pure (some (.builtin "set.__len__")):=by rw[typeLookup_type,builtinLookup_eq_fast];kernel_rfl
section
variable {prog:Program}{w:World}{A:Around}{E:Value->Shared->Prop}{s:Shared}
def Ik{l:Addr}{items:Array Value}{val:Nat->Int}(hh:A.handled=none)(hl:s.heap.IsList l items)(hv:∀(i:Nat)(v:Value),items[i]?=some v->∃t,v=Value.int (val i) t)(hn:items.size<=4000)
  (h:∀(h':Heap)(tk:Nat),Small (!cC w) h' s.heap.objs.size (uF val items.size)->(∀b o,b<s.heap.objs.size->s.heap.get? b=some o->h'.get? b=some o)->Q (.ref s.heap.objs.size) { s with heap:=h',toks:=tk }):
  wpAny (model prog w) A (call (.type "set") [.ref l]) Q E s:=by refine set_list hh hl (λi h=>Small (!cC w) h s.heap.objs.size (uF val i)) (λh' _ e=>yP e) (λi h h' q hk=>q.at' λo e=>hk _ o (az _) e) (λA' E' i v s' Q hh' _ hi hS hQ=>?_) h;obtain⟨t,rfl⟩:=hv i v hi;unfold setAdd;refine wpAny_holding (aq ((intKind prog w).pyHash (k:=val i) (intKind_is _ _ _ _) ?_));have hl:=yN val i;have hlt:=(mH.mp hi).1;refine add_int (s:={ s' with toks:=s'.toks+1 }) hS (by omega) λb h' sb Z7=>?_;exact hQ b h' _ (lq _) sb Z7
set_option maxHeartbeats 2000000 in
def qm{o:Obj}{t:SetTable}{Q:List Value->Shared->Prop}(hh:A.handled=none)(ho:s.heap.get? a=some o)(hx:o.ExactSet)(hd:o.data=.set es ep t)(T:Tab (!cC w) es t)(hsz:es.size<=100000)
  (hQ:∀(s':Shared)(vs:List Value),(∀b x,s.heap.get? b=some x->s'.heap.get? b=some x)->s'.gens=s.gens->s'.os=s.os->s.heap.objs.size<s'.heap.objs.size->vs.Perm (es.toList.map (·.2))->Q vs s'):
  wpAny (model prog w) A (collect (.ref a)) Q E s:=by
 unfold collect;refine aq (wpAny_runValue (codeAny_builtin F.entry_proto_collect ?_));rw[iu F.plain_proto_collect];sleep 114;show wpAny _ A.in1 (Builtin.List.listExtendWith (.ref s.heap.objs.size) (.ref a) (.ref s.heap.objs.size)) _ _ _;generalize hH:s.heap.push { cls:=.type "list", data:=.seq ([]:List Value).toArray }=H;have hz:H.objs.size=s.heap.objs.size+1:=by rw[<- hH,fE]
 have hk:∀b x,s.heap.get? b=some x->H.get? b=some x:=λb x e=>by rw[<- hH];exact c8 _ e
 have hN:H.get? s.heap.objs.size=some { cls:=.type "list", data:=.seq ([]:List Value).toArray }:=by rw[<- hH];exact iC _ rfl
 have hlt:=aK ho;unfold Builtin.List.listExtendWith;refine aq (wpAny_typeOf (T := "set") ⟨o,hk _ _ ho,hx.1⟩ ?_);have h1:Builtin.List.listSameRef (.ref s.heap.objs.size) (.ref a)=false:=by show((s.heap.objs.size==a):Bool)=false;exact beq_eq_false_iff_ne.mpr (jo hlt)
 have h2:(Value.type "set" == Value.type "list")=false:=by decide
 have h3:(Value.type "set" == Value.type "tuple")=false:=by decide
 simp only[h1,h2,h3,Bool.or_false,bW,if_false];refine aq (Ih (s:={ s with heap:=H }) (hk _ _ ho) hx hd T hsz λit H2 d2 fp od St hk2 hit hfp C8 W0 st=>aq (wpAny_holding ?_));have hao:H2.get? a=some o:=hk2 _ _ (hk _ _ ho);dsimp only at hk2 hit hfp;unfold Builtin.List.listLengthHint;refine aq (wpAny_specialOf (T := "set") (v:=.ref a) ⟨o,hao,hx.1⟩ L4 ?_)
 wp_delta
 refine aq (wpAny_isInstance (T := "set") (v:=.ref a) (b:=true) ⟨o,hao,hx.1⟩ (by rw[isSubtype_type];kernel_rfl) ?_);refine aq (m:=typeOf (.ref a)) (wpAny_typeOf (T := "set") ⟨o,hao,hx.1⟩ (aL ?_));rw[if_pos (by decide)];have hnf:s.heap.objs.size∉fp:=λhm=>by
  rcases hfp _ hm with e|e
  .exact absurd e (jo hlt)
  .rw[hz] at e;exact absurd e (Nat.not_le.mpr (g8 _))
 have hn4:od.size<=sizeLine:=by have:=C8.length_eq;rw[cY,cY] at this;rw[this,sizeLine_eq];omega
 have g1:H2.get? s.heap.objs.size=some { cls:=.type "list", data:=.seq ([]:List Value).toArray }:=hk2 _ _ hN;have g2:=fB (Obj.mapSeq (·.push Value.none)) g1 rfl;have g3:=fB (Obj.mapSeq (·.pop)) g2 rfl;have W:=(W0 A.in1 (by simp[hh])).toS;have st':St 0 ((H2.update s.heap.objs.size (Obj.mapSeq (·.push Value.none))).update s.heap.objs.size (Obj.mapSeq (·.pop))) :=
  (W0 A.in1 (by simp[hh])).frame 0 _ _ st λb hb o e=>by have hne:b≠s.heap.objs.size:=λz=>hnf (by rw[<- z];exact hb);rw[fT _ _ _ _ hne,fT _ _ _ _ hne];exact e
 refine aq (m:=rule "list.extend.makes-room") (wpAny_rule (aq (m:=Builtin.List.listTouch (.ref s.heap.objs.size)) ?_));refine aq (m:=updateSeq s.heap.objs.size (·.push .none)) (wpAny_updateSeq g1 rfl (wpAny_updateSeq g2 rfl ?_));refine aL ⟨plainId_quiet F.plain_extend_loop _,codeAny_extend_loopS W hn4 _ hnf _ _ 0 _ _ _ rfl (aH _) st' g3 (ItemsOf.nil _) λs' acc' c' hm hS' hacc=>?_⟩;refine aq (m:=load s.heap.objs.size) (wpAny_load hS' (aL (hQ s' acc'.toList (λb x e=>hm.heap b x (λhb=>?_) ?_) hm.gens hm.os (aK hS') ?_)))
 .have hl:=aK e;rcases aI.mp hb with z|z
  .rw[z] at hl;exact absurd hl (fY _)
  .rw[aA.mp z] at hl;rw[hz] at hit;exact absurd (bT hl (Nat.le_of_succ_le hit)) (fY _)
 .have hb:=aQ (aK e);show((H2.update s.heap.objs.size _).update s.heap.objs.size _).get? b=some x;rw[fT _ _ _ _ hb,fT _ _ _ _ hb];exact hk2 _ _ (hk _ _ e)
 .have e:acc'.toList=od.toList.map (·.2):=by
   refine List.ext_getElem? λi=>?_;rw[bz];simp only[fR];rcases aY i acc'.size with hi|hi
   .obtain⟨e,he,hv⟩:=hacc.2 i acc'[i] (gu hi);rw[gu hi,he,hv];rfl
   .rw[qh hi,qh (by rw[<- hacc.1];exact hi)];rfl
  rw[e];exact C8.map _
def sorted_ints(hh:A.handled=none)(S:Small (!cC w) s.heap a ns)(hns:ns.length<64)
  (h:∀(p:Addr)(h':Heap)(d':Drawn)(tk:Nat)(out:Array Value)(c:Nat)(ns':List Int),s.heap.objs.size<=p->(∀b x,s.heap.get? b=some x->h'.get? b=some x)->h'.get? p=some { cls:=.type "list", data:=.seq out c }->IntsAre out.toList ns'->(∀n,n∈ns'↔n∈ns)->ns'.Pairwise (· <= ·)->ns'.length=ns.length->Q (.ref p) { s with heap:=h',drawn:=d',toks:=tk }):
  wpAny (model prog w) A (call (.builtin "sorted") [.ref a]) Q E s:=by
 obtain⟨o,es,ep,t,ho,hx,hd,T,hI0,hz,nd,mem⟩:=S;sleep 87;refine aq (m:=checkCount "sorted" 1 1 _) (aL (aq (qm (by simp[hh]) ho hx hd T (by omega) ?_)));sleep 177;have hal:acc.length=ns.length:=by rw[hp.length_eq,av,cY,hz]
 have shape:∀v∈acc,∃n k,v=Value.int n k:=λv hv=>by obtain⟨e,he,rfl⟩:=aF.mp (hp.mem_iff.mp hv);obtain⟨n,k,rfl⟩:=hI0 e he;exact⟨n,k,rfl⟩
 obtain⟨ms,hI⟩:=ints_of shape;have Z8:∀n,n∈ms↔n∈ns:=λn=>by
  rw[L3 hI n,mem n];constructor
  .rintro⟨k,hk⟩;obtain⟨e,he,ee⟩:=aF.mp (hp.mem_iff.mp hk);obtain⟨n',k',rfl⟩:=hI0 e he;cases ee;exact⟨_,he⟩
  .rintro⟨k,hk⟩;exact⟨k,hp.mem_iff.mpr (aF.mpr ⟨_,hk,rfl⟩)⟩
 refine aq (wpAny_newList ?_ (by rw[hal,sizeLine_eq];omega));have h64:acc.length<64:=by omega
 have gN:(h1.push (seqObj "list" acc.toArray 0)).get? h1.objs.size=some (seqObj "list" acc.toArray 0):=iC _ rfl;refine aq (wpAny_holding (wpAny_call_entry slot_list_sort ⟨_,gN,rfl⟩ entry_list_sort (list_sort_tree gN hI h64 λout ns' a1 a2 a3=>⟨_,rfl,?_⟩) (args_list_sort _)));obtain⟨c,hc⟩:=sortedHeap_at (h:=h1.push (seqObj "list" acc.toArray 0)) (a:=h1.objs.size) (vs:=acc) (n:=0) (out:=out) gN;have hle:s.heap.objs.size<=h1.objs.size:=jJ BA;refine aL ⟨_,rfl,h h1.objs.size _ dd VM out c ns' hle (λb x e=>?_) hc a1 (λn=>(a2.mem_iff).trans (Z8 n)) a3 ?_⟩
 .sleep 69
 .rw[a2.length_eq,<- hal];exact(IntsAre.length hI).symm
end
end SG
namespace SN
open PySem
theorem wQ:∀{xs ys:List Int},xs.Nodup->(∀x∈xs,x∈ys)->xs.length<=ys.length
 | [],_,_,_=>aH _
 | x::xs,ys,h,q=>by rw[iE] at h;have hx:=q x (by simp);have:=wQ (ys:=ys.erase x) h.2 λy hy=>(List.mem_erase_of_ne (λ(e:y=x)=>h.1 (by rw[<- e];exact hy))).mpr (q y (by simp[hy]));sleep 181
theorem Oi:∀{ms ns:List Int},ns.Nodup->(∀n∈ns,n∈ms)->ms.length<=ns.length->ms.Nodup
 | [],_,_,_,_=>kg
 | x::ms,ns,nd,sub,hl=>by
  rw[eB] at hl;by_cases hx:x∈ns
  .have ih:=Oi (ms:=ms) (ns:=ns.erase x) (nd.erase x) (λn hn=>by
    obtain⟨h1,h2⟩:=(List.Nodup.mem_erase_iff nd).mp hn;rcases aI.mp (sub n h2) with e|h
    .exact absurd e h1
    .exact h) (by rw[List.length_erase_of_mem hx];omega)
   refine iE.mpr ⟨λhm=>?_,ih⟩;have:=wQ nd (ys:=ms) λn hn=>by
    rcases aI.mp (sub n hn) with e|h
    .rw[e];exact hm
    .exact h
   omega
  .have:=wQ nd (ys:=ms) λn hn=>by
    rcases aI.mp (sub n hn) with e|h
    .rw[e] at hn;exact absurd hn hx
    .exact h
   omega
theorem lt_eq:∀{xs ys:List Int},xs.Pairwise (· < ·)->ys.Pairwise (· < ·)->(∀n,n∈xs↔n∈ys)->xs=ys
 | [],[],_,_,_=>rfl
 | [],y::ys,_,_,h=>absurd ((h y).mpr (by simp)) (by simp)
 | x::xs,[],_,_,h=>absurd ((h x).mp (by simp)) (by simp)
 | x::xs,y::ys,hx,hy,h=>by
  sleep 55;refine lt_eq hx.2 hy.2 λn=>⟨λhn=>?_,λhn=>?_⟩
  .rcases aI.mp ((h n).mp (by simp[hn])) with e|h1
   .have:=hx.1 n hn;omega
   .exact h1
  .rcases aI.mp ((h n).mpr (by simp[hn])) with e|h1
   .have:=hy.1 n hn;omega
   .exact h1
def fk(ns:List Int):List Int:=((List.range 8).filter λk:Nat=>decide ((k:Int)∈ns)).map λk:Nat=>(k:Int)
def yQ(ns:List Int):(fk ns).Pairwise (· < ·):=by unfold fk;rw[lg];refine List.Pairwise.imp (λh=>Int.ofNat_lt.mpr h) (List.Pairwise.sublist (List.filter_sublist) (wj))
def iX{ns:List Int}(h:∀n∈ns,0<=n/\n<8)(n:Int):n∈fk ns↔n∈ns:=by
 unfold fk;simp only[aF,dJ,fW,decide_eq_true_eq];constructor
 .rintro⟨k,⟨_,h2⟩,rfl⟩;exact h2
 .intro hn;obtain⟨h0,h8⟩:=h n hn;refine⟨n.toNat,⟨by omega,?_⟩,by omega⟩;rw[Int.toNat_of_nonneg h0];exact hn
end SN
namespace L2
open PySem PySem.Spec PyProof.Rows
variable {w:World}{ns:List Int}
def vh(w:World)(p:Addr)(ns:List Int):Heap->Prop:=λh=>∃ms:List Int,SG.Small (!SG.cC w) h p ms/\∀n,n∈ms↔n∈ns
theorem sJ:∀{l:List Value}{ns:List Int},IntsAre l ns->Vals (ns.map V.int) l
 | _,_,.nil=>.nil
 | _,_,.cons n t r=>.cons ⟨t,rfl⟩ (sJ r)
def BT.CS:PySem.bootBuiltins "set" = some (.type "set"):=by decide +kernel
def BT.nU:PySem.bootBuiltins "sorted" = some (.builtin "sorted"):=by decide +kernel
section
variable {X:Cx}{σ:St}{H:Hp}{Q:VK}
def Inv.drw{pins:List (Addr×Obj)}{s:Shared}(I:Inv X pins σ H s)(d':Drawn):Inv X pins σ H { s with drawn:=d' } :=
 ⟨I.ok,I.os,I.bare,I.base,I.loc,I.cell,I.free,I.kO,I.pin,I.hok,I.len⟩
def C9(K:aD)(w:World):List V->Hp->VK->Prop:=λxs H Q=>∃(l:Addr)(ns:List Int),xs=[.ref l]/\bE K H l (ns.map V.int)/\ns.length<=4000/\∀p H',eU H p (.ext (vh w p ns)) H'->Q (.ref p) H'
def vm(hc:X.calm=true):di X (.type "set") (C9 X.K X.w):=by
 sleep 38;obtain⟨l,ns,rfl,hl,h4,q⟩:=h;sleep 64;obtain⟨vs,rv,⟨ol,n0,e1,e2,e3,e4⟩,_⟩:=I.list hl;have Z9:s.heap.IsList l vs.toArray:=⟨ol,e1,e2,n0,e4⟩;have hsz:vs.toArray.size=ns.length:=by have:=rv.length;rw[av] at this;rw[aV];exact this.symm
 have hat:∀(i:Nat)(n:Int),ns[i]?=some n->ns.getD i 0=n:=λi n e=>by rw[mG,e];rfl
 refine SG.Ik (val:=λi=>ns.getD i 0) (I.ok.hd hc) Z9 (λi v hv=>?_) (by omega) λh' tk hS hk=>?_
 .have hi:i<ns.length:=by have:=(mH.mp hv).1;omega
  have e5:ns[i]?=some ns[i]:=fN hi;obtain⟨u,hu,t,rfl⟩:=rv.get (i:=i) (x:=.int ns[i]) (by rw[bz,e5];rfl);rw[k6,hu] at hv;cases hv;rw[hat i _ e5];exact⟨t,rfl⟩
 .refine⟨.ref s.heap.objs.size,_,I.laid (t':=tk) (λb o e=>hk b o (aK e) e) (az _) (o:=.ext (vh X.w s.heap.objs.size ns)) ⟨⟨_,hS,λn=>?_⟩,?_,λh1 h2 hp he=>?_⟩,rfl,q _ _ ⟨I.hok.fresh (az _),rfl⟩⟩
  .rw[SG.yO,hsz];constructor
   .rintro⟨j,hj,rfl⟩;have e5:ns[j]?=some ns[j]:=fN hj;rw[hat j _ e5];exact jH hj
   .sleep 230;rw[hat j n (by rw[fN hj,e5])]
  .obtain⟨o,_,_,_,ho,_⟩:=hS;exact⟨o,ho⟩
  .obtain⟨ms,hS',hm⟩:=hp;exact⟨ms,hS'.at' he,hm⟩
def BB(w:World):List V->Hp->VK->Prop:=λxs H Q=>∃(p:Addr)(ns:List Int),xs=[.ref p]/\H p=some (.ext (vh w p ns))/\(∀ms:List Int,ms.Nodup->(∀n,n∈ms↔n∈ns)->ms.length<64)/\∀(l:List Int)(q:Addr)(H':Hp),l.Pairwise (· < ·)->(∀n:Int,n∈l↔n∈ns)->eU H q (.lst (l.map V.int)) H'->Q (.ref q) H'
def sL(hc:X.calm=true):di X (.builtin "sorted") (BB X.w):=by
 sleep 38;obtain⟨p,ns,rfl,hp,hb,q⟩:=h;sleep 64;obtain⟨⟨ms,hS,hm⟩,_,_⟩:=I.hok p _ hp;have nd:ms.Nodup:=by obtain⟨_,_,_,_,_,_,_,_,_,_,nd,_⟩:=hS;exact nd
 have hml:=hb ms nd hm;refine SG.sorted_ints (I.ok.hd hc) hS hml λa h' d' tk out c ns' hle hk ho hI hmem Il hlen=>?_;have nd':ns'.Nodup:=SN.Oi nd (λn hn=>(hmem n).mpr hn) (by omega);have hlt:ns'.Pairwise (· < ·):=(Il.and nd').imp λ⟨h1,h2⟩=>by omega
 refine⟨.ref a,_,(I.drw d').laid (t':=tk) hk hle (o:=.lst (ns'.map V.int)) ⟨?_,out.toList,c,sJ hI,?_⟩,rfl,q ns' _ _ hlt (λn=>(hmem n).trans (hm n)) ⟨I.hok.fresh hle,rfl⟩⟩
 .rw[av,sizeLine_eq];omega
 .rw[ho,Array.toArray_toList]
def Rp{K:aD}{l:Addr}(hl:bE K H l (ns.map V.int))(h4:ns.length<=4000)(h:∀p H',eU H p (.ext (vh w p ns)) H'->Q (.ref p) H'):C9 K w [.ref l] H Q:=⟨l,ns,rfl,hl,h4,h⟩
def Rq{K:aD}{l:Addr}(hl:bE K H l (ns.map V.int))(hb:∀n∈ns,0<=n/\n<8)(h4:ns.length<=4)(h:∀p H',eU H p (.ext (vh w p ns)) H'->Q (.ref p) H'):C9 K w [.ref l] H Q:=⟨l,ns,rfl,hl,by omega,h⟩
def Dc{p:Addr}(hp:H p=some (.ext (vh w p ns)))(hb:∀n∈ns,0<=n/\n<8)(h:∀q H',eU H q (.lst ((SN.fk ns).map V.int)) H'->Q (.ref q) H'):BB w [.ref p] H Q:=by
 refine⟨p,ns,rfl,hp,λms nd hm=>?_,λl q H' hlt hmem n=>?_⟩
 .have:=SN.wQ nd (ys:=[0,1,2,3,4,5,6,7]) λx hx=>by
   obtain⟨h0,h8⟩:=hb x ((hm x).mp hx);have:x=0\/x=1\/x=2\/x=3\/x=4\/x=5\/x=6\/x=7:=by omega
   simpa using this
  simp at this;omega
 .have e:l=SN.fk ns:=SN.lt_eq hlt (SN.yQ ns) λn=>(hmem n).trans (SN.iX hb n).symm;rw[e] at n;exact h q H' n
end
end L2
namespace SN
open PySem PySem.W PyProof.Rows
variable {n i j ep:Nat}{p:Array Nat}{d:Addr}{es:Array DictEntry}{ps:List (Int×Int)}
structure Pl (n:Nat) (p:Array Nat):Prop where
 sz:p.size=n
 pm:p.toList.Perm (List.range n)
def Pl.get(P:Pl n p)(hi:i<n):p.toList[i]?=some (p.getD i 0):=by
 have h:i<p.size:=by rw[P.sz];exact hi
 rw[fR,gu h];simp[Array.getD,h]
def Pl.lt{n:Nat}{p:Array Nat}(P:Pl n p){i:Nat}(hi:i<n):p.getD i 0<n:=fW.mp (P.pm.mem_iff.mp (fz (P.get hi)))
def Pl.inj(P:Pl n p)(hi:i<n)(hj:j<n)(e:p.getD i 0=p.getD j 0):i=j:=by have nd:p.toList.Nodup:=P.pm.nodup_iff.mpr List.nodup_range;have h1:=P.get hi;have h2:=P.get hj;rw[<- e] at h2;exact(List.getElem?_inj (fq h1).1 nd).mp (h1.trans h2.symm)
def Pl.of{q:Array Nat}(P:Pl n p)(h:q.Perm p):Pl n q:=⟨by rw[h.size_eq];exact P.sz,(Array.perm_iff_toList_perm.mp h).trans P.pm⟩
def Pl.start(n:Nat):Pl n (List.toArray (List.range n)):=⟨by simp,mU _⟩
def kv(r:Nat->Int)(p:Array Nat)(i:Nat):Int:=r (p.getD i 0)
def Up(r:Nat->Int)(p:Array Nat)(k:Nat):Prop:=∀i j,i<j->j<k->kv r p i<kv r p j
def Dn(r:Nat->Int)(p:Array Nat)(k:Nat):Prop:=∀i j,i<j->j<k->kv r p j<kv r p i
def Dd{r:Nat->Int}{q:Array Nat}(h:p[i]?=q[j]?):kv r p i=kv r q j:=by unfold kv;rw[Array.getD_eq_getD_getElem?,Array.getD_eq_getD_getElem?,h]
section
variable {cmp:Nat->Nat->(Bool->Shared->Prop)->Shared->Prop}{n:Nat}{r:Nat->Int}{s:Shared}{p:Array Nat}
def Pl.ne(P:Pl n p)(inj:∀i j,i<n->j<n->r i=r j->i=j)(hi:i<n)(hj:j<n)(h:i≠j):kv r p i≠kv r p j:=λe=>h (P.inj hi hj (inj _ _ (P.lt hi) (P.lt hj) e))
theorem BC(hc:∀i j,i<n->j<n->∀C,C (decide (r i<r j)) s->cmp i j C s)(inj:∀i j,i<n->j<n->r i=r j->i=j)(P:Pl n p){Q:Nat->Shared->Prop}:∀f k,1<=k->k+f<=n->Up r p k ->
  (∀m,k<=m->m<=k+f->Up r p m->(m<k+f->kv r p m<kv r p (m-1))->Q m s)->(kas_asc p f k).kasWp cmp Q s
 | 0,k,_,_,u,h=>h k (az _) (az _) u λz=>absurd z (fY _)
 | f+1,k,h1,hn,u,h=>by
  show cmp (p.getD k 0) (p.getD (k-1) 0) _ s;sleep 120;by_cases hl:r (p.getD k 0)<r (p.getD (k-1) 0)
  .rw[decide_eq_true hl];exact h k (az _) (by omega) u λ_=>hl
  .rw[decide_eq_false hl];refine BC hc inj P f (k+1) (by omega) (by omega) (λi j hij hj=>?_) λm a b c d=>h m (by omega) (by omega) c λz=>d (by omega);by_cases hk:j<k
   .exact u i j hij hk
   .have e:j=k:=by omega
    subst e;have ne:=P.ne inj (i:=j) (j:=j-1) (by omega) (by omega) (by omega);have lt:kv r p (j-1)<kv r p j:=by have:¬kv r p j<kv r p (j-1):=hl;omega
    by_cases hi:i=j-1
    .rw[hi];exact lt
    .exact Int.lt_trans (u i (j-1) (by omega) (by omega)) lt
theorem De(hc:∀i j,i<n->j<n->∀C,C (decide (r i<r j)) s->cmp i j C s)(inj:∀i j,i<n->j<n->r i=r j->i=j)(P:Pl n p){Q:Array Nat×Nat×Nat->Shared->Prop}:∀f k,2<=k->k+f<=n->Dn r p k ->
  (∀m,k<=m->m<=k+f->Dn r p m->Q (p,m,0) s)->(kas_desc f p k 0).kasWp cmp Q s
 | 0,k,_,_,u,h=>h k (az _) (az _) u
 | f+1,k,h1,hn,u,h=>by
  show cmp (p.getD k 0) (p.getD (k-1) 0) _ s;sleep 120;by_cases hl:r (p.getD k 0)<r (p.getD (k-1) 0)
  .rw[decide_eq_true hl];refine De hc inj P f (k+1) (by omega) (by omega) (λi j hij hj=>?_) λm a b c=>h m (by omega) (by omega) c;by_cases hk:j<k
   .exact u i j hij hk
   .have e:j=k:=by omega
    subst e;have lt:kv r p j<kv r p (j-1):=hl;by_cases hi:i=j-1
    .rw[hi];exact lt
    .exact Int.lt_trans lt (u i (j-1) (by omega) (by omega))
  .rw[decide_eq_false hl];show cmp (p.getD (k-1) 0) (p.getD k 0) _ s;sleep 120;have ne:=P.ne inj (i:=k) (j:=k-1) (by omega) (by omega) (by omega);have lt:r (p.getD (k-1) 0)<r (p.getD k 0):=by have:¬kv r p k<kv r p (k-1):=hl;unfold kv at ne this;omega
   rw[decide_eq_true lt];exact h k (az _) (by omega) u
def Rr{m:Nat}(P:Pl n p)(hm:m<=n)(d:Dn r p m):Pl n (kas_rev p 0 m)/\Up r (kas_rev p 0 m) m:=by
 refine⟨P.of (mirror_perm _ _ _ _),λi j hij hj=>?_⟩;have at_:∀i,i<m->kv r (kas_rev p 0 m) i=kv r p (m-1-i):=λi hi=>Dd (by
  unfold kas_rev;rw[getElem?_mirror_all (by rw[P.sz];exact hm),if_pos ⟨aH _,hi⟩]
  congr 1
  omega)
 rw[at_ i (by omega),at_ j hj];exact d _ _ (by omega) (by omega)
def Im(hc:∀i j,i<n->j<n->∀C,C (decide (r i<r j)) s->cmp i j C s)(inj:∀i j,i<n->j<n->r i=r j->i=j)(P:Pl n p){m:Nat}(h1:1<=m)(hm:m<=n)(d:Dn r p m){Q:Nat×Array Nat->Shared->Prop}
  (h:∀k q,Pl n q->1<=k->k<=n->Up r q k->Q (k,q) s):(kas_tail3 m n p).kasWp cmp Q s:=by obtain⟨P',u⟩:=Rr P hm d;unfold kas_tail3;rw[KasT.kasWp_bind];exact BC hc inj P' _ _ h1 (by omega) u λk a b c _=>h k _ P' (by omega) (by omega) c
def Io(hc:∀i j,i<n->j<n->∀C,C (decide (r i<r j)) s->cmp i j C s)(inj:∀i j,i<n->j<n->r i=r j->i=j)(P:Pl n p)(h2:2<=n){Q:Nat×Array Nat->Shared->Prop}
  (h:∀k q,Pl n q->1<=k->k<=n->Up r q k->Q (k,q) s):(kas_count n p).kasWp cmp Q s:=by
 unfold kas_count;rw[KasT.kasWp_bind];refine BC hc inj P _ _ (az _) (by omega) (λi j _ _=>by omega) λm a b c d=>?_;by_cases e:m=n
 .rw[if_pos (by simp[e])];exact h m p P a (by omega) c
 rw[if_neg (by simp[e])];by_cases g:m>1
 .rw[if_pos g];show cmp (p.getD 0 0) (p.getD (m-1) 0) _ s;sleep 120;rw[decide_eq_true (show r (p.getD 0 0)<r (p.getD (m-1) 0) from c 0 (m-1) (by omega) (by omega))];exact h m p P a (by omega) c
 .rw[if_neg g];have e1:m=1:=by omega
  subst e1;unfold kas_descPart;rw[KasT.kasWp_bind];refine De hc inj P _ _ (az _) (by omega) (λi j hij hj=>?_) λk a' b' d'=>?_
  .have e0:i=0:=by omega
   have e1:j=1:=by omega
   subst e0 e1;exact d (by omega)
  .exact Im hc inj P (by omega) (by omega) d' h
theorem up_place(hc:∀i j,i<n->j<n->∀C,C (decide (r i<r j)) s->cmp i j C s)(inj:∀i j,i<n->j<n->r i=r j->i=j)(P:Pl n p){k:Nat}(hk:k<n)(u:Up r p k){Q:Nat->Shared->Prop}:∀f a b,b-a<=f->a<=b->b<=k->(∀i,i<a->kv r p i<kv r p k)->(∀i,b<=i->i<k->kv r p k<kv r p i) ->
  (∀l,l<=k->(∀i,i<l->kv r p i<kv r p k)->(∀i,l<=i->i<k->kv r p k<kv r p i)->Q l s)->(kas_place p k f a b).kasWp cmp Q s
 | 0,a,b,hf,hab,hb,lo,hi,h=>by
  have e:a=b:=by omega
  subst e;exact h a hb lo hi
 | f+1,a,b,hf,hab,hb,lo,hi,h=>by
  unfold kas_place;by_cases g:a>=b
  .rw[if_pos g];have e:a=b:=by omega
   subst e;exact h a hb lo hi
  .rw[if_neg g];show cmp (p.getD k 0) (p.getD ((a+b) / 2) 0) _ s;refine hc _ _ (P.lt hk) (P.lt (by omega)) _ ?_;have ne:=P.ne inj (i:=k) (j:=(a+b) / 2) hk (by omega) (by omega);by_cases hl:r (p.getD k 0)<r (p.getD ((a+b) / 2) 0)
   .rw[decide_eq_true hl];have hl':kv r p k<kv r p ((a+b) / 2):=hl;refine up_place hc inj P hk u f a ((a+b) / 2) (by omega) (by omega) (by omega) lo (λi h1 h2=>?_) h;by_cases e:i=(a+b) / 2
    .rw[e];exact hl'
    .exact Int.lt_trans hl' (u _ i (by omega) h2)
   .rw[decide_eq_false hl];have hl':kv r p ((a+b) / 2)<kv r p k:=by have:¬kv r p k<kv r p ((a+b) / 2):=hl;omega
    refine up_place hc inj P hk u f ((a+b) / 2+1) b (by omega) (by omega) hb (λi h1=>?_) hi h;by_cases e:i=(a+b) / 2
    .rw[e];exact hl'
    .exact Int.lt_trans (u i _ (by omega) (by omega)) hl'
theorem Ip(hc:∀i j,i<n->j<n->∀C,C (decide (r i<r j)) s->cmp i j C s)(inj:∀i j,i<n->j<n->r i=r j->i=j){Q:Array Nat->Shared->Prop}(h:∀q,Pl n q->Up r q n->Q q s):∀f k (p:Array Nat),Pl n p->k+f=n->Up r p k->(kas_bin f p k).kasWp cmp Q s
 | 0,k,p,P,e,u=>h p P (by rw[<- e];exact u)
 | f+1,k,p,P,e,u=>by
  unfold kas_bin;rw[KasT.kasWp_bind];refine up_place hc inj P (k:=k) (by omega) u k 0 k (by omega) (aH _) (az _) (λi hi=>absurd hi (gF _)) (λi h1 h2=>absurd h2 (by omega)) λl hl lo hi=>?_;refine Ip hc inj h f (k+1) _ (P.of (bubble_perm _ _ _)) (by omega) λi j hij hj=>?_;have at_:∀i,kv r (bubble p k (k-l)) i=if i=l then kv r p k else if l<i/\i<=k then kv r p (i-1) else kv r p i:=λi=>by
   have g:=getElem?_bubble (xs:=p) (src:=k) (by rw[P.sz];omega) (k-l) (by omega) i;rw[show k-(k-l)=l by omega] at g;split at g
   .rw[if_pos (by assumption)];exact Dd g
   .rw[if_neg (by assumption)];split at g
    .rw[if_pos (by assumption)];exact Dd g
    .rw[if_neg (by assumption)];exact Dd g
  rw[at_ i,at_ j]
  repeat' split
  all_goals first
   | (exfalso;omega)
   | exact lo _ (by omega)
   | exact hi _ (by omega) (by omega)
   | exact u _ _ (by omega) (by omega)
def Df(hc:∀i j,i<n->j<n->∀C,C (decide (r i<r j)) s->cmp i j C s)(inj:∀i j,i<n->j<n->r i=r j->i=j)(h2:2<=n){Q:Array Nat->Shared->Prop}(h:∀q,Pl n q->Up r q n->Q q s):(kas_sort n).kasWp cmp Q s:=by
 unfold kas_sort;rw[KasT.kasWp_bind];refine Io hc inj (Pl.start n) h2 λk q P h1 hk u=>?_;by_cases g:k<n
 .rw[if_pos g];exact Ip hc inj h _ _ q P (by omega) (by rw[Nat.max_eq_left h1];exact u)
 .rw[if_neg g];have e:k=n:=by omega
  exact h q P (by rw[<- e];exact u)
end
open PySem.Spec
section
variable {prog:Program}{w:World}{A:Around}{E:Value->Shared->Prop}{s:Shared}
def jm(h:Heap)(d:Addr)(es:Array DictEntry)(ep:Nat):Prop:=∃o,h.get? d=some o/\o.ExactDict/\o.data=.dict es ep
def jm.at'{h h':Heap}(x:jm h d es ep)(e:∀o,h.get? d=some o->h'.get? d=some o):jm h' d es ep:=let⟨o,ho,r⟩:=x;⟨o,e _ ho,r⟩
def jm.ty(x:jm s.heap d es ep):s.TypeIs (.ref d) "dict" := let⟨o,ho,hx,_⟩:=x;⟨o,ho,hx.1⟩
def yR{Q:Value->Shared->Prop}(hs:(d==sysModules)=false)(x:jm s.heap d es ep)
  (hQ:Q (.ref s.heap.objs.size) { s with heap:=s.heap.push { cls:=.type "dict_keyiterator", data:=.fields #[.ref d,.int 0 0,.int es.size 0,.int ep 0] } }):wpAny (model prog w) A (pyIter (.ref d)) Q E s:=by have ty:=x.ty;obtain⟨o,ho,_,hd⟩:=x;refine wpAny_pyIter_slot ty F.slot_dict_iter (wpAny_call_entry F.slot_dict_iter ty F.entry_dict_iter ?_ (F.args_dict_iter_1 _));unfold Builtin.«dict.__iter__» Builtin.Dict.dictSlotNone;refine aq (aq (wpAny_notOrdered_dict ty (show wpAny _ _ (pure (Value.ref d)) _ _ s from aL ?_)));sleep 202;rw[hs,if_neg jT];refine aq (aL (aq (wpAny_dictEntries ho hd (aq (wpAny_dictEpoch ho hd (aq (wpAny_newObj_type (aL ⟨_,rfl, "dict_keyiterator", _,⟨_,iC _ rfl,rfl⟩,F.slot_dict_keyiterator_next.lookup,?_⟩))))))));simpa[rawInt] using hQ
def yS{it:Addr}{e:DictEntry}{Q:Option Value->Shared->Prop}(hit:s.heap.IsKeyIter it d i es.size ep)(x:jm s.heap d es ep)(he:es[i]?=some e)
  (hQ:∀h',h'.IsKeyIter it d (i+1) es.size ep->Heap.SameBut it s.heap h'->Q (some e.key) { s with heap:=h' }):wpAny (model prog w) A (pyNext (.ref it)) Q E s:=by
 sleep 19;sleep 5;sleep 241
 first|refine aq (wpAny_typeNameOfWhole_keyiter ty (aL (aq (wpAny_isOneOf_keyiter ty ?_))))|refine aq (wpAny_typeNameOf_keyiter ty (aL (aq (wpAny_isOneOf_keyiter ty ?_))))
 sleep 236;have yE:(s.heap.update it (Obj.mapFields (·.setIfInBounds 1 (rawInt ((i:Int)+1))))).IsKeyIter it d (i+1) es.size ep :=
  ⟨_,fB _ ho (iN (dF hf _)),(kh ..).trans hc,by rw[dF hf];simp[rawInt]⟩
 sleep 261;refine aq (wpAny_isOneOf_keyiter (s:={ s with heap:=s.heap.update it (Obj.mapFields (·.setIfInBounds 1 (rawInt ((i:Int)+1)))) }) yE.typeIs (show wpAny _ _ (pure e.key) _ _ _ from ?_));exact aL (aL ⟨_,rfl,aL (hQ _ yE (jC ..))⟩)
def Dg{it:Addr}{Q:Option Value->Shared->Prop}(hh:A.handled=none)(hit:s.heap.IsKeyIter it d es.size es.size ep)(x:jm s.heap d es ep)
  (hQ:∀h',Heap.ExtBut it s.heap h'->Q none { s with heap:=h' }):wpAny (model prog w) A (pyNext (.ref it)) Q E s:=by
 sleep 19;sleep 5;sleep 190
 first|refine aq (wpAny_typeNameOfWhole_keyiter ty (aL ?_))|refine aq (wpAny_typeNameOf_keyiter ty (aL ?_))
 sleep 13
def E9(hh:A.handled=none)(I d:Addr)(hne:d≠I)(es:Array DictEntry)(ep:Nat):Walks prog w A I [I,d] [I] es.size (λi v=>∃e,es[i]?=some e/\v=e.key) (λi h=>h.IsKeyIter I d i es.size ep/\jm h d es ep) where
 sub:=λb hb=>by simp at hb;simp[hb]
 frame:=λ_ _ _ st hk=>⟨st.1.at λo e=>hk I (by simp) o e,st.2.at' λo e=>hk d (by simp) o e⟩
 item:=λi s Q E hi st hQ=>by have e1:es[i]?=some es[i]:=gu hi;refine yS st.1 st.2 e1 λh' h1 h2=>hQ _ h' s.toks ⟨_,e1,rfl⟩ ⟨h1,st.2.at' λo e=>h2.extBut d o hne e⟩ λb o hb e=>h2.extBut b o (λh=>hb (by simp[h])) e
 done:=λs Q E st hQ=>Dg hh st.1 st.2 λh' h1=>hQ h' s.toks λb o hb e=>h1 b o (λh=>hb (by simp[h])) e
 self:=λ_ _ _ _ st hQ=>wpAny_pyIter_keyiter st.1 hQ
def L5(lo:(d==sysModules)=false):KdlSrc prog w "dict" d d es.size (λi v=>∃e,es[i]?=some e/\v=e.key) (λh=>jm h d es ep) where
 type:=λ_ x=>x.ty
 there:=λ_ x=>⟨let⟨_,ho,_⟩:=x;aK ho,let⟨_,ho,_⟩:=x;aK ho⟩
 keep:=λ_ _ x hk=>x.at' λo e=>hk d (.inl rfl) o e
 notList:=by decide
 notTuple:=by decide
 hint:=λ_ _ _ _ x hq=>kdl_hint_dict x.ty hq
 iter:=λ_ s hh x=>⟨_,_,(λ_ _ hq=>yR lo x hq),E9 hh _ d (let⟨_,ho,_⟩:=x;aQ (aK ho)) es ep,⟨⟨_,iC _ rfl,rfl,rfl⟩,x.at' λo e=>c8 _ e⟩⟩
def Iq{ep:Nat}{R:Result->Shared->Prop}(hh:A.handled=none)(lo:(d==sysModules)=false)(x:jm s.heap d es ep)(hz:es.size<=sizeLine)
  (hR:∀h' tk acc c,(∀b o,s.heap.get? b=some o->h'.get? b=some o)->h'.get? s.heap.objs.size=some { cls:=.type "list", dict:=none,data:=.seq acc c,slots:=#[] }->ItemsOf (λi v=>∃e,es[i]?=some e/\v=e.key) acc es.size->R (.ok (.ret (.ref s.heap.objs.size))) { s with heap:=h',toks:=tk }):
  codeAny (model prog w) A (.builtin "proto.collect" ⟨[.ref d],[]⟩) R s:=by refine codeAny_builtin F.entry_proto_collect ?_;rw[iu F.plain_proto_collect];have hlt:d<s.heap.objs.size:=let⟨_,ho,_⟩:=x;aK ho;sleep 114;show wpAny _ A.in1 (Builtin.List.listExtendWith (.ref s.heap.objs.size) (.ref d) (.ref s.heap.objs.size)) _ _ _;exact kdl_extend (s:={ s with heap:=s.heap.push { cls:=.type "list", data:=.seq ([]:List Value).toArray } }) (R:=R) (L5 lo) hh (x.at' λo e=>c8 _ e) s.heap.objs.size (jo hlt) (jo hlt) _ 0 (iC _ rfl) (λh' tk acc c hk hS hacc=>hR h' tk acc c (λb o e=>hk b o (aQ (aK e)) (c8 _ e)) hS hacc) hz
def yT{ep:Nat}{Q:List Value->Shared->Prop}(hh:A.handled=none)(lo:(d==sysModules)=false)(x:jm s.heap d es ep)(hz:es.size<=sizeLine)
  (hQ:∀h' tk acc,(∀b o,s.heap.get? b=some o->h'.get? b=some o)->s.heap.objs.size<h'.objs.size->ItemsOf (λi v=>∃e,es[i]?=some e/\v=e.key) acc es.size->Q acc.toList { s with heap:=h',toks:=tk }):wpAny (model prog w) A (collect (.ref d)) Q E s:=by unfold collect;refine aq (wpAny_runValue (Iq hh lo x hz λh' tk acc c hk hS hacc=>?_));refine aq (m:=load s.heap.objs.size) (wpAny_load hS (aL (hQ h' tk acc hk (aK hS) hacc)))
end
abbrev jd(h:Heap):List Value->List (Int×Int)->Prop:=Paired λv p=>∃x o n t u,v=.ref x/\h.get? x=some o/\o.cls=.type "tuple" /\ o.data=.seq #[.int p.1 t,.int p.2 u] n
def rk(p:Int×Int):Int:=p.1*1000+p.2
def VN{a b c d:Int}(h1:0<=b/\b<1000)(h2:0<=d/\d<1000):decide (rk (a,b)<rk (c,d))=if a=c then decide (b<d) else decide (a<c):=by
 unfold rk;dsimp only;split
 .rw[decide_eq_decide];omega
 .rw[decide_eq_decide];omega
def Rt{p q:Int×Int}(h1:0<=p.2/\p.2<1000)(h2:0<=q.2/\q.2<1000)(e:rk p=rk q):p=q:=by
 obtain⟨a,b⟩:=p;obtain⟨c,d⟩:=q;unfold rk at e;dsimp only at *;have e1:a=c:=by omega
 have e2:b=d:=by omega
 rw[e1,e2]
section
variable {prog:Program}{w:World}{A:Around}{E:Value->Shared->Prop}{s:Shared}
def L6{x y:Addr}{ox oy:Obj}{n k:Nat}{a b c d:Int}{t1 t2 t3 t4:Tok}{Q:Bool->Shared->Prop}(hx:s.heap.get? x=some ox)(dx:ox.data=.seq #[.int a t1,.int b t2] n)(hy:s.heap.get? y=some oy)(dy:oy.data=.seq #[.int c t3,.int d t4] k)
  (h:Q (if a=c then decide (b<d) else decide (a<c)) s):wpAny (model prog w) A (keyLt' (tuples' true) (.ref x) (.ref y)) Q E s:=by
 refine kat_lt hx dx hy dy (kat_cons (wpAny_eqBool_int ?_));by_cases e:a=c
 .rw[if_pos e] at h;rw[show(a==c)=true by simpa using e];refine kat_yes (kat_cons (wpAny_eqBool_int ?_));by_cases e2:b=d
  .rw[show(b==d)=true by simpa using e2];sleep 258
  .rw[show(b==d)=false by simpa using e2];exact kat_no (kat_one _ _ (PyProof.Rows.lt_int h))
 .rw[if_neg e] at h;rw[show(a==c)=false by simpa using e];exact kat_no (oneLt_int h)
theorem Dh{h:Heap}:∀{vs:List Value}{ps:List (Int×Int)},jd h vs ps->∃fs:List Value,KatTups h vs fs/\fs.length=ps.length/\∀v∈fs,∃i t,v=Value.int i t
 | _,_,.nil=>⟨[],.nil,rfl,λv hv=>nomatch hv⟩
 | _,_,.cons ⟨x,o,n,t,u,e,h1,h2,h3⟩ r=>by obtain⟨fs,a1,a2,a3⟩:=Dh r;sleep 108
theorem BD{h:Heap}:∀{vs:List Value}{ps:List (Int×Int)}(_:jd h vs ps){i:Nat}(_:i<ps.length),∃x o n t u,vs.getD i Value.none=.ref x/\h.get? x=some o/\o.data=.seq #[.int (ps.getD i (0,0)).1 t,.int (ps.getD i (0,0)).2 u] n
 | _,_,.cons ⟨x,o,n,t,u,e,h1,h2,h3⟩ r,0,_=>⟨x,o,n,t,u,e,h1,h3⟩
 | _,_,.cons _ r,i+1,hi=>by obtain⟨x,o,n,t,u,h⟩:=BD r (i:=i) (by simpa using hi);exact⟨x,o,n,t,u,by simpa using h⟩
def jd.keep{h h':Heap}{vs:List Value}(x:jd h vs ps)(k:∀b o,o.cls=.type "tuple" -> h.get? b=some o->h'.get? b=some o):jd h' vs ps:=L2.Paired.Ex x λv p ⟨x,o,n,t,u,e,h1,h2,h3⟩=>⟨x,o,n,t,u,e,k _ _ h2 h1,h2,h3⟩
theorem Di:∀{vs:List Value},vs.length<2->(vs.toArray.zip vs.toArray).map (·.2)=List.toArray ((List.toArray (List.range vs.length)).toList.map λi=>vs.getD i Value.none)
 | [],_=>by simp
 | [v],_=>by simp[mZ]
 | _::_::_,h=>by simp only[eB] at h;omega
set_option maxHeartbeats 1000000 in
def yU{a:Addr}{vs:List Value}{P:PySem.Fin->Shared->Prop}(ho:s.heap.get? a=some (seqObj "list" vs.toArray n))(hP:jd s.heap vs ps)(hb:∀p∈ps,0<=p.2/\p.2<1000)(nd:ps.Nodup)(h64:ps.length<64)
  (h:∀q:Array Nat,Pl ps.length q->(∀i j,i<j->j<ps.length->rk (ps.getD (q.getD i 0) (0,0))<rk (ps.getD (q.getD j 0) (0,0)))->P (.done (.ret .none)) { s with heap:=sortedHeap s.heap a vs (List.toArray (q.toList.map λi=>vs.getD i Value.none)) }):
  wpAny (model prog w) A (Builtin.«list.sort» ⟨[.ref a],[]⟩) P E s:=by
 have hlen:vs.length=ps.length:=hP.length;sleep 4;have PG:jd (((s.heap.update a (Obj.mapSeq λ_=>#[])).push (seqObj "tuple" vs.toArray 0)).push (seqObj "list" #[] 0)) vs ps:=hP.keep λb o hc e=>kp b o (λz=>by subst z;rw[ho] at e;cases e;exact absurd (show Value.type "list" = .type "tuple" from hc) (by decide)) e;sleep 39;have fin:∀q:Array Nat,Pl ps.length q->Up (λi=>rk (ps.getD i (0,0))) q ps.length->P (.done (.ret .none)) { s with heap:=G.update a (Obj.mapSeq λ_=>List.toArray (q.toList.map λi=>vs.getD i Value.none)) }:=λq hq u=>by rw[uh];exact h q hq u
 by_cases h2:vs.toArray.size<2
 .sleep 251;refine aq (aL (aq (seqEpoch_at ho6 rfl (aq (listUpdate_at ho6 rfl ?_ (aH _) ?_)))))
  .sleep 124;have:=fin (List.toArray (List.range ps.length)) (Pl.start _) (λi j hij hj=>by rw[aV] at h2;omega);have e:(arrOf (SortSt.mk' general' (vs.toArray.zip vs.toArray) #[] 7 none)).map (·.2)=List.toArray ((List.toArray (List.range ps.length)).toList.map λi=>vs.getD i Value.none):=by rw[<- hlen];exact Di (by rw[aV] at h2;exact h2)
   rw[e];exact aL this
  .sleep 150
 .sleep 221;obtain⟨fs,k1,k2,k3⟩:=Dh PG;sleep 71;refine aq (wpAny_mono (kat_run (prog:=prog) (w:=w) (A:=A) (κ:=tuples' true) (vs:=vs) (ks:=vs) (Q:=λst' s'=>s'={ s with heap:=G }/\failedOf st'=none/\∃q,Pl ps.length q/\Up (λi=>rk (ps.getD i (0,0))) q ps.length/\(arrOf st').map (·.2)=List.toArray (q.toList.map λi=>vs.getD i Value.none))
   (G:=λq s'=>s'={ s with heap:=G }/\Pl ps.length q/\Up (λi=>rk (ps.getD i (0,0))) q ps.length) rfl h2' (by omega) (λq st' s' _ har hf hg=>⟨hg.1,hf,q,hg.2.1,hg.2.2,kat_snds rfl har⟩) ?_) ?_ λ_ _ e=>e)
  .rw[hlen];refine Df (r:=λi=>rk (ps.getD i (0,0))) (λi j hi hj C hC=>?_) (λi j hi hj e=>?_) (by omega) λq hq u=>⟨rfl,hq,u⟩
   .obtain⟨x,ox,n1,t1,u1,ex,gx,dx⟩:=BD PG hi;obtain⟨y,oy,n2,t2,u2,ey,gy,dy⟩:=BD PG hj;show wpAny (model prog w) A (keyLt' (tuples' true) (vs.getD i Value.none) (vs.getD j Value.none)) C _ _;rw[ex,ey];refine L6 (s:={ s with heap:=G }) gx dx gy dy ?_;sleep 138;rw[<- VN (hb _ mi) (hb _ mj)];exact hC
   .sleep 138;have e2:=Rt (hb _ mi) (hb _ mj) e;rw[mG,fN hi,mG,fN hj] at e2;exact(rP nd).mp e2
  .sleep 44
def BE{ep:Nat}{Q:Value->Shared->Prop}(hh:A.handled=none)(lo:(d==sysModules)=false)(x:jm s.heap d es ep)(hP:jd s.heap (es.toList.map (·.key)) ps)(hb:∀p∈ps,0<=p.2/\p.2<1000)(nd:ps.Nodup)(h64:ps.length<64)
  (h:∀(p:Addr)(h':Heap)(tk c:Nat)(q:Array Nat),s.heap.objs.size<=p->(∀b x,s.heap.get? b=some x->h'.get? b=some x)->h'.get? p=some { cls:=.type "list", data:=.seq (List.toArray (q.toList.map λi=>(es.toList.map (·.key)).getD i Value.none)) c }->Pl ps.length q->(∀i j,i<j->j<ps.length->rk (ps.getD (q.getD i 0) (0,0))<rk (ps.getD (q.getD j 0) (0,0)))->Q (.ref p) { s with heap:=h',toks:=tk }):
  wpAny (model prog w) A (call (.builtin "sorted") [.ref d]) Q E s:=by
 have hes:es.size=ps.length:=by have:=hP.length;rw[av,cY] at this;exact this
 sleep 87;refine aq (m:=checkCount "sorted" 1 1 _) (aL (aq (yT (by simp[hh]) lo x (by rw[hes,sizeLine_eq];omega) ?_)));intro h1 VM acc k1 BA items;have Rv:acc.toList=es.toList.map (·.key):=by
  apply List.ext_getElem?;intro i;rcases aY i es.size with hi|hi
  .have hi':i<acc.size:=by rw[items.1];exact hi
   obtain⟨e,he,ee⟩:=items.2 i acc[i] (gu hi');rw[fR,gu hi',bz,fR,he,ee];rfl
  .rw[jG (by rw[cY,items.1];exact hi),jG (by rw[av,cY];exact hi)]
 rw[Rv];have hvl:(es.toList.map (·.key)).length=ps.length:=hP.length;have hP1:jd h1 (es.toList.map (·.key)) ps:=hP.keep λb o _ e=>k1 b o e;generalize es.toList.map (·.key)=vs at *;refine aq (wpAny_newList ?_ (by rw[hvl,sizeLine_eq];omega));have gN:(h1.push (seqObj "list" vs.toArray 0)).get? h1.objs.size=some (seqObj "list" vs.toArray 0):=iC _ rfl;refine aq (wpAny_holding (wpAny_call_entry slot_list_sort ⟨_,gN,rfl⟩ entry_list_sort (yU gN (hP1.keep λb o _ e=>c8 _ e) hb nd h64 λq hq u=>⟨_,rfl,?_⟩) (args_list_sort _)));obtain⟨c,hc⟩:=sortedHeap_at (h:=h1.push (seqObj "list" vs.toArray 0)) (a:=h1.objs.size) (vs:=vs) (n:=0) (out:=List.toArray (q.toList.map λi=>vs.getD i Value.none)) gN;refine aL ⟨_,rfl,h h1.objs.size _ VM c q (jJ BA) (λb x e=>?_) hc hq u⟩;sleep 69
end
end SN
namespace L2
open PySem PySem.Spec PyProof.Rows
variable {p q:Int×Int}{a b:Addr}{ps:List (Int×Int)}
abbrev lF(H:Hp):List V->List (Int×Int)->Prop:=Paired λv p=>∃a,v=.ref a/\H a=some (.tup [.int p.1,.int p.2])
theorem lG{α β:Type}{F:α->β->Prop}:∀{l₁:List α}{l₂:List β},Paired F l₁ l₂->∀{i:Nat}{x:α},l₁[i]?=some x->∃y,l₂[i]?=some y/\F x y
 | _,_,.cons (b:=b) h _,0,x,e=>⟨b,rfl,by simp only[List.getElem?_cons_zero,Option.some.injEq] at e;rw[<- e];exact h⟩
 | _,_,.cons _ t,i+1,x,e=>by simpa using lG t (i:=i) (x:=x) (by simpa using e)
def uw(p:Int×Int):List Key:=[.inl p.1,.inl p.2]
def L7(e:uw p=uw q):p=q:=by obtain⟨a,b⟩:=p;obtain⟨c,d⟩:=q;unfold uw at e;dsimp only at e;injection e with e1 e2;injection e1 with e1;injection e2 with e2 _;injection e2 with e2;rw[e1,e2]
section
variable {X:Cx}{pins:List (Addr×Obj)}{σ:St}{H:Hp}{s:Shared}{Q:VK}
def Inv.pair(I:Inv X pins σ H s)(h:H a=some (.tup [.int p.1,.int p.2])):∃o n t u,s.heap.get? a=some o/\o.cls=.type "tuple" /\ o.data=.seq #[.int p.1 t,.int p.2 u] n:=by
 obtain⟨_,its,r,o,h1,h2,n,h3⟩:=(show cZ X.prog X.w H s.heap a (.tup [.int p.1,.int p.2]) from I.hok a _ h);cases r with
 | cons r1 r =>
  cases r with
  | cons r2 r =>
   cases r;obtain⟨t,rfl⟩:=r1;obtain⟨u,rfl⟩:=r2;exact⟨o,n,t,u,h1,h2,h3⟩
def K0(h:Heap)(p:Int×Int):Value->Bool
 | .ref a=>match h.get? a with
  | some o=>match o.data with
   | .seq its _=>match its.toList with
    | [.int i _,.int j _]=>decide ((i,j)=p)
    | _=>false
   | _=>false
  | none=>false
 | _=>false
def Ir{h:Heap}{o:Obj}{n:Nat}{t u:Tok}(e:h.get? a=some o)(d:o.data=.seq #[.int p.1 t,.int p.2 u] n):K0 h q (.ref a)=decide (p=q):=by unfold K0;dsimp only;rw[e];dsimp only;rw[d]
def Fb{A:Around}{oa ob:Obj}{n m:Nat}{t1 t2 u1 u2:Tok}(ea:s.heap.get? a=some oa)(ca:oa.cls=.type "tuple")(da:oa.data=.seq #[.int p.1 t1,.int p.2 t2] n)(eb:s.heap.get? b=some ob)(cb:ob.cls=.type "tuple")(db:ob.data=.seq #[.int q.1 u1,.int q.2 u2] m)(hu:A.units+1<cLine):
  SeqAt.EqAt A s (.ref a) (.ref b) (decide (p=q)):=by
 have ra:Reads s.heap (.ref a) (.tuple [.int p.1,.int p.2]) _:=.tuple ea ca da (by simpa using ReadsAll.cons (.int p.1 t1) (.cons (.int p.2 t2) .nil));have rb:Reads s.heap (.ref b) (.tuple [.int q.1,.int q.2]) _:=.tuple eb cb db (by simpa using ReadsAll.cons (.int q.1 u1) (.cons (.int q.2 u2) .nil));have e:PyData.eqv (.tuple [.int p.1,.int p.2]) (.tuple [.int q.1,.int q.2])=decide (p=q):=by sleep 96
 rw[<- e];exact SeqAt.eqAt_reads _ _ A s _ _ _ _ ra rb rfl rfl hu
theorem wR(I:Inv X pins σ H s)(q:Int×Int):∀{xs:List V}{ps:List (Int×Int)}{us:List Value},lF H xs ps->Vals xs us->us.any (K0 s.heap q)=decide (q∈ps)
 | _,_,_,.nil,.nil=>by simp
 | _,_,_,.cons (b:=p) (l₂:=ps) ⟨a,e,h⟩ r,.cons rv rs=>by
  subst e;cases rv;obtain⟨o,n,t,u,h1,h2,h3⟩:=I.pair h;rw[jD,Ir h1 h3,wR I q r rs];by_cases e:p=q
  .simp[e]
  .have e':¬q=p:=λz=>e z.symm;simp[e,e']
theorem BF(I:Inv X pins σ H s){A:Around}(hu:A.units+1<cLine){b:Addr}{q:Int×Int}(hb:H b=some (.tup [.int q.1,.int q.2])):∀{xs:List V}{ps:List (Int×Int)}{us:List Value},lF H xs ps->Vals xs us->∀u∈us,SeqAt.EqAt A s u (.ref b) (K0 s.heap q u)
 | _,_,_,.nil,.nil=>λu hu=>nomatch hu
 | _,_,_,.cons ⟨a,e,h⟩ r,.cons rv rs=>λu hm=>by
  rcases aI.mp hm with z|z
  .subst z e;cases rv;obtain⟨o,n,t,u,h1,h2,h3⟩:=I.pair h;obtain⟨o',n',t',u',h1',h2',h3'⟩:=I.pair hb;rw[Ir h1 h3];exact Fb h1 h2 h3 h1' h2' h3' hu
  .exact BF I hu hb r rs u z
def Fc(K:aD)(neg:Bool):R2:=λx y H Q=>∃(b l:Addr)(q:Int×Int)(xs:List V)(ps:List (Int×Int)),x=.ref b/\y=.ref l/\H b=some (.tup [.int q.1,.int q.2])/\bE K H l xs/\lF H xs ps/\Q (.bl (if neg then !decide (q∈ps) else decide (q∈ps))) H
def BG(hu:X.A.units+64<cLine):jS X (compareOp .In) (Fc X.K false):=by sleep 30;sleep 171;refine SeqAt.in_listAt (K0 s.heap q) pl.isList (λw hw=>BF I (by show X.A.units+1+1<cLine;omega) hb hp r w (by simpa using hw)) ⟨.bl _,H,I,rfl,?_⟩;sleep 191
def Fd(hu:X.A.units+64<cLine):jS X (compareOp .NotIn) (Fc X.K true):=by sleep 30;sleep 171;refine SeqAt.notIn_listAt (K0 s.heap q) pl.isList (λw hw=>BF I (by show X.A.units+1+1<cLine;omega) hb hp r w (by simpa using hw)) ⟨.bl _,H,I,rfl,?_⟩;sleep 191
def Dj{K:aD}(e:X.K=K)(hu:X.A.units+64<cLine):jS X (compareOp .In) (Fc K false):=e▸BG hu
def BH{K:aD}(e:X.K=K)(hu:X.A.units+64<cLine):jS X (compareOp .NotIn) (Fc K true):=e▸Fd hu
def Iu:List V->Hp->VK->Prop:=λxs H Q=>∃(d:Addr)(ps:List (Int×Int))(f:Int×Int->V),xs=[.ref d]/\H d=some (.dT (ps.map λp=>(uw p,f p)))/\(∀p∈ps,0<=p.2/\p.2<1000)/\ps.length<64 /\
 ∀l us qs H',eU H l (.lst us) H'->lF H us qs->qs.Perm ps->qs.Pairwise (λp q=>SN.rk p<SN.rk q)->Q (.ref l) H'
def range_getD{α:Type}(d:α):∀xs:List α,(List.range xs.length).map (λi=>xs.getD i d)=xs:=λxs=>by
 apply List.ext_getElem?;intro i;rw[bz];rcases aY i xs.length with h|h
 .rw[pC h];simp[h]
 .rw[jG (by simpa using h),jG h];rfl
def BI(hc:X.calm=true):di X (.builtin "sorted") Iu:=by
 sleep 38;obtain⟨d,ps,f,rfl,hd,hb,h64,k⟩:=h;sleep 64;obtain⟨z,lo,ys,rel,o,es,ep,h1,h2,h3,h4,h5⟩:=(show cZ X.prog X.w H s.heap d (.dT (ps.map λp=>(uw p,f p))) from I.hok d _ hd);have hkeys:es.toList.map (·.key)=(ys.map (·.2.1)).map Value.ref:=by rw[h4,fU,fU];rfl
 have hat:∀{ps:List (Int×Int)}{ys:List (List Key×Addr×Value)},Paired (λ(p:List Key×V)(q:List Key×Addr×Value)=>p.1=q.1/\H q.2.1=some (.tup (p.1.map kV))/\RelV p.2 q.2.2) (ps.map λp=>(uw p,f p)) ys->Paired (λ(a:Addr)(p:Int×Int)=>H a=some (.tup [.int p.1,.int p.2])) (ys.map (·.2.1)) ps/\ys.map (·.1)=ps.map uw:=by
  intro ps;induction ps with
  | nil=>intro ys r;cases r;exact⟨.nil,rfl⟩
  | cons p ps ih =>
   intro ys r;cases r with
   | cons hq t =>
    obtain⟨a1,a2⟩:=ih t;exact⟨.cons hq.2.1 a1,by rw[cj,cj,a2,<- hq.1]⟩
 obtain⟨Rw,aaa⟩:=hat rel;have nd:ps.Nodup:=by rw[aaa] at h5;exact(lg.mp h5).imp λh e=>h (by rw[e])
 have hP:SN.jd s.heap (es.toList.map (·.key)) ps:=by
  rw[hkeys];have go:∀{as:List Addr}{ps:List (Int×Int)},Paired (λ(a:Addr)(p:Int×Int)=>H a=some (.tup [.int p.1,.int p.2])) as ps->SN.jd s.heap (as.map Value.ref) ps:=by
   intro as ps r;induction r with
   | nil=>exact .nil
   | cons h _ ih =>
    obtain⟨o,n,t,u,a1,a2,a3⟩:=I.pair h;exact .cons ⟨_,o,n,t,u,rfl,a1,a2,a3⟩ ih
  exact go Rw
 have yV:=Rw.length;refine SN.BE (I.ok.hd hc) lo ⟨o,h1,h2,h3⟩ hP hb nd h64 λp h' tk c q hle hk ho hq hup=>?_;rw[hkeys] at ho;generalize hA:ys.map (·.2.1)=as at *;have hget:∀i,i<ps.length->(as.map Value.ref).getD i Value.none=Value.ref (as.getD i 0)/\H (as.getD i 0)=some (.tup [.int (ps.getD i (0,0)).1,.int (ps.getD i (0,0)).2]):=λi hi=>by
  have hi':i<as.length:=by omega
  obtain⟨b,hb1,hb2⟩:=lG Rw (i:=i) (x:=as[i]) (fN hi');simp only[mG,bz,fN hi',hb1,Option.map_some,Option.getD_some];exact⟨trivial,hb2⟩
 have hmem:∀i∈q.toList,i<ps.length:=λi hi=>fW.mp (hq.pm.mem_iff.mp hi);have VO:∀{l:List Nat},(∀i∈l,i<ps.length)->Vals (l.map λi=>V.ref (as.getD i 0)) (l.map λi=>(as.map Value.ref).getD i Value.none)/\lF H (l.map λi=>V.ref (as.getD i 0)) (l.map λi=>ps.getD i (0,0)):=by
  intro l;induction l with
  | nil=>intro _;exact⟨.nil,.nil⟩
  | cons i l ih =>
   intro hl;obtain⟨a1,a2⟩:=ih λj hj=>hl j (c9 _ hj);obtain⟨b1,b2⟩:=hget i (hl i (by simp));rw[cj,cj,cj];refine⟨.cons ?_ a1,.cons ⟨_,rfl,b2⟩ a2⟩;rw[b1];rfl
 obtain⟨v1,v2⟩:=VO hmem;refine⟨.ref p,_,I.laid (t':=tk) hk hle (o:=.lst (q.toList.map λi=>V.ref (as.getD i 0))) ⟨?_,_,c,v1,ho⟩,rfl,k p _ (q.toList.map λi=>ps.getD i (0,0)) _ ⟨I.hok.fresh hle,rfl⟩ v2 ?_ ?_⟩
 .rw[av,cY,hq.sz,sizeLine_eq];omega
 .have:=hq.pm.map λi=>ps.getD i (0,0);rw[range_getD] at this;exact this
 .rw[lg,k9];intro i j hi hj hij;have hql:q.toList.length=ps.length:=by rw[cY,hq.sz]
  have g1:=hq.get (i:=i) (by omega);have g2:=hq.get (i:=j) (by omega);rw[fN hi] at g1;rw[fN hj] at g2;rw[Option.some.inj g1,Option.some.inj g2];exact hup i j hij (by omega)
end
section
variable {K:aD}{nx bk ct:St->Hp->Prop}{rt:VK}{σ:St}{H:Hp}{Q:VK}
def Dk{l:Addr}{xs:List V}(hb:H b=some (.tup [.int q.1,.int q.2]))(hl:bE K H l xs)(hp:lF H xs ps)(h:Q (.bl (decide (q∈ps))) H):Fc K false (.ref b) (.ref l) H Q:=⟨b,l,q,xs,ps,rfl,rfl,hb,hl,hp,h⟩
def Iv{l:Addr}{xs:List V}(hb:H b=some (.tup [.int q.1,.int q.2]))(hl:bE K H l xs)(hp:lF H xs ps)(h:Q (.bl (!decide (q∈ps))) H):Fc K true (.ref b) (.ref l) H Q:=⟨b,l,q,xs,ps,rfl,rfl,hb,hl,hp,h⟩
def L8{d:Addr}{f:Int×Int->V}(hd:H d=some (.dT (ps.map λp=>(uw p,f p))))(hb:∀p∈ps,0<=p.2/\p.2<1000)(h64:ps.length<64)
  (h:∀l us qs H',eU H l (.lst us) H'->lF H us qs->qs.Perm ps->qs.Pairwise (λp q=>SN.rk p<SN.rk q)->Q (.ref l) H'):Iu [.ref d] H Q:=⟨d,ps,f,rfl,hd,hb,h64,h⟩
def Ma(h:∀p H',eU H p (.dT []) H'->Q (.ref p) H'):Hg σ H Q:=λp hp=>h p _ ⟨hp,rfl⟩
def VP{kvs:List (List Key×V)}{k:List Key}{v:V}{R:Hp->Prop}(hd:H a=some (.dT kvs))(hb:H b=some (.tup (k.map kV)))(hz:kvs.length<=1000000)(h:∀H',nj H a (.dT (putK kvs k v)) H'->R H'):ZZ v (.ref a) (.ref b) H R :=
 ⟨a,_,rfl,yp.t hd hb (by rw[sizeLine_eq];omega),h _ rfl⟩
def Rx{kvs:List (Key×V)}{i:Int}(hd:H a=some (.dK kvs))(h:Q (.bl (!(e9 kvs (.inl i)).isSome)) H):Vv (.int i) (.ref a) H Q:=⟨a,_,rfl,.inl ⟨kvs,.inl i,.inl hd,rfl,rfl⟩,h⟩
end
section
variable {X:Cx}{K:aD}{w:World}
def BJ(e:X.K=K)(e2:X.w=w)(hc:X.calm=true):di X (.type "set") (C9 K w):=e▸e2▸vm hc
def yW(e2:X.w=w)(hc:X.calm=true):di X (.builtin "sorted") (BB w):=e2▸sL hc
end
section
variable {prog:Program}{w:World}{A:Around}{E:Value->Shared->Prop}{s:Shared}
end
section
variable {X:Cx}{tg:Expr}
end
section
variable {K:aD}{nx bk ct:St->Hp->Prop}{rt:VK}{σ:St}{H:Hp}{Q:VK}{te:TE}
end
end L2
namespace HM
open PySem PySem.Spec PyProof.Rows
variable {h h':Heap}{k y:bP}{v:Value}{a x d:Addr}{Q:Bool->Shared->Prop}{n:Nat}{t:SetTable}{led:Bool}
abbrev fu:=Option (Int×Int)
abbrev bP:=Int×Option (Int×Int)
def gz(h:Heap):fu->Value->Prop
 | none,v=>∃t,v=.str "mark" t
 | some p,v=>∃a o n t u,v=.ref a/\h.get? a=some o/\o.cls=.type "tuple" /\ o.data=.seq #[.int p.1 t,.int p.2 u] n
def cg(h:Heap)(k:bP)(a:Addr):Prop:=∃o n t v,h.get? a=some o/\o.cls=.type "tuple" /\ o.data=.seq #[.int k.1 t,v] n/\gz h k.2 v
def kW:fu->PyData
 | none=>.str "mark"
 | some p=>.tuple [.int p.1,.int p.2]
def uG(k:bP):PyData:=.tuple [.int k.1,kW k.2]
def Mb:PyData.strOk "mark" = true:=by decide +kernel
def qO(k:fu):(kW k).canLay0=true:=by cases k<;>simp[kW,PyData.canLay0,PyData.canLayAll0,Mb]
def Dl(k:bP):(uG k).canLay0=true:=by simp[uG,PyData.canLay0,PyData.canLayAll0,qO]
def pS(k:fu):(kW k).depth<=1:=by cases k<;>simp[kW,PyData.depth,PyData.depthAll]
def Fe(k:bP):(uG k).depth<=2:=by have:=pS k.2;simp only[uG,PyData.depth,PyData.depthAll];omega
def Iw(p q:Int×Int):PyData.eqv (.tuple [.int p.1,.int p.2]) (.tuple [.int q.1,.int q.2])=decide (p=q):=by sleep 96
def wU(x y:fu):PyData.eqv (kW x) (kW y)=decide (x=y):=by
 cases x with
 | none =>
  cases y with
  | none=>show(("mark" : Str) == "mark")=_;simp
  | some q=>simp[kW,PyData.eqv]
 | some p =>
  cases y with
  | none=>simp[kW,PyData.eqv]
  | some q =>
   show PyData.eqv (.tuple [.int p.1,.int p.2]) (.tuple [.int q.1,.int q.2])=_;rw[Iw];by_cases e:p=q
   .simp[e]
   .simp[e]
def Mc(x y:bP):PyData.eqv (uG x) (uG y)=decide (x=y):=by
 sleep 242;show((p==q)&&(PyData.eqv (kW a) (kW b)&&true))=_;rw[wU];by_cases h1:p=q
 .by_cases h2:a=b
  .subst h1 h2;simp
  .simp[h2]
 .simp[h1]
def gz.reads{k:fu}(x:gz h k v):Reads h v (kW k) []:=by
 cases k with
 | none=>obtain⟨t,rfl⟩:=x;exact .str _ _
 | some p =>
  obtain⟨a,o,n,t,u,rfl,h1,h2,h3⟩:=x;exact .tuple h1 h2 h3 (by simpa using ReadsAll.cons (.int p.1 t) (.cons (.int p.2 u) .nil))
theorem cg.reads(x:cg h k a):Reads h (.ref a) (uG k) []:=by obtain⟨o,n,t,v,h1,h2,h3,h4⟩:=x;exact .tuple h1 h2 h3 (by simpa using ReadsAll.cons (.int k.1 t) (.cons h4.reads .nil))
def gz.stay{k:fu}(x:gz h k v)(e:∀b o vs n,o.cls=.type "tuple" -> o.data=.seq vs n->h.get? b=some o->h'.get? b=some o):gz h' k v:=by
 cases k with
 | none=>exact x
 | some p =>
  obtain⟨a,o,n,t,u,e1,h1,h2,h3⟩:=x;exact⟨a,o,n,t,u,e1,e _ _ _ _ h2 h3 h1,h2,h3⟩
theorem cg.stay(x:cg h k a)(e:∀b o vs n,o.cls=.type "tuple" -> o.data=.seq vs n->h.get? b=some o->h'.get? b=some o):cg h' k a:=by obtain⟨o,n,t,v,h1,h2,h3,h4⟩:=x;exact⟨o,n,t,v,e _ _ _ _ h2 h3 h1,h2,h3,h4.stay e⟩
theorem gz.inj{x y:fu}(a:gz h x v)(b:gz h y v):x=y:=by
 cases x with
 | none =>
  obtain⟨t,rfl⟩:=a;cases y with
  | none=>rfl
  | some q=>obtain⟨_,_,_,_,_,e,_⟩:=b;cases e
 | some p =>
  obtain⟨a1,o,n,t,u,rfl,h1,h2,h3⟩:=a;cases y with
  | none=>obtain⟨_,e⟩:=b;cases e
  | some q =>
   obtain⟨a2,o2,n2,t2,u2,e,g1,g2,g3⟩:=b;cases e;rw[h1] at g1;cases g1;rw[h3] at g3;have e1:=congrArg Array.toList (Data.seq.inj g3).1;simp only[List.cons.injEq,Value.int.injEq] at e1;obtain⟨⟨e1,_⟩,⟨e2,_⟩,_⟩:=e1;exact congrArg some (Prod.ext e1 e2)
theorem cg.inj{x:bP}(hx:cg h x a)(hy:cg h y a):x=y:=by obtain⟨o,n,t,v,h1,h2,h3,h4⟩:=hx;obtain⟨o2,n2,t2,v2,g1,g2,g3,g4⟩:=hy;rw[h1] at g1;cases g1;rw[h3] at g3;have e:=Data.seq.inj g3;have e1:=congrArg Array.toList e.1;simp only[List.cons.injEq,Value.int.injEq] at e1;obtain⟨⟨e1,_⟩,e2,_⟩:=e1;subst e2;have:=h4.inj g4;sleep 242;exact Prod.ext e1 this
section
variable {prog:Program}{w:World}{A:Around}{E:Value->Shared->Prop}{s:Shared}
def Ry{x y:fu}{u:Value}(hu:A.units+1<cLine)(hx:gz s.heap x u)(hy:gz s.heap y v)(h:Q (decide (x=y)) s):wpAny (model prog w) A (eqBool u v) Q E s:=by refine SeqAt.eqBoolOverData prog w A E s u v (kW x) (kW y) [] [] Q hx.reads hy.reads (qO x) (qO y) ?_ (by rw[wU];exact h);have:=pS x;omega
def BK{x:bP}{b:Addr}(hu:A.units+2<cLine)(hx:cg s.heap x a)(hy:cg s.heap y b)(h:Q (decide (x=y)) s):wpAny (model prog w) A (eqBool (.ref a) (.ref b)) Q E s:=by refine SeqAt.eqBoolOverData prog w A E s _ _ (uG x) (uG y) [] [] Q hx.reads hy.reads (Dl x) (Dl y) ?_ (by rw[Mc];exact h);have:=Fe x;omega
def nV(prog:Program)(w:World):fu->Int
 | none=>(strKind prog w).hash "mark"
 | some p=>tupleKeyHash (intKind prog w) [p.1,p.2]
def nW:fu->Nat
 | none=>1
 | some _=>3
def aU(prog:Program)(w:World)(k:bP):Int:=reduceHash (Builtin.Tuple.tupleHashOf [(intKind prog w).hash k.1,nV prog w k.2])
def Iz{o:Obj}{p:Int×Int}{t u:Tok}(h1:h.get? a=some o)(h2:o.cls=.type "tuple")(h3:o.data=.seq #[.int p.1 t,.int p.2 u] n):IsTupleKey (intKind prog w) h [p.1,p.2] a :=
 ⟨o,_,n,h1,h2,h3,.cons (intKind_is _ _ _ _) (.cons (intKind_is _ _ _ _) .nil)⟩
def IA{k:fu}{Q:Int->Shared->Prop}(hu:A.units<cLine)(hk:gz s.heap k v)(h:Q (nV prog w k) { s with toks:=s.toks+nW k }):wpAny (model prog w) A (pyHash v) Q E s:=by
 cases k with
 | none =>
  obtain⟨t,rfl⟩:=hk;exact(strKind prog w).pyHash (k := "mark") (strKind_is _ _ _ _) h
 | some p =>
  obtain⟨a,o,n,t,u,rfl,h1,h2,h3⟩:=hk;exact wpAny_pyHash_tuple hu (Iz h1 h2 h3) h
def yX{Q:Int->Shared->Prop}(hu:A.units+1<cLine)(hk:cg s.heap k a)(h:Q (aU prog w k) { s with toks:=s.toks+(1+nW k.2+1) }):wpAny (model prog w) A (pyHash (.ref a)) Q E s:=by
 sleep 56;unfold pyHash
 first|unfold pyHashByItsType|skip
 first|refine aq (wpAny_cRoomFor_or (.inr (by omega)) ?_)|skip
 sleep 111;show wpAny _ _ (if(some (Value.builtin "tuple.__hash__")==some Value.none)=true then _ else _) Q E s;rw[if_neg (by rw[beq_builtin_none];exact jT)];sleep 111;show wpAny _ _ (callSpecialIfBoundUnlessNone? (.ref a) "__hash__" _ >>= _) Q E s;refine aq (wpAny_callSpecialIfBoundUnlessNone?_slot hT F.slot_tuple_hash (wpAny_call_entry F.slot_tuple_hash hT F.entry_tuple_hash ?_ (F.args_tuple_hash_1 _)));show wpAny _ _ (Builtin.Tuple.tupleItemsOf (.ref a) >>= _) _ _ s;refine aq (wpAny_tupleItemsOf ho hd ?_);refine aq ?_;rw[<- kY];show wpAny _ _ (forIn [Value.int k.1 t,v] _ _) _ _ _;rw[jF];refine aq (aq ((intKind prog w).pyHash (k:=k.1) (intKind_is _ _ _ _) ?_));refine aq (aL (aL ?_));dsimp only;rw[jF];refine aq (aq (IA (k:=k.2) (by simp only[Around.in1];omega) hv ?_));refine aq (aL (aL ?_));dsimp only;rw[kZ];refine aL ?_;show wpAny _ _ (retInt (Builtin.Tuple.tupleHashOf [(intKind prog w).hash k.1,nV prog w k.2])) _ _ _;refine wpAny_ret_mkInt ?_;show wpAny _ _ (if(decide (-(2:Int) ^ 63<=Builtin.Tuple.tupleHashOf [(intKind prog w).hash k.1,nV prog w k.2])&&decide (Builtin.Tuple.tupleHashOf [(intKind prog w).hash k.1,nV prog w k.2]<2 ^ 63))=true then _ else _) Q E _;unfold aU reduceHash at h;split
 .rename_i hr;rw[if_pos hr] at h;exact aL (by simpa[Nat.add_assoc] using h)
 .rename_i hr;rw[if_neg hr] at h;exact aq (wpAny_rule (aL (by simpa[Nat.add_assoc] using h)))
def Ff{k:fu}(hk:gz s.heap k v)(h:Q true s):wpAny (model prog w) A (eqIsQuiet (n+1) v) Q E s:=by
 cases k with
 | none =>
  obtain⟨t,rfl⟩:=hk;rw[eqIsQuiet_byValue _ rfl];exact aL h
 | some p =>
  sleep 92;sleep 76;sleep 54;sleep 127;refine wpAny_forIn_list _ (λrest r s'=>r.1=none/\s'=s/\∀v∈rest,carriedByValue v=true) _ ?_ ?_ _ _ ⟨rfl,rfl,λv hv=>by simp at hv;rcases hv with e|e<;>rw[e]<;>rfl⟩
  .rintro v rest r s' ⟨hr,rfl,hall⟩;rw[eqIsQuiet_byValue _ (hall v i8)];refine aq (aL ?_);sleep 54;sleep 104
  .sleep 47;exact aL h
def pT(hk:cg s.heap k a)(h:Q true s):wpAny (model prog w) A (eqIsQuiet 8 (.ref a)) Q E s:=by
 sleep 56;sleep 76;sleep 54;sleep 151;refine wpAny_forIn_list _ (λrest r s'=>r.1=none/\s'=s/\∀u∈rest,(∃i t,u=Value.int i t)\/gz s.heap k.2 u) _ ?_ ?_ _ _ ⟨rfl,rfl,λu hu=>by simp at hu;rcases hu with e|e;exact .inl ⟨_,_,e⟩;exact .inr (e▸hv)⟩
 .rintro u rest r s' ⟨hr,rfl,hall⟩;refine aq ?_;have go:wpAny (model prog w) A (eqIsQuiet 7 u) (λb s2=>b=true/\s2=s') E s':=by
   rcases hall u i8 with⟨i,t,rfl⟩|hu
   .rw[eqIsQuiet_byValue _ rfl];exact aL ⟨rfl,rfl⟩
   .exact Ff (n:=6) hu ⟨rfl,rfl⟩
  sleep 203;rintro⟨rfl,rfl⟩;sleep 54;sleep 104
 .sleep 47;exact aL h
end
def eX(prog:Program)(w:World):HeapKind prog w bP where
 is:=cg
 hash:=aU prog w
 draws:=λk=>1+nW k.2+1
 room:=λA=>A.units+2<cLine
 inj:=λhx hy=>hx.inj hy
 keeps:=λx ho hd hs=>x.stay λb u vs n hc hs2 e=>by rw[hs.2 b (λz=>by subst z;rw[ho] at e;cases e;rw[hd] at hs2;cases hs2)];exact e
 pyHash:=λhu hk h=>yX (by omega) hk h
 eqBool:=λhu hx hy h=>BK hu hx hy h
 quiet:=λhk h=>pT hk h
def sq(x:Int):Nat->Nat×Nat
 | 0=>(SetTable.bits x % 8,SetTable.bits x)
 | n+1=>(((sq x n).1*5+1+(sq x n).2 / 32) % 8,(sq x n).2 / 32)
theorem Oj(x:Int):∀n,(sq x n).1<8
 | 0=>Nat.mod_lt _ (by decide)
 | n+1=>Nat.mod_lt _ (by decide)
theorem yY(x:Int):∀n,(sq x n).2*32 ^ n<2 ^ 64
 | 0=>by
  show SetTable.bits x*1<_;unfold SetTable.bits;omega
 | n+1=>by
  have ih:=yY x n;show(sq x n).2 / 32*32 ^ (n+1)<_;have h:(sq x n).2 / 32*32<=(sq x n).2:=Nat.div_mul_le_self _ _;have h2:(sq x n).2 / 32*32 ^ (n+1)=((sq x n).2 / 32*32)*32 ^ n:=by rw[Nat.pow_succ,Nat.mul_assoc,Nat.mul_comm (32 ^ n) 32]
  rw[h2];exact Nat.lt_of_le_of_lt (Nat.mul_le_mul_right _ h) ih
def Me(x:Int)(n:Nat)(h:13<=n):(sq x n).2=0:=by
 have h1:=yY x n;rcases Nat.eq_zero_or_pos (sq x n).2 with e|hp
 .exact e
 .have h2:32 ^ 13<=32 ^ n:=Nat.pow_le_pow_right (by decide) h;have h3:1*32 ^ n<=(sq x n).2*32 ^ n:=Nat.mul_le_mul_right _ hp;have h4:(32:Nat) ^ 13=2 ^ 65:=by decide
  omega
def kG(x:Int)(n:Nat)(h:13<=n):(sq x (n+1)).1=((sq x n).1*5+1) % 8:=by show((sq x n).1*5+1+(sq x n).2 / 32) % 8=_;rw[Me x n h]
def Rz(x:Int)(j:Nat)(hj:j<8):∃n,n<=20/\(sq x n).1=j:=by
 have h0:=Oj x 13;have e1:=kG x 13 (by decide);have e2:=kG x 14 (by decide);have e3:=kG x 15 (by decide);have e4:=kG x 16 (by decide);have e5:=kG x 17 (by decide);have e6:=kG x 18 (by decide);have e7:=kG x 19 (by decide);have cyc:∀(a j:Fin 8),j.val=a.val\/j.val=(a.val*5+1) % 8\/j.val=((a.val*5+1) % 8*5+1) % 8\/j.val=(((a.val*5+1) % 8*5+1) % 8*5+1) % 8\/j.val=((((a.val*5+1) % 8*5+1) % 8*5+1) % 8*5+1) % 8 \/
   j.val=(((((a.val*5+1) % 8*5+1) % 8*5+1) % 8*5+1) % 8*5+1) % 8\/j.val=((((((a.val*5+1) % 8*5+1) % 8*5+1) % 8*5+1) % 8*5+1) % 8*5+1) % 8\/j.val=(((((((a.val*5+1) % 8*5+1) % 8*5+1) % 8*5+1) % 8*5+1) % 8*5+1) % 8*5+1) % 8:=by decide
 have:=cyc ⟨(sq x 13).1,h0⟩ ⟨j,hj⟩;dsimp only at this;rw[<- e1,<- e2,<- e3,<- e4,<- e5,<- e6,<- e7] at this;rcases this with e|e|e|e|e|e|e|e
 .exact⟨13,by decide,e.symm⟩
 .exact⟨14,by decide,e.symm⟩
 .exact⟨15,by decide,e.symm⟩
 .exact⟨16,by decide,e.symm⟩
 .exact⟨17,by decide,e.symm⟩
 .exact⟨18,by decide,e.symm⟩
 .exact⟨19,by decide,e.symm⟩
 .exact⟨20,by decide,e.symm⟩
def Fg(x:Int)(n:Nat):SetTable.Probe:={ j:=(sq x n).1,more:=0,i:=(sq x n).1,perturb:=(sq x n).2,dummy:=none }
def Fi(h:t.mask=7)(x:Int):t.probeStart x=Fg x 0:=by
 unfold SetTable.probeStart Fg sq;rw[h];have hl:SetTable.bits x % 8<8:=Nat.mod_lt _ (by decide);have e:SetTable.runEnd 7 (SetTable.bits x % 8)-SetTable.bits x % 8=0:=by unfold SetTable.runEnd;rw[if_neg (by omega)];omega
 show SetTable.Probe.mk _ _ _ _ _=_;rw[show(7:Nat)+1=8 from rfl,e]
def yZ(h:t.mask=7)(x:Int)(n:Nat):t.advance (Fg x n)=Fg x (n+1):=by
 unfold SetTable.advance;rw[if_neg (by show ¬0>0;omega)];unfold SetTable.leap;rw[h];dsimp only;have hl:=Oj x (n+1);have e1:((Fg x n).i*5+1+(Fg x n).perturb / 32) % (7+1)=(sq x (n+1)).1:=rfl;have e2:(Fg x n).perturb / 32=(sq x (n+1)).2:=rfl;rw[e1,e2];have e:SetTable.runEnd 7 (sq x (n+1)).1-(sq x (n+1)).1=0:=by unfold SetTable.runEnd;rw[if_neg (by omega)];omega
 rw[e];rfl
def nX(hs:t.place.toList.Pairwise (· < ·))(hd:t.dummies=#[])(j:Nat):(t.slot j=.empty/\∀i:Nat,t.place[i]?≠some j)\/∃i,t.slot j=.live i/\t.place[i]?=some j:=by
 cases e:t.slot j with
 | empty=>exact .inl ⟨rfl,λi hi=>SG.nu hs e i j hi rfl⟩
 | dummy =>
  exfalso;unfold SetTable.slot at e;dsimp only at e;rw[SG.nR hd] at e;split at e<;>cases e
 | live i =>
  refine .inr ⟨i,rfl,?_⟩;unfold SetTable.slot at e;dsimp only at e;split at e
  .rename_i h;cases e;simpa using h
  .split at e<;>cases e
def vn(hs:t.place.toList.Pairwise (· < ·))(hd:t.dummies=#[]){i j:Nat}(h:t.place[i]?=some j):t.slot j=.live i:=by
 rcases nX hs hd j with⟨_,e⟩|⟨k,e1,e2⟩
 .exact absurd h (e i)
 .have:k=i:=by
   rw[<- fR] at h e2;obtain⟨a1,b1⟩:=fq h;obtain⟨a2,b2⟩:=fq e2;rcases lW k i with hl|he|hg
   .have:=k9.mp hs k i a2 a1 hl;omega
   .exact he
   .have:=k9.mp hs i k a1 a2 hg;omega
  rw[e1,this]
def IB(hm:t.mask=7)(hd:t.dummies=#[])(hs:t.place.toList.Pairwise (· < ·))(f:Nat->Int)(x:Int):∀(fuel n m:Nat),n<=m->m<n+fuel->t.slot (sq x m).1=.empty->(∀k,n<=k->k<m->t.slot (sq x k).1≠.empty) ->
  (∃k i,n<=k/\k<m/\t.slot (sq x k).1=.live i/\f i=x/\(∀k' i',n<=k'->k'<k->t.slot (sq x k').1=.live i'->f i'≠x)/\SetTable.probe.go t f x fuel (Fg x n)=some (.candidate (sq x k).1 i (Fg x (k+1)))) \/
  ((∀k i,n<=k->k<m->t.slot (sq x k).1=.live i->f i≠x)/\SetTable.probe.go t f x fuel (Fg x n)=some (.empty (sq x m).1 none)):=by
 intro fuel;induction fuel with
 | zero=>intro n m h1 h2;omega
 | succ fuel ih =>
  intro n m h1 h2 he hne;unfold SetTable.probe.go;rcases nX hs hd (sq x n).1 with⟨e,_⟩|⟨i,e,_⟩
  .have:n=m:=by
    rcases aY n m with hl|hg
    .exact absurd e (hne n (az _) hl)
    .omega
   subst this;rw[show t.slot (Fg x n).j=.empty from e];exact .inr ⟨λk i a b=>by omega,rfl⟩
  .have hnm:n<m:=by
    rcases aY n m with hl|hg
    .exact hl
    .have:n=m:=by omega
     subst this;rw[e] at he;cases he
   rw[show t.slot (Fg x n).j=.live i from e];dsimp only;by_cases hx:f i=x
   .rw[if_pos (by simpa using hx),yZ hm];exact .inl ⟨n,i,az _,hnm,e,hx,(λk' i' a b=>by omega),rfl⟩
   .rw[if_neg (by simpa using hx),yZ hm];rcases ih (n+1) m (by omega) (by omega) he (λk a b=>hne k (by omega) b) with⟨k,i',a,b,c,d,d2,g⟩|⟨a,g⟩
    .refine .inl ⟨k,i',by omega,b,c,d,λk' i2 h3 h4 h5=>?_,g⟩;rcases Nat.eq_or_lt_of_le h3 with e2|h3
     .sleep 237
     .exact d2 k' i2 h3 h4 h5
    .refine .inr ⟨λk i' h3 h4 h5=>?_,g⟩;rcases Nat.eq_or_lt_of_le h3 with e2|h3
     .sleep 237
     .exact a k i' h3 h4 h5
def y9(hd:t.dummies=#[])(hs:t.place.toList.Pairwise (· < ·))(hf:t.place.size<8)(x:Int):∃m,m<=20/\t.slot (sq x m).1=.empty/\∀k,k<m->t.slot (sq x k).1≠.empty:=by
 have hex:∃m,m<=20/\t.slot (sq x m).1=.empty:=by
  obtain⟨j,hj,hfree⟩:∃j,j<8/\∀i:Nat,t.place[i]?≠some j:=by
   by_cases h:∃j,j<8/\j∉t.place.toList
   .obtain⟨j,hj,hn⟩:=h;exact⟨j,hj,λi hi=>hn (by rw[<- fR] at hi;exact fz hi)⟩
   .exfalso;have sub:∀j∈List.range 8,j∈t.place.toList:=λj hj=>rH λhn=>h ⟨j,fW.mp hj,hn⟩;have:=List.Nodup.length_le_of_subset List.nodup_range sub;rw[gT,cY] at this;omega
  obtain⟨n,hn,e⟩:=Rz x j hj;refine⟨n,hn,?_⟩;rcases nX hs hd (sq x n).1 with⟨h,_⟩|⟨i,_,h⟩
  .exact h
  .rw[e] at h;exact absurd h (hfree i)
 obtain⟨m,hm⟩:=hex;have:∀n,n<=20->t.slot (sq x n).1=.empty->∃m,m<=20/\t.slot (sq x m).1=.empty/\∀k,k<m->t.slot (sq x k).1≠.empty:=by
  intro n;induction n using Nat.strongRecOn with
  | ind n ih =>
   intro h1 h2;by_cases h:∃k,k<n/\t.slot (sq x k).1=.empty
   .obtain⟨k,hk,e⟩:=h;exact ih k hk (by omega) e
   .exact⟨n,h1,h2,λk hk e=>h ⟨k,hk,e⟩⟩
 exact this m hm.1 hm.2
section
variable {prog:Program}{w:World}{A:Around}{E:Value->Shared->Prop}{s:Shared}
def BL{k:fu}(hk:gz s.heap k v)(h:Q false s):wpAny (model prog w) A (ofAClassStatement (n+1) v) Q E s:=by
 cases k with
 | none =>
  obtain⟨t,rfl⟩:=hk;exact wpAny_of_eq (a:=false) rfl h
 | some p =>
  sleep 92;sleep 158;sleep 54;refine aq (wpAny_seqItems h1 h3 ?_);dsimp only;refine aq ?_;rw[<- kY];refine wpAny_forIn_list _ (λrest r s'=>r.1=none/\s'=s/\∀v∈rest,∃i t,v=Value.int i t) _ ?_ ?_ _ _ ⟨rfl,rfl,λv hv=>by simp at hv;rcases hv with e|e<;>exact⟨_,_,e⟩⟩
  .sleep 234;refine aq (wpAny_of_eq (a:=false) (by first|rfl|(unfold ofAClassStatement;rfl)) ?_);sleep 90;sleep 104
  .sleep 47;exact aL h
def sM(hk:cg s.heap k a)(h:Q false s):wpAny (model prog w) A (ofAClassStatement 8 (.ref a)) Q E s:=by
 sleep 56;sleep 158;sleep 54;refine aq (wpAny_seqItems ho hd ?_);dsimp only;refine aq ?_;rw[<- kY];refine wpAny_forIn_list _ (λrest r s'=>r.1=none/\s'=s/\∀u∈rest,(∃i t,u=Value.int i t)\/gz s.heap k.2 u) _ ?_ ?_ _ _ ⟨rfl,rfl,λu hu=>by simp at hu;rcases hu with e|e;exact .inl ⟨_,_,e⟩;exact .inr (e▸hv)⟩
 .rintro u rest r s' ⟨hr,rfl,hall⟩;refine aq ?_;have go:wpAny (model prog w) A (ofAClassStatement 7 u) (λb s2=>b=false/\s2=s') E s':=by
   rcases hall u i8 with⟨i,t,rfl⟩|hu
   .exact wpAny_of_eq (a:=false) (by first|rfl|(unfold ofAClassStatement;rfl)) ⟨rfl,rfl⟩
   .exact BL (n:=6) hu ⟨rfl,rfl⟩
  sleep 203;rintro⟨rfl,rfl⟩;sleep 90;sleep 104
 .sleep 47;exact aL h
def RA{ys:List Value}(hk:cg s.heap k x)(hy:∀y∈ys,∃k' a,y=.ref a/\cg s.heap k' a)(h:Q false s):wpAny (model prog w) A (searchCouldBeSeen (.ref x) ys) Q E s:=by
 unfold searchCouldBeSeen;refine aq ?_;refine wpAny_forIn_list _ (λrest r s'=>r.1=none/\s'=s/\∀y∈rest,∃k' a,y=Value.ref a/\cg s.heap k' a) _ ?_ ?_ _ _ ⟨rfl,rfl,hy⟩
 .rintro y rest r s' ⟨hr,rfl,hall⟩;obtain⟨k',a,rfl,ha⟩:=hall y i8;have rest':∀y∈rest,∃k' a,y=Value.ref a/\cg s'.heap k' a:=λu Dm=>hall u (c9 _ Dm);dsimp only;split
  .exact aL ⟨rfl,rfl,rest'⟩
  .refine aq (pT hk ?_);sleep 54;refine aq (pT ha ?_);sleep 54;refine aq (sM hk ?_);sleep 90;refine aq (sM ha ?_);sleep 90;exact aL ⟨rfl,rfl,rest'⟩
 .sleep 47;exact aL h
def RB(prog:Program)(w:World)(h:Heap)(es:Array (Int×Value)):Prop:=∀(i:Nat) e,es[i]?=some e->∃k a,e=(aU prog w k,.ref a)/\cg h k a
def pU{es:Array (Int×Value)}(hE:RB prog w s.heap es){i a:Nat}{z:Int}(h:es[i]?=some (z,.ref a))(hk:cg s.heap k a):(es[i]?.map (·.1)).getD 0=aU prog w k:=by obtain⟨k2,a2,e2,h2⟩:=hE i _ h;have e3:z=aU prog w k2:=congrArg Prod.fst e2;have e4:a=a2:=Value.ref.inj (congrArg Prod.snd e2);subst e4;have e5:k2=k:=h2.inj hk;rw[h,<- e5,<- e3];rfl
def search{o:Obj}{es:Array (Int×Value)}{ep:Nat}{m:Nat}(hu:A.units+2<cLine)(ho:s.heap.get? d=some o)(hd:o.data=.set es ep t)(T:SG.Tab led es t)(hm:t.mask=7)(hE:RB prog w s.heap es)(hk:cg s.heap k x)
  (m20:m<=20)(he:t.slot (sq (aU prog w k) m).1=.empty)(hne:∀j,j<m->t.slot (sq (aU prog w k) j).1≠.empty):∀(fuel n:Nat)(Dp:Option SetTable.Probe)(Q:SetFound->Shared->Prop),n<=m->m<n+fuel->Dp.getD (t.probeStart (aU prog w k))=Fg (aU prog w k) n ->
  (∀(j i a:Nat)(z:Int),n<=j->j<m->t.slot (sq (aU prog w k) j).1=.live i->es[i]?=some (z,.ref a)->cg s.heap k a->Q (.there none) s) ->
  ((∀(j i a:Nat)(z:Int),n<=j->j<m->t.slot (sq (aU prog w k) j).1=.live i->es[i]?=some (z,.ref a)->¬cg s.heap k a)->Q (.free (sq (aU prog w k) m).1 false) s) ->
  wpAny (model prog w) A (setSearchFrom d (.ref x) (aU prog w k) true fuel Dp) Q E s:=by
 intro fuel;induction fuel with
 | zero=>intro n Dp Q h1 h2;omega
 | succ fuel ih =>
  intro n Dp Q h1 h2 hst hit free;unfold setSearchFrom;sleep 52;have hgw:t.gaveWay=false:=by unfold SetTable.gaveWay;rw[hm];rfl
  rw[hgw,hst];sleep 90;have aab:10*SetTable.turns t.mask=220:=by rw[hm];rfl
  unfold SetTable.probe;rw[aab];rcases IB hm T.E3 T.up _ (aU prog w k) 220 n m h1 (by omega) he (λj _ hj=>hne j hj) with⟨j,i,a1,a2,a3,a4,a4b,a5⟩|⟨a1,a5⟩
  .rw[a5];dsimp only;have hi:∃e,es[i]?=some e:=by
    rcases nX T.up T.E3 (sq (aU prog w k) j).1 with⟨e,_⟩|⟨i',e,hp⟩
    .rw[a3] at e;cases e
    .rw[a3] at e;cases e;have:=(mH.mp hp).1;rw[T.sz] at this;exact⟨_,gu this⟩
   obtain⟨e,hei⟩:=hi;obtain⟨k',a',rfl,ha'⟩:=hE i e hei;have hyy:∀y∈(es.filter (·.1==aU prog w k)).toList.map (·.2),∃k' a,y=Value.ref a/\cg s.heap k' a:=λy hy=>by obtain⟨e,he',rfl⟩:=aF.mp hy;rw[Array.mem_toList_iff,Array.mem_filter] at he';obtain⟨i2,hi2⟩:=Array.mem_iff_getElem?.mp he'.1;obtain⟨k2,a2,rfl,h2⟩:=hE i2 e hi2;exact⟨k2,a2,rfl,h2⟩
   cases hl:t.led
   .sleep 164;refine aq (RA hk hyy ?_);sleep 90;sleep 2
   .sleep 54;sleep 2
  .rw[a5];dsimp only;refine aL (free λj i a z h3 h4 h5 h6 h7=>a1 j i h3 h4 h5 ?_);exact pU hE h6 h7
end
def Reach(pl:List Nat)(x:Int)(j:Nat):Prop:=∃m,(sq x m).1=j/\∀m',m'<m->(sq x m').1∈pl
def wV(prog:Program)(w:World)(led:Bool)(h:Heap)(d:Addr)(ks:List (bP×Addr)):Prop :=
 ∃o es ep t,h.get? d=some o/\o.ExactSet/\o.data=.set es ep t/\SG.Tab led es t/\t.mask=7/\es.toList.Perm (ks.map λz=>(aU prog w z.1,Value.ref z.2))/\(ks.map (·.1)).Nodup/\ks.length<=4 /\
  ∀z∈es.toList.zip t.place.toList,Reach t.place.toList z.1.1 z.2
section
variable {prog:Program}{w:World}{A:Around}{E:Value->Shared->Prop}{s:Shared}
def wV.at'{ks:List (bP×Addr)}(S:wV prog w led h d ks)(e:∀o,h.get? d=some o->h'.get? d=some o):wV prog w led h' d ks:=by obtain⟨o,es,ep,t,ho,r⟩:=S;exact⟨o,es,ep,t,e o ho,r⟩
def Fj{k:fu}(hk:gz s.heap k v)(h:∀b,Q b s):wpAny (model prog w) A (hashByValue (n+1) v) Q E s:=by
 cases k with
 | none =>
  obtain⟨t,rfl⟩:=hk;exact wpAny_of_eq (a:=false) (by first|rfl|(unfold hashByValue;rfl)) (h false)
 | some p =>
  sleep 92;unfold hashByValue;sleep 111;dsimp only;sleep 127;refine wpAny_forIn_list _ (λrest r s'=>r.1=none/\s'=s/\∀v∈rest,∃i t,v=Value.int i t) _ ?_ ?_ _ _ ⟨rfl,rfl,λv hv=>by simp at hv;rcases hv with e|e<;>exact⟨_,_,e⟩⟩
  .sleep 234;refine aq (wpAny_of_eq (a:=true) (by first|rfl|(unfold hashByValue;rfl)) ?_);sleep 54;sleep 104
  .sleep 47;exact aL (h true)
def Fl(hk:cg s.heap k a)(h:∀b,Q b s):wpAny (model prog w) A (hashByValue 8 (.ref a)) Q E s:=by
 sleep 56;unfold hashByValue;sleep 111;dsimp only;sleep 151;refine wpAny_forIn_list _ (λrest r s'=>s'=s/\r.1=none/\∀u∈rest,(∃i t,u=Value.int i t)\/gz s.heap k.2 u) _ ?_ ?_ _ _ ⟨rfl,rfl,λu hu=>by simp at hu;rcases hu with e|e;exact .inl ⟨_,_,e⟩;exact .inr (e▸hv)⟩
 .rintro u rest r s' ⟨rfl,hr,hall⟩;refine aq ?_;have rest':∀y∈rest,(∃i t,y=Value.int i t)\/gz s'.heap k.2 y:=λu Dm=>hall u (c9 _ Dm);have go:wpAny (model prog w) A (hashByValue 7 u) (λ_ s2=>s2=s') E s':=by
   rcases hall u i8 with⟨i,t,rfl⟩|hu
   .exact wpAny_of_eq (a:=true) (by first|rfl|(unfold hashByValue;rfl)) rfl
   .exact Fj (n:=6) hu λ_=>rfl
  sleep 203;rintro rfl;cases b
  .sleep 164;exact aL (aL (h false))
  .sleep 54;exact aL ⟨rfl,rfl,rest'⟩
 .rintro⟨r1,r2⟩ s' ⟨rfl,hr,_⟩;simp only at hr;subst hr;exact aL (h true)
def BN{α β:Type}(xs:Array α)(ys:Array β)(hl:xs.size=ys.size)(p:Nat)(x:α)(y:β):(SetTable.insertAt xs p x).toList.zip (SetTable.insertAt ys p y).toList=(xs.toList.take p).zip (ys.toList.take p)++(x,y)::(xs.toList.drop p).zip (ys.toList.drop p):=by rw[SetTable.toList_insertAt,SetTable.toList_insertAt,List.zip_append (by rw[cG,cG,cY,cY,hl])];rfl
def BO{pl pl':List Nat}(h:∀j∈pl,j∈pl'){x:Int}{j:Nat}(r:Reach pl x j):Reach pl' x j:=let⟨m,e,q⟩:=r;⟨m,e,λm' hm=>h _ (q m' hm)⟩
def Mf{ks:List (bP×Addr)}(hu:A.units+2<cLine)(S:wV prog w led s.heap d ks)(hks:∀z∈ks,cg s.heap z.1 z.2)(hk:cg s.heap k x)(hl:ks.length<=3)
  (h:∀b h' tk,s.toks<=tk->Heap.SameBut d s.heap h'->wV prog w led h' d (if k∈ks.map (·.1) then ks else ks++[(k,x)])->Q b { s with heap:=h',toks:=tk }):wpAny (model prog w) A (setAdd d (.ref x)) Q E s:=by
 obtain⟨o,es,ep,t,ho,hx,hd,T,hm,perm,nd,h4,hch⟩:=S;have hsz:es.size=ks.length:=by rw[<- cY,perm.length_eq,av]
 have hE:RB prog w s.heap es:=λi e he=>by
  have me:e∈es.toList:=by rw[<- fR] at he;exact fz he
  obtain⟨z,hz,rfl⟩:=aF.mp (perm.mem_iff.mp me);exact⟨z.1,z.2,rfl,hks z hz⟩
 unfold setAdd;refine wpAny_holding (aq (yX (by omega) hk ?_));generalize hs1:({ s with toks:=s.toks+(1+nW k.2+1) }:Shared)=s1;have eh:s1.heap=s.heap:=by rw[<- hs1]
 have et:s.toks<=s1.toks:=by rw[<- hs1];exact m8 _ _
 have es1:∀h', ({ s1 with heap:=h' }:Shared)={ s with heap:=h',toks:=s1.toks }:=λh'=>by rw[<- hs1]
 rw[<- eh] at ho hE hk;sleep 163;have hns:byScan (.ref x) es=false:=rfl;rw[hns];sleep 90;unfold setSearch;obtain⟨m,m20,he,hne⟩:=y9 T.E3 T.up (by rw[T.sz];omega) (aU prog w k);have inp:∀j,t.slot j≠.empty->j∈t.place.toList:=λj hj=>by
  rcases nX T.up T.E3 j with⟨e,_⟩|⟨i,_,e⟩
  .exact absurd e hj
  .rw[<- fR] at e;exact fz e
 refine aq (search hu ho hd T hm hE hk m20 he hne 100000 0 none _ (aH _) (by omega) (Fi hm _) (λj i a z _ hj hsl hei ha=>?_) (λhn=>?_))
 .dsimp only;have hin:k∈ks.map (·.1):=by
   obtain⟨k2,a2,e2,h2⟩:=hE i _ hei;have e4:a=a2:=Value.ref.inj (congrArg Prod.snd e2);have me:((z,.ref a):Int×Value)∈es.toList:=by rw[<- fR] at hei;exact fz hei
   obtain⟨y,hy,ey⟩:=aF.mp (perm.mem_iff.mp me);have e5:y.2=a:=Value.ref.inj (congrArg Prod.snd ey);have hy2:=hks y hy;rw[e5,<- eh] at hy2;rw[<- hy2.inj ha];exact aF.mpr ⟨y,hy,rfl⟩
  refine aL ?_;have:=h false s.heap s1.toks et (rJ d s.heap) (by rw[if_pos hin];exact⟨o,es,ep,t,by rw[<- eh];exact ho,hx,hd,T,hm,perm,nd,h4,hch⟩);rw[<- es1,<- eh] at this;exact this
 .dsimp only;have Ii:k∉ks.map (·.1):=λhin=>by
   obtain⟨y,hy,rfl⟩:=aF.mp hin;have me:((aU prog w y.1,.ref y.2):Int×Value)∈es.toList:=perm.mem_iff.mpr (aF.mpr ⟨y,hy,rfl⟩);obtain⟨i,hi⟩:=fV.mp me;have hil:i<t.place.size:=by rw[T.sz,<- cY];exact(fq hi).1
   have hp:t.place.toList[i]?=some t.place[i]:=by rw[fR];exact gu hil
   have hz:(((aU prog w y.1,.ref y.2):Int×Value),t.place[i])∈es.toList.zip t.place.toList:=by refine fV.mpr ⟨i,?_⟩;rw[pG];exact⟨hi,hp⟩
   obtain⟨m',e1,e2⟩:=hch _ hz;dsimp only at e1 e2;have za:t.slot t.place[i]=.live i:=vn T.up T.E3 (by rw[gu hil]);have Z8:m'<m:=by
    rcases aY m' m with hl|hg
    .exact hl
    .exfalso;rcases Nat.eq_or_lt_of_le hg with e|hlt
     .rw[e,e1,za] at he;cases he
     .have:=e2 m hlt;obtain⟨i2,hi2⟩:=fV.mp this;rw[fR] at hi2;rw[vn T.up T.E3 hi2] at he;cases he
   rw[fR] at hi;exact hn m' i y.2 _ (aH _) Z8 (by rw[e1];exact za) hi (by rw[eh];exact hks y hy)
  sleep 52;have Rl:t.put (sq (aU prog w k) m).1=({ t with place:=SetTable.insertAt t.place (SetTable.below t.place (sq (aU prog w k) m).1) (sq (aU prog w k) m).1 },SetTable.below t.place (sq (aU prog w k) m).1):=by unfold SetTable.put;rw[SG.nR T.E3];rfl
  rw[Rl];dsimp only;have Ol:=SN.mL T.up (SG.nu T.up he);have IC:(SetTable.insertAt es (SetTable.below t.place (sq (aU prog w k) m).1) (aU prog w k,.ref x)).toList.Perm (es.toList++[(aU prog w k,.ref x)]):=by
   have:=SetTable.insertAt_perm es (SetTable.below t.place (sq (aU prog w k) m).1) (aU prog w k,Value.ref x)
   rwa [Array.toList_push] at this
  have BP:(SetTable.insertAt t.place (SetTable.below t.place (sq (aU prog w k) m).1) (sq (aU prog w k) m).1).toList.Perm (t.place.toList++[(sq (aU prog w k) m).1]):=by
   have:=SetTable.insertAt_perm t.place (SetTable.below t.place (sq (aU prog w k) m).1) (sq (aU prog w k) m).1
   rwa [Array.toList_push] at this
  have hz:=BN es t.place T.sz.symm (SetTable.below t.place (sq (aU prog w k) m).1) (aU prog w k,Value.ref x) (sq (aU prog w k) m).1;generalize SetTable.insertAt es (SetTable.below t.place (sq (aU prog w k) m).1) (aU prog w k,Value.ref x)=nT at IC hz ⊢;generalize SetTable.insertAt t.place (SetTable.below t.place (sq (aU prog w k) m).1) (sq (aU prog w k) m).1=ID at BP hz Ol ⊢;have hsz2:nT.size=es.size+1:=by rw[<- cY,IC.length_eq,aR,cY];rfl
  have VQ:ID.size=es.size+1:=by rw[<- cY,BP.length_eq,aR,cY,T.sz];rfl
  have T2:∀b:Bool,SG.Tab led nT { t with place:=ID,plain:=b }:=λb=>by refine⟨T.led,T.E3,Ol,?_⟩;unfold SetTable.fits SetTable.fill;rw[VQ,hsz2,T.E3,hm];simp;omega
  have fin:∀b:Bool,wpAny (model prog w) A (do storeSet d nT { t with place:=ID,plain:=b };if(!false&&({ t with place:=ID,plain:=b }:SetTable).tooFull)=true then do setRelay d (SetTable.grown (es.size+1));pure true else pure true) Q E s1:=λb=>by
   refine aq (wpAny_storeSet_of ho hd ?_ (by rw[hsz2,sizeLine_eq];omega));have LZ:=fB (Obj.putSet nT { t with place:=ID,plain:=b }) ho (by rw[putSet_of nT _ hd];rfl);rw[putSet_of nT _ hd] at LZ;have Og:=jC s1.heap d (Obj.putSet nT { t with place:=ID,plain:=b });have full:({ t with place:=ID,plain:=b }:SetTable).tooFull=false:=by unfold SetTable.tooFull SetTable.fill;dsimp only;rw[T.E3,hm,VQ];simp;omega
   rw[full];simp only[Bool.and_false,bW,if_false];refine aL ?_;rw[es1];refine h true _ s1.toks et (by rw[<- eh];exact Og) ?_;rw[if_neg Ii];refine⟨_,nT,_,_,LZ,hx,rfl,T2 b,hm,?_,?_,by rw[aR];simp;omega,?_⟩
   .rw[bF];exact IC.trans (perm.append_right _)
   .rw[bF,gp];refine⟨nd,by simp,λa ha c hc e=>Ii ?_⟩;have hc':c=k:=by simpa using hc
    rw[<- hc',<- e];exact ha
   .intro y hy;show Reach ID.toList y.1.1 y.2;have up:∀j∈t.place.toList,j∈ID.toList:=λj hj=>BP.mem_iff.mpr (mX _ hj)
    replace hy:y∈nT.toList.zip ID.toList:=hy
    rw[hz] at hy;have old:∀y,y∈es.toList.zip t.place.toList->Reach ID.toList y.1.1 y.2:=λy hy=>BO up (hch y hy);rcases aO.mp hy with hy|hy
    .refine old y ?_;obtain⟨i,hi⟩:=fV.mp hy;rw[pG,List.getElem?_take,List.getElem?_take] at hi;refine fV.mpr ⟨i,pG.mpr ?_⟩;split at hi
     .exact hi
     .exact nomatch hi.1
    .rcases aI.mp hy with rfl|hy
     .exact⟨m,rfl,λm' hm'=>up _ (inp _ (hne m' hm'))⟩
     .refine old y ?_;obtain⟨i,hi⟩:=fV.mp hy;rw[pG,List.getElem?_drop,List.getElem?_drop] at hi;exact fV.mpr ⟨_,pG.mpr hi⟩
  split
  .refine aq (Fl hk λb=>?_);cases b
   .exact fin false
   .exact fin t.plain
  .refine aq (aL ?_);exact fin t.plain
def pV(val:Nat->bP×Addr):Nat->List (bP×Addr)
 | 0=>[]
 | i+1=>if(val i).1∈(pV val i).map (·.1) then pV val i else pV val i++[val i]
theorem zc(val:Nat->bP×Addr):∀i,(pV val i).length<=i
 | 0=>az _
 | i+1=>by
  have:=zc val i;unfold pV;split
  .omega
  .rw[aR,jI];omega
theorem nY(val:Nat->bP×Addr):∀(i:Nat)(z:bP×Addr),z∈pV val i->∃j,j<i/\z=val j
 | 0,z,h=>by simp[pV] at h
 | i+1,z,h=>by
  unfold pV at h;split at h
  .obtain⟨j,hj,e⟩:=nY val i z h;exact⟨j,by omega,e⟩
  .rcases aO.mp h with h|h
   .obtain⟨j,hj,e⟩:=nY val i z h;exact⟨j,by omega,e⟩
   .exact⟨i,by omega,aA.mp h⟩
theorem zd(val:Nat->bP×Addr):∀(i:Nat)(k:bP),k∈(pV val i).map (·.1)↔∃j,j<i/\k=(val j).1
 | 0,k=>by simp[pV]
 | i+1,k=>by
  have ih:=zd val i;unfold pV;split
  .rename_i hin;rw[ih k];sleep 60
  .rw[bF,aO,ih k];constructor
   .rintro(⟨j,hj,e⟩|e)
    .exact⟨j,by omega,e⟩
    .exact⟨i,by omega,by simpa using e⟩
   .rintro⟨j,hj,e⟩;rcases aY j i with hlt|hge
    .exact .inl ⟨j,hlt,e⟩
    .have:j=i:=by omega
     subst this;exact .inr (by simp[e])
def IE{l:Addr}{items:Array Value}{val:Nat->bP×Addr}{Q:Value->Shared->Prop}(hu:A.units+10<cLine)(hh:A.handled=none)(hl:s.heap.IsList l items)(hv:∀(i:Nat)(v:Value),items[i]?=some v->v=.ref (val i).2/\cg s.heap (val i).1 (val i).2)(hn:items.size<=4)
  (h:∀(h':Heap)(tk:Nat),wV prog w (!SG.cC w) h' s.heap.objs.size (pV val items.size)->(∀b o,b<s.heap.objs.size->s.heap.get? b=some o->h'.get? b=some o)->Q (.ref s.heap.objs.size) { s with heap:=h',toks:=tk }):
  wpAny (model prog w) A (call (.type "set") [.ref l]) Q E s:=by
 refine SG.set_list hh hl (λi h=>wV prog w (!SG.cC w) h s.heap.objs.size (pV val i)/\∀b o,b<s.heap.objs.size->s.heap.get? b=some o->h.get? b=some o) (λh' k e=>⟨⟨_,#[],0,_,e,⟨rfl,rfl,rfl⟩,rfl,SG.vg,rfl,mU _,kg,aH _,λz hz=>nomatch hz⟩,λb o _ e=>k b o e⟩)
  (λi h h' ⟨q,k⟩ hk=>⟨q.at' λo e=>hk _ o (az _) e,λb o hb e=>hk b o (jJ hb) (k b o hb e)⟩) (λA' E' i v s' Q hh' Dm hi ⟨hS,hkp⟩ hQ=>?_) λh' tk ⟨q,k⟩ kk=>h h' tk q kk
 obtain⟨rfl,hhi⟩:=hv i v hi;have hlt:=(mH.mp hi).1;have stay:∀j v,items[j]?=some v->cg s'.heap (val j).1 (val j).2:=λj v hj=>(hv j v hj).2.stay λb o _ _ _ _ e=>hkp b o (aK e) e;have hle:=zc val i;refine Mf (by omega) hS (λz hz=>?_) (stay i _ hi) (by omega) λb h' tk htk sb Z7=>hQ b h' tk htk sb ⟨Z7,λb' o hb e=>?_⟩
 .obtain⟨j,hj,rfl⟩:=nY val i z hz;exact stay j _ (gu (by omega))
 .rw[sb.2 b' (aQ hb)];exact hkp b' o hb e
end
open PySem.W
section
variable {prog:Program}{w:World}{A:Around}{E:Value->Shared->Prop}{s:Shared}
set_option maxHeartbeats 1000000 in
def IF{vs:List Value}{r:Nat->Int}{P:PySem.Fin->Shared->Prop}(ho:s.heap.get? a=some (seqObj "list" vs.toArray n))(h64:vs.length<64)
  (hT:∀G:Heap,(∀b o vs' n',o.cls=.type "tuple" -> o.data=.seq vs' n'->s.heap.get? b=some o->G.get? b=some o)->∃fs:List Value,KatTups G vs fs/\fs.length=vs.length/\∀v∈fs,∃i t,v=Value.int i t)
  (hc:∀G:Heap,(∀b o vs' n',o.cls=.type "tuple" -> o.data=.seq vs' n'->s.heap.get? b=some o->G.get? b=some o)->∀i j,i<vs.length->j<vs.length->∀(E':Value->Shared->Prop)(C:Bool->Shared->Prop),C (decide (r i<r j)) { s with heap:=G }->wpAny (model prog w) A (keyLt' (tuples' true) (vs.getD i Value.none) (vs.getD j Value.none)) C E' { s with heap:=G })
  (inj:∀i j,i<vs.length->j<vs.length->r i=r j->i=j)
  (h:∀q:Array Nat,SN.Pl vs.length q->SN.Up r q vs.length->P (.done (.ret .none)) { s with heap:=sortedHeap s.heap a vs (List.toArray (q.toList.map λi=>vs.getD i Value.none)) }):
  wpAny (model prog w) A (Builtin.«list.sort» ⟨[.ref a],[]⟩) P E s:=by
 sleep 4;have KG:∀b o vs' n',o.cls=.type "tuple" -> o.data=.seq vs' n'->s.heap.get? b=some o->(((s.heap.update a (Obj.mapSeq λ_=>#[])).push (seqObj "tuple" vs.toArray 0)).push (seqObj "list" #[] 0)).get? b=some o:=λb o _ _ hc _ e=>kp b o (λz=>by subst z;rw[ho] at e;cases e;exact absurd (show Value.type "list" = .type "tuple" from hc) (by decide)) e;sleep 39;have fin:∀q:Array Nat,SN.Pl vs.length q->SN.Up r q vs.length->P (.done (.ret .none)) { s with heap:=G.update a (Obj.mapSeq λ_=>List.toArray (q.toList.map λi=>vs.getD i Value.none)) }:=λq hq u=>by rw[uh];exact h q hq u
 by_cases h2:vs.toArray.size<2
 .sleep 251;refine aq (aL (aq (seqEpoch_at ho6 rfl (aq (listUpdate_at ho6 rfl ?_ (aH _) ?_)))))
  .sleep 124;have:=fin (List.toArray (List.range vs.length)) (SN.Pl.start _) (λi j hij hj=>by rw[aV] at h2;omega);have e:(arrOf (SortSt.mk' general' (vs.toArray.zip vs.toArray) #[] 7 none)).map (·.2)=List.toArray ((List.toArray (List.range vs.length)).toList.map λi=>vs.getD i Value.none):=by exact SN.Di (by rw[aV] at h2;exact h2)
   rw[e];exact aL this
  .sleep 150
 .sleep 221;obtain⟨fs,k1,k2,k3⟩:=hT G KG;sleep 71;refine aq (wpAny_mono (kat_run (prog:=prog) (w:=w) (A:=A) (κ:=tuples' true) (vs:=vs) (ks:=vs) (Q:=λst' s'=>s'={ s with heap:=G }/\failedOf st'=none/\∃q,SN.Pl vs.length q/\SN.Up r q vs.length/\(arrOf st').map (·.2)=List.toArray (q.toList.map λi=>vs.getD i Value.none))
   (G:=λq s'=>s'={ s with heap:=G }/\SN.Pl vs.length q/\SN.Up r q vs.length) rfl h2' (by omega) (λq st' s' _ har hf hg=>⟨hg.1,hf,q,hg.2.1,hg.2.2,kat_snds rfl har⟩) ?_) ?_ λ_ _ e=>e)
  .refine SN.Df (r:=r) (λi j hi hj C hC=>?_) inj (by omega) λq hq u=>⟨rfl,hq,u⟩;exact hc G KG i j hi hj _ C hC
  .sleep 44
end
def pW(k:bP):Int:=k.1*10000+match k.2 with|none=>0|some p=>SN.rk p
def RC(k:bP):Prop:=∀p,k.2=some p->0<=p.1/\p.1<2/\0<=p.2/\p.2<1000
def Alike(x y:bP):Prop:=x.2.isSome=y.2.isSome
def Mg{x:bP}(hx:RC x)(hy:RC y)(ha:Alike x y)(e:pW x=pW y):x=y:=by
 sleep 242;unfold pW at e;cases a with
 | none =>
  cases b with
  | none =>
   dsimp only at e;have:p=q:=by omega
   rw[this]
  | some y=>cases ha
 | some x =>
  cases b with
  | none=>cases ha
  | some y =>
   have h1:=hx x rfl;have h2:=hy y rfl;obtain⟨x1,x2⟩:=x;obtain⟨y1,y2⟩:=y;change p*10000+(x1*1000+x2)=q*10000+(y1*1000+y2) at e;dsimp only at h1 h2;have e1:p=q:=by omega
   have e2:x1=y1:=by omega
   have e3:x2=y2:=by omega
   rw[e1,e2,e3]
def IG{α β:Type}{f:α->β}{l m:List β}(h:l.Perm m):∀{zs:List α},m=zs.map f->∃ys:List α,ys.Perm zs/\l=ys.map f:=by
 induction h with
 | nil=>intro zs e;exact⟨[],by rw[List.map_eq_nil_iff.mp e.symm],rfl⟩
 | cons x h ih =>
  intro zs e;cases zs with
  | nil=>cases e
  | cons z zs =>
   have e1:=List.cons.inj e;obtain⟨ys,h1,h2⟩:=ih e1.2;exact⟨z::ys,h1.cons z,by rw[cj,<- h2,<- e1.1]⟩
 | swap x y l =>
  intro zs e;cases zs with
  | nil=>cases e
  | cons z zs =>
   cases zs with
   | nil=>cases(List.cons.inj e).2
   | cons z2 zs =>
    have e1:=List.cons.inj e;have e2:=List.cons.inj e1.2;exact⟨z2::z::zs,.swap _ _ _,by rw[cj,cj,<- e1.1,<- e2.1,<- e2.2]⟩
 | trans _ _ i1 i2 =>
  intro zs e;obtain⟨ys,h1,h2⟩:=i2 e;obtain⟨xs,h3,h4⟩:=i1 h2;exact⟨xs,h3.trans h1,h4⟩
def range_getD{α:Type}(l:List α)(d:α):(List.range l.length).map (λi=>l.getD i d)=l:=by
 apply List.ext_getElem?;intro i;rw[bz];rcases aY i l.length with h|h
 .rw[pC h,fN h];show some (l.getD i d)=_;rw[mG,fN h];rfl
 .rw[jG (by rw[gT];exact h),jG h];rfl
section
variable {prog:Program}{w:World}{A:Around}{E:Value->Shared->Prop}{s:Shared}
def II{y:Addr}{ox oy:Obj}{n k:Nat}{a b c d:Int}{t1 t2 t3 t4:Tok}{Q:Value->Shared->Prop}(hu:A.units<cLine)(hx:s.heap.get? x=some ox)(cx:ox.cls=.type "tuple")(dx:ox.data=.seq #[.int a t1,.int b t2] n)(hy:s.heap.get? y=some oy)(cy:oy.cls=.type "tuple")(dy:oy.data=.seq #[.int c t3,.int d t4] k)
  (h:Q (.bool (if a=c then decide (b<d) else decide (a<c))) s):wpAny (model prog w) A (compareOp .Lt (.ref x) (.ref y)) Q E s:=by
 have tx:s.TypeIs (.ref x) "tuple" := ⟨ox,hx,cx⟩;have ty:s.TypeIs (.ref y) "tuple" := ⟨oy,hy,cy⟩;refine(show wpAny _ _ (richCompare .Lt (.ref x) (.ref y)) _ _ _ from wpAny_richCompare_same_room tx ty F.slot_tuple_lt (wpAny_call_entry F.slot_tuple_lt tx F.entry_tuple_lt ?_ (F.args_tuple_lt_2 _ _)) hu);show wpAny _ _ (isInstance (.ref y) (.type "tuple") >>= _) _ _ s;refine aq (wpAny_isInstance ty isSubtype_tuple_tuple ?_);sleep 54;refine aq (wpAny_tupleItemsOf hx dx ?_);refine aq (wpAny_tupleItemsOf hy dy ?_);refine aq ?_;show wpAny _ _ (forIn [(Value.int a t1,Value.int c t3),(Value.int b t2,Value.int d t4)] _ _) _ _ s;rw[jF];refine aq (aq (wpAny_eqBool_int ?_));by_cases e:a=c
 .rw[show(a==c)=true by simpa using e];sleep 54;rw[if_pos e] at h;refine aL ?_;dsimp only;rw[jF];refine aq (aq (wpAny_eqBool_int ?_));by_cases e2:b=d
  .rw[show(b==d)=true by simpa using e2];sleep 54;refine aL ?_;dsimp only;rw[kZ];refine aL ?_;rw[decide_eq_false (by omega)] at h;exact aL ⟨_,rfl,(λe=>nomatch e),h⟩
  .rw[show(b==d)=false by simpa using e2];sleep 164;refine aq (wpAny_rule ?_);refine aq (show wpAny _ _ (compareOp .Lt (.int b t2) (.int d t4)) _ _ _ from PyProof.Rows.lt_int ?_);exact aq (aL (aL (aL (aL ⟨_,rfl,(λe=>nomatch e),h⟩))))
 .rw[show(a==c)=false by simpa using e];sleep 164;rw[if_neg e] at h;refine aq (wpAny_rule ?_);refine aq (show wpAny _ _ (compareOp .Lt (.int a t1) (.int c t3)) _ _ _ from PyProof.Rows.lt_int ?_);exact aq (aL (aL (aL (aL ⟨_,rfl,(λe=>nomatch e),h⟩))))
def RE{y:Addr}{k1 k2:bP}(hu:A.units+1<cLine)(hx:cg s.heap k1 x)(hy:cg s.heap k2 y)(o1:RC k1)(o2:RC k2)(al:Alike k1 k2)(h:Q (decide (pW k1<pW k2)) s):wpAny (model prog w) A (keyLt' (tuples' true) (.ref x) (.ref y)) Q E s:=by
 obtain⟨ox,n,t,u,h1,c1,d1,th1⟩:=hx;obtain⟨oy,m,t',u',h2,c2,d2,VR⟩:=hy;obtain⟨p,a⟩:=k1;obtain⟨q,b⟩:=k2;dsimp only at d1 d2 th1 VR;refine kat_lt h1 d1 h2 d2 (kat_cons (wpAny_eqBool_int ?_));by_cases e:p=q
 .subst e;rw[show(p==p)=true by simp];refine kat_yes (kat_cons (Ry hu th1 VR ?_));by_cases e2:a=b
  .subst e2;rw[decide_eq_true rfl];sleep 258
  .rw[decide_eq_false e2];cases a with
   | none =>
    cases b with
    | none=>exact absurd rfl e2
    | some y=>cases al
   | some x1 =>
    cases b with
    | none=>cases al
    | some y1 =>
     obtain⟨a1,oa,na,ta,ua,rfl,ga,ca,da⟩:=th1;obtain⟨b1,ob,nb,tb,ub,rfl,gb,cb,db⟩:=VR;refine kat_no (kat_one _ _ (II (by omega) ga ca da gb cb db ?_));have b1:=o1 x1 rfl;have b2:=o2 y1 rfl;have er:decide (pW (p,some x1)<pW (p,some y1))=if x1.1=y1.1 then decide (x1.2<y1.2) else decide (x1.1<y1.1):=by
      obtain⟨x1,x2⟩:=x1;obtain⟨y1,y2⟩:=y1;dsimp only at b1 b2;change decide (p*10000+(x1*1000+x2)<p*10000+(y1*1000+y2))=if x1=y1 then decide (x2<y2) else decide (x1<y1)
      split<;>simp only[decide_eq_decide]<;>omega
     rw[er] at h;exact h
 .rw[show(p==q)=false by simpa using e];refine kat_no (oneLt_int ?_);have er:decide (pW (p,a)<pW (q,b))=decide (p<q):=by
   have ba:0<=pW (p,a)-p*10000/\pW (p,a)-p*10000<10000:=by
    cases a with
    | none=>change 0<=p*10000+0-p*10000/\p*10000+0-p*10000<10000;omega
    | some x=>have:=o1 x rfl;change 0<=p*10000+(x.1*1000+x.2)-p*10000/\p*10000+(x.1*1000+x.2)-p*10000<10000;omega
   have bb:0<=pW (q,b)-q*10000/\pW (q,b)-q*10000<10000:=by
    cases b with
    | none=>change 0<=q*10000+0-q*10000/\q*10000+0-q*10000<10000;omega
    | some x=>have:=o2 x rfl;change 0<=q*10000+(x.1*1000+x.2)-q*10000/\q*10000+(x.1*1000+x.2)-q*10000<10000;omega
   simp only[decide_eq_decide];omega
  rw[<- er];exact h
abbrev mO(h:Heap):List Value->List bP->Prop:=Paired λv k=>∃a,v=.ref a/\cg h k a
theorem mO.stay{vs:List Value}{ks:List bP}(x:mO h vs ks)(e:∀b o vs n,o.cls=.type "tuple" -> o.data=.seq vs n->h.get? b=some o->h'.get? b=some o):mO h' vs ks:=L2.Paired.Ex x λv k ⟨a,e1,e2⟩=>⟨a,e1,e2.stay e⟩
theorem mO.tups:∀{vs:List Value}{ks:List bP},mO h vs ks->∃fs:List Value,KatTups h vs fs/\fs.length=vs.length/\∀v∈fs,∃i t,v=Value.int i t
 | _,_,.nil=>⟨[],.nil,rfl,λv hv=>nomatch hv⟩
 | _,_,.cons ⟨a,e,o,n,t,v,h1,h2,h3,_⟩ r=>by obtain⟨fs,a1,a2,a3⟩:=mO.tups r;sleep 108
theorem mO.get:∀{vs:List Value}{ks:List bP}(_:mO h vs ks){i:Nat}(_:i<vs.length),∃a,vs.getD i Value.none=.ref a/\cg h (ks.getD i (0,none)) a
 | _,_,.cons ⟨a,e,q⟩ r,0,_=>⟨a,e,q⟩
 | _,_,.cons _ r,i+1,hi=>by obtain⟨a,h1,h2⟩:=mO.get r (i:=i) (by simpa using hi);exact⟨a,by simpa using h1,by simpa using h2⟩
def ze{zs:List (bP×Addr)}{Q:Value->Shared->Prop}(hu:A.units+8<cLine)(hh:A.handled=none)(S:wV prog w (!SG.cC w) s.heap d zs)(hzs:∀z∈zs,cg s.heap z.1 z.2)(hok:∀z∈zs,RC z.1)(hal:∀z∈zs,∀y∈zs,Alike z.1 y.1)
  (h:∀(p:Addr)(h':Heap)(d':Drawn)(tk c:Nat)(vs:List Value)(ks:List bP),s.heap.objs.size<=p->(∀b x,s.heap.get? b=some x->h'.get? b=some x)->h'.get? p=some { cls:=.type "list", data:=.seq vs.toArray c }->Paired (λv k=>∃a,v=Value.ref a/\(k,a)∈zs) vs ks->(∀k,k∈ks↔k∈zs.map (·.1))->ks.Pairwise (λx y=>pW x<pW y)->vs.length=zs.length->Q (.ref p) { s with heap:=h',drawn:=d',toks:=tk }):
  wpAny (model prog w) A (call (.builtin "sorted") [.ref d]) Q E s:=by
 obtain⟨o,es,ep,t,ho,hx,hd,T,hm,perm,nd,h4,hch⟩:=S;have hsz:es.size=zs.length:=by rw[<- cY,perm.length_eq,av]
 sleep 87;refine aq (m:=checkCount "sorted" 1 1 _) (aL (aq (SG.qm (by simp[hh]) ho hx hd T (by omega) ?_)));sleep 177;have pv:acc.Perm (zs.map λz=>Value.ref z.2):=by have:=hp.trans (perm.map (·.2));rw[fU] at this;exact this
 obtain⟨ys,hys,Rv⟩:∃ys:List (bP×Addr),ys.Perm zs/\acc=ys.map λz=>Value.ref z.2:=by exact IG pv rfl
 subst Rv;have hyl:ys.length=zs.length:=hys.length_eq;have hV:mO h1 (ys.map λz=>Value.ref z.2) (ys.map (·.1)):=by
  have all:∀z∈ys,cg h1 z.1 z.2:=λz hz=>(hzs z (hys.mem_iff.mp hz)).stay λb o _ _ _ _ e=>k1 b o e;clear hys hyl pv hp;induction ys with
  | nil=>exact .nil
  | cons z ys ih=>exact .cons ⟨z.2,rfl,all z (by simp)⟩ (ih λy hy=>all y (by simp[hy]))
 refine aq (wpAny_newList ?_ (by rw[av,hyl,sizeLine_eq];omega));have gN:(h1.push (seqObj "list" (ys.map λz=>Value.ref z.2).toArray 0)).get? h1.objs.size=some (seqObj "list" (ys.map λz=>Value.ref z.2).toArray 0):=iC _ rfl;have hV2:=hV.stay (h':=h1.push (seqObj "list" (ys.map λz=>Value.ref z.2).toArray 0)) λb o _ _ _ _ e=>c8 _ e;have Om:∀i,i<ys.length->(ys.map (·.1)).getD i (0,none)=((ys.getD i ((0,none),0)).1:bP)/\ys.getD i ((0,none),0)∈ys:=λi hi=>by rw[mG,mG,bz,fN hi];exact⟨rfl,jH hi⟩
 have lm:(ys.map λz=>Value.ref z.2).length=ys.length:=av _;refine aq (wpAny_holding (wpAny_call_entry slot_list_sort ⟨_,gN,rfl⟩ entry_list_sort (IF (r:=λi=>pW ((ys.map (·.1)).getD i (0,none))) gN (by rw[lm,hyl];omega) (λG k=>(hV2.stay k).tups) (λG k i j hi hj E' C hC=>?_) (λi j hi hj e=>?_) λq hq u=>⟨_,rfl,?_⟩) (args_list_sort _)))
 .obtain⟨x,ex,gx⟩:=(hV2.stay k).get hi;obtain⟨y,ey,gy⟩:=(hV2.stay k).get hj;sleep 215;rw[ex,ey];refine RE (by simp only[Around.in1];omega) gx gy ?_ ?_ ?_ hC
  .rw[e1];exact hok _ (hys.mem_iff.mp m1)
  .rw[e2];exact hok _ (hys.mem_iff.mp m2)
  .rw[e1,e2];exact hal _ (hys.mem_iff.mp m1) _ (hys.mem_iff.mp m2)
 .sleep 215;change pW ((ys.map (·.1)).getD i (0,none))=pW ((ys.map (·.1)).getD j (0,none)) at e;rw[e1,e2] at e;have e3:=Mg (hok _ (hys.mem_iff.mp m1)) (hok _ (hys.mem_iff.mp m2)) (hal _ (hys.mem_iff.mp m1) _ (hys.mem_iff.mp m2)) e;have XS:(ys.map (·.1)).Nodup:=(hys.map (·.1)).nodup_iff.mpr nd;rw[<- e1,<- e2,mG,fN (by simpa using hi),mG,fN (by simpa using hj)] at e3;exact(rP XS).mp e3
 .rw[lm] at hq u;obtain⟨c,hc⟩:=sortedHeap_at (h:=h1.push (seqObj "list" (ys.map λz=>Value.ref z.2).toArray 0)) (a:=h1.objs.size) (vs:=ys.map λz=>Value.ref z.2) (n:=0) (out:=List.toArray (q.toList.map λi=>(ys.map λz=>Value.ref z.2).getD i Value.none)) gN;refine aL ⟨_,rfl,h h1.objs.size _ dd VM c _ (q.toList.map λi=>(ys.map (·.1)).getD i (0,none)) (jJ BA) (λb x e=>?_) hc ?_ (λk=>?_) ?_ (by rw[av,cY,hq.sz,hyl])⟩
  .sleep 69
  .have all:∀i∈q.toList,i<ys.length:=λi hi=>fW.mp (hq.pm.mem_iff.mp hi);clear u hc hq;generalize q.toList=l at all;induction l with
   | nil=>exact .nil
   | cons i l ih =>
    have hi:=all i (by simp);refine .cons ?_ (ih λj hj=>all j (by simp[hj]));obtain⟨e1,m1⟩:=Om i hi;refine⟨(ys.getD i ((0,none),0)).2,?_,?_⟩
    .show(List.map (λz=>Value.ref z.snd) ys).getD i Value.none=_;rw[mG,bz,mG,fN hi];rfl
    .show((ys.map (·.1)).getD i (0,none),_)∈zs;rw[e1];exact hys.mem_iff.mp m1
  .have:=(hq.pm.map λi=>(ys.map (·.1)).getD i (0,none)).mem_iff (a:=k);rw[this];have e:=range_getD (ys.map (·.1)) ((0,none):bP);rw[av] at e;rw[e];exact(hys.map (·.1)).mem_iff
  .rw[k9];intro i j hi hj hij;rw[av,cY,hq.sz] at hi hj;have:=u i j hij hj;unfold SN.kv at this;rw[rQ,rQ];have g:∀i(hi:i<q.toList.length),q.toList[i]=q.getD i 0:=λi hi=>by rw[Array.getD_eq_getD_getElem?,<- fR,fN hi];rfl
   rw[g,g];exact this
end
end HM
namespace SN
open PySem PySem.W PySem.Spec PyProof.Rows
section
variable {prog:Program}{w:World}{A:Around}{E:Value->Shared->Prop}{s:Shared}
end
end SN
namespace L2
open PySem PySem.Spec PyProof.Rows
variable {H H':Hp}{k:HM.bP}{v x:V}{P:Program}{w:World}{l d:Addr}{kvs:fZ}{xs:List (HM.bP×Addr×Value)}{s:Shared}{ep:Nat}
def eY(H:Hp):HM.fu->V->Prop
 | none,v=>v=.str "mark"
 | some p,v=>∃a,v=.ref a/\H a=some (.tup [.int p.1,.int p.2])
def bq(H:Hp)(v:V)(k:HM.bP):Prop:=∃a u,v=.ref a/\H a=some (.tup [.int k.1,u])/\eY H k.2 u
abbrev bZ(H:Hp):List V->List HM.bP->Prop:=Paired (bq H)
def eY.same{k:HM.fu}(h:eY H k v)(s:aB H H'):eY H' k v:=by
 cases k with
 | none=>exact h
 | some p=>obtain⟨a,e,q⟩:=h;exact⟨a,e,s _ _ q⟩
theorem bq.same(h:bq H v k)(s:aB H H'):bq H' v k:=let⟨a,u,e,q,t⟩:=h;⟨a,u,e,s _ _ q,t.same s⟩
theorem bZ.same{vs:List V}{ks:List HM.bP}(h:bZ H vs ks)(s:aB H H'):bZ H' vs ks:=Paired.Ex h λ_ _ x=>x.same s
def adr:V->Addr
 | .ref a=>a
 | _=>0
theorem bq.adr(h:bq H v k):v=.ref (L2.adr v):=by obtain⟨a,u,rfl,_⟩:=h;rfl
section
variable {X:Cx}{pins:List (Addr×Obj)}{σ:St}{H:Hp}{s:Shared}{Q:VK}
def Inv.thg(I:Inv X pins σ H s){k:HM.fu}{u:Value}(h:eY H k v)(r:RelV v u):HM.gz s.heap k u:=by
 cases k with
 | none =>
  have h:v=.str "mark" := h;subst h;exact r
 | some p =>
  obtain⟨a,rfl,q⟩:=h;cases r;obtain⟨o,n,t,u,h1,h2,h3⟩:=I.pair q;exact⟨a,o,n,t,u,rfl,h1,h2,h3⟩
def Inv.hrm(I:Inv X pins σ H s){a:Addr}(h:bq H (.ref a) k):HM.cg s.heap k a:=by
 obtain⟨a',u,e,q,t⟩:=h;cases e;obtain⟨_,its,r,o,h1,h2,n,h3⟩:=(show cZ X.prog X.w H s.heap a (.tup [.int k.1,u]) from I.hok a _ q);cases r with
 | cons r1 r =>
  cases r with
  | cons r2 r =>
   cases r;obtain⟨t1,rfl⟩:=r1;exact⟨o,n,t1,_,h1,h2,h3,I.thg t r2⟩
def sN(P:Program)(w:World)(p:Addr)(zs:List (HM.bP×Addr)):Heap->Prop:=λh=>HM.wV P w (!SG.cC w) h p zs
def Oo(K:aD)(P:Program)(w:World):List V->Hp->VK->Prop:=λxs H Q=>∃(l:Addr)(vs:List V)(ks:List HM.bP),xs=[.ref l]/\bE K H l vs/\bZ H vs ks/\ks.length<=4 /\
 ∀p H' zs,eU H p (.ext (sN P w p zs)) H'->(∀z∈zs,bq H (.ref z.2) z.1)->(∀k,k∈zs.map (·.1)↔k∈ks)->Q (.ref p) H'
def Fo(hu:X.A.units+64<cLine)(hc:X.calm=true):di X (.type "set") (Oo X.K X.prog X.w):=by
 sleep 38;obtain⟨l,vs,ks,rfl,hl,hk,h4,q⟩:=h;sleep 64;obtain⟨its,rv,⟨ol,n0,e1,e2,e3,e4⟩,_⟩:=I.list hl;have Z9:s.heap.IsList l its.toArray:=⟨ol,e1,e2,n0,e4⟩;have za:vs.length=ks.length:=hk.length;have hsz:its.toArray.size=ks.length:=by have:=rv.length;rw[aV];omega
 have hat:∀i,i<ks.length->bq H (.ref (adr (vs.getD i (.int 0)))) (ks.getD i (0,none))/\vs[i]?=some (.ref (adr (vs.getD i (.int 0)))):=λi hi=>by
  have hi':i<vs.length:=by omega
  obtain⟨k,hk1,hk2⟩:=lG hk (i:=i) (x:=vs[i]) (fN hi');have e1:vs.getD i (.int 0)=vs[i]:=by rw[mG,fN hi'];rfl
  have e2:ks.getD i (0,none)=k:=by rw[mG,hk1];rfl
  rw[e1,e2,<- hk2.adr];exact⟨hk2,fN hi'⟩
 refine HM.IE (val:=λi=>(ks.getD i (0,none),adr (vs.getD i (.int 0)))) (by omega) (I.ok.hd hc) Z9 (λi v hv=>?_) (by omega) λh' tk hS hkp=>?_
 .have hi:i<ks.length:=by have:=(mH.mp hv).1;omega
  obtain⟨a1,a2⟩:=hat i hi;obtain⟨u,hu,ru⟩:=rv.get a2;rw[k6,hu] at hv;cases hv;cases ru;exact⟨rfl,I.hrm a1⟩
 .rw[hsz] at hS;refine⟨.ref s.heap.objs.size,_,I.laid (t':=tk) (λb o e=>hkp b o (aK e) e) (az _) (o:=.ext (sN X.prog X.w s.heap.objs.size _)) ⟨hS,?_,λh1 h2 hp he=>hp.at' he⟩,rfl,q _ _ _ ⟨I.hok.fresh (az _),rfl⟩ (λz hz=>?_) λk=>?_⟩
  .obtain⟨o,_,_,_,ho,_⟩:=hS;exact⟨o,ho⟩
  .obtain⟨j,hj,rfl⟩:=HM.nY _ _ _ hz;exact(hat j hj).1
  .rw[HM.zd];constructor
   .rintro⟨j,hj,rfl⟩;show ks.getD j (0,none)∈ks;rw[mG,fN hj];exact jH hj
   .sleep 230;show k=ks.getD j (0,none);rw[mG,fN hj,<- e5];rfl
def IJ(P:Program)(w:World):List V->Hp->VK->Prop:=λxs H Q=>∃(p:Addr)(zs:List (HM.bP×Addr)),xs=[.ref p]/\H p=some (.ext (sN P w p zs))/\(∀z∈zs,bq H (.ref z.2) z.1)/\(∀z∈zs,HM.RC z.1)/\(∀z∈zs,∀y∈zs,HM.Alike z.1 y.1) /\
 ∀q H' vs ks,eU H q (.lst vs) H'->bZ H vs ks->(∀k,k∈ks↔k∈zs.map (·.1))->ks.Pairwise (λx y=>HM.pW x<HM.pW y)->Q (.ref q) H'
def BQ(hu:X.A.units+64<cLine)(hc:X.calm=true):di X (.builtin "sorted") (IJ X.prog X.w):=by
 sleep 38;obtain⟨p,zs,rfl,hp,hz,hok,hal,q⟩:=h;sleep 64;obtain⟨hS,_,_⟩:=I.hok p _ hp;have h4:zs.length<=4:=by obtain⟨_,_,_,_,_,_,_,_,_,_,_,h4,_⟩:=hS;exact h4
 refine HM.ze (by omega) (I.ok.hd hc) hS (λz hz'=>I.hrm (hz z hz')) hok hal λa h' d' tk c vs ks hle hk ho hP hmem Il hvl=>?_;have hV:∀{vs:List Value}{ks:List HM.bP},Paired (λv k=>∃a,v=Value.ref a/\(k,a)∈zs) vs ks->∃us:List V,Vals us vs/\bZ H us ks:=by
  intro vs ks r;induction r with
  | nil=>exact⟨[],.nil,.nil⟩
  | cons h _ ih =>
   obtain⟨a,rfl,hm⟩:=h;obtain⟨us,u1,u2⟩:=ih;exact⟨.ref a::us,.cons rfl u1,.cons (hz _ hm) u2⟩
 obtain⟨us,u1,u2⟩:=hV hP;have hl:us.length<=sizeLine:=by have e1:=u1.length;rw[sizeLine_eq];omega
 exact⟨.ref a,_,(I.drw d').laid (t':=tk) hk hle (o:=.lst us) ⟨hl,vs,c,u1,ho⟩,rfl,q _ _ us ks ⟨I.hok.fresh hle,rfl⟩ u2 hmem Il⟩
def RG{K:aD}{vs:List V}{ks:List HM.bP}(hl:bE K H l vs)(hk:bZ H vs ks)(h4:ks.length<=4)(h:∀p H' zs,eU H p (.ext (sN P w p zs)) H'->(∀z∈zs,bq H (.ref z.2) z.1)->(∀k,k∈zs.map (·.1)↔k∈ks)->Q (.ref p) H'):Oo K P w [.ref l] H Q:=⟨l,vs,ks,rfl,hl,hk,h4,h⟩
def Mh{p:Addr}{zs:List (HM.bP×Addr)}(hp:H p=some (.ext (sN P w p zs)))(hz:∀z∈zs,bq H (.ref z.2) z.1)(hok:∀z∈zs,HM.RC z.1)(hal:∀z∈zs,∀y∈zs,HM.Alike z.1 y.1)(h:∀q H' vs ks,eU H q (.lst vs) H'->bZ H vs ks->(∀k,k∈ks↔k∈zs.map (·.1))->ks.Pairwise (λx y=>HM.pW x<HM.pW y)->Q (.ref q) H'):IJ P w [.ref p] H Q:=⟨p,zs,rfl,hp,hz,hok,hal,h⟩
end
section
variable {K:aD}{H:Hp}{Q:VK}
def eY.rd{k:HM.fu}(h:eY H k x):RD K H x (HM.kW k):=by
 cases k with
 | none=>have h:x=.str "mark" := h;subst h;exact .str _
 | some p=>obtain⟨a,rfl,q⟩:=h;exact .tup (cM.of q) (.cons (.int _) (.cons (.int _) .nil))
theorem bq.rd(h:bq H x k):RD K H x (HM.uG k):=by obtain⟨a,u,rfl,q,t⟩:=h;exact .tup (cM.of q) (.cons (.int _) (.cons t.rd .nil))
def IK(k:HM.fu):Sh 1 (HM.kW k):=⟨HM.qO k,HM.pS k⟩
def Oq{k:HM.fu}(h:eY H k x)(q:Q (.bl k.isNone) H):HP K x (.str "mark") H Q:=by refine Rh (HM.kW k) (.str "mark") 1 (by decide) h.rd (.str _) (IK k) (IK none) ?_;have:=HM.wU k none;rw[show PyData.str "mark" = HM.kW none from rfl,this];cases k<;>exact q
end
abbrev fZ:=List (HM.bP×Addr×V)
def kX:fZ->List (HM.bP×Addr×Value)->Prop:=Paired λ(p:HM.bP×Addr×V)(q:HM.bP×Addr×Value)=>p.1=q.1/\p.2.1=q.2.1/\RelV p.2.2 q.2.2
def dN(P:Program)(w:World)(d:Addr)(ep:Nat)(kvs:fZ):Heap->Prop:=λh=>kvs.length<=sizeLine/\(d==sysModules)=false/\∃xs,kX kvs xs/\∃o es,h.get? d=some o/\o.ExactDict/\o.data=.dict es ep/\es.toList=xs.map (entryOfKey (HM.eX P w))/\(xs.map (·.1)).Nodup
def cK(H:Hp)(kvs:fZ):Prop:=∀x∈kvs,bq H (.ref x.2.1) x.1
theorem cK.same(h:cK H kvs)(s:aB H H'):cK H' kvs:=λx hx=>(h x hx).same s
def kH(kvs:fZ)(k:HM.bP):Option V:=(kvs.find? λx=>decide (x.1=k)).map (·.2.2)
def jY(kvs:fZ)(k:HM.bP)(a:Addr)(v:V):fZ:=if(kH kvs k).isSome then kvs.map (λx=>if x.1=k then(x.1,x.2.1,v) else x) else kvs++[(k,a,v)]
def kX.val(r:kX kvs xs)(k:HM.bP):ly (kH kvs k) ((atKey xs k).map (·.2)):=by
 unfold kX at r;induction r with
 | nil=>exact gf
 | @cons p q ps qs h t ih =>
  unfold kH atKey at ih ⊢;rw[i0,i0,<- h.1];by_cases e:p.1=k
  .rw[decide_eq_true e];exact h.2.2
  .rw[decide_eq_false e];exact ih
def kX.put(r:kX kvs xs)(k:HM.bP){b:Addr}{y:V}{u:Value}(ry:RelV y u):kX (jY kvs k b y) (storedH xs k b u):=by
 have e:(kH kvs k).isSome=(atKey xs k).isSome:=by rw[(r.val k).iW,Option.isSome_map]
 unfold jY storedH;rw[e];by_cases q:(atKey xs k).isSome=true
 .rw[if_pos q,if_pos q];clear e q;unfold kX at r ⊢;sleep 43
 .rw[if_neg q,if_neg q];exact cI r ⟨rfl,rfl,ry⟩
def zf(kvs:fZ)(k:HM.bP)(a:Addr)(v:V):(jY kvs k a v).length<=kvs.length+1:=by unfold jY;split<;>simp
section
variable {X:Cx}{pins:List (Addr×Obj)}{σ:St}{H:Hp}{s:Shared}{d b:Addr}{ep:Nat}{kvs:fZ}{k:HM.bP}{A:Around}{E:Value->Shared->Prop}
def DH(P:Program)(w:World)(H:Hp)(d:Addr)(ep:Nat)(kvs:fZ):Prop:=H d=some (.ext (dN P w d ep kvs))/\cK H kvs
def Inv.dh(I:Inv X pins σ H s)(h:DH X.prog X.w H d ep kvs):kvs.length<=sizeLine/\(d==sysModules)=false/\∃xs,kX kvs xs/\s.heap.DictOfH (HM.eX X.prog X.w) d xs:=by
 obtain⟨⟨z,hd,xs,rel,o,es,h1,h2,h3,h4,h5⟩,_,_⟩:=I.hok d _ h.1;refine⟨z,hd,xs,rel,o,es,ep,h1,h2,h3,h4,λx hx=>?_,h5⟩;have all:∀{kvs:fZ}{xs:List (HM.bP×Addr×Value)},kX kvs xs->cK H kvs->∀x∈xs,HM.cg s.heap x.1 x.2.1:=by
  intro kvs xs r;unfold kX at r;induction r with
  | nil=>intro _ x hx;exact nomatch hx
  | @cons p q ps qs hq t ih =>
   intro hk x hx;rcases aI.mp hx with e|hx
   .subst e;have:=I.hrm (hk p (by simp));rw[hq.1,hq.2.1] at this;exact this
   .exact ih (λy hy=>hk y (by simp[hy])) x hx
 exact all rel h.2 x hx
def Dq(hu:A.units+64<cLine):(HM.eX X.prog X.w).room A.in1:=by show A.in1.units+2<cLine;simp only[Around.in1];omega
def sO{Q:Value->Shared->Prop}(hu:A.units+64<cLine)(I:Inv X pins σ H s)(h:DH X.prog X.w H d ep kvs)(hb:bq H (.ref b) k)(hv:kH kvs k=some v)(q:∀w' s',Inv X pins σ H s'->RelV v w'->Q w' s'):
  wpAny (model X.prog X.w) A (getItem (.ref d) (.ref b)) Q E s:=by obtain⟨z,hd,xs,rel,dd⟩:=I.dh h;obtain⟨w',hw,rw'⟩:=ly.some_of (v:=v) (o:=(atKey xs k).map (·.2)) (by rw[<- hv];exact rel.val k);obtain⟨p,hp,hp2⟩:=dg.mp hw;refine wpAny_getItem_heap (Dq hu) (I.hrm hb) dd hp ?_;rw[hp2];exact q w' _ (I.tok _) rw'
def BR{h':Heap}{kvs:fZ}(z:kvs.length<=sizeLine)(hd:(d==sysModules)=false)(rel:kX kvs xs)(dd:h'.DictOfH (HM.eX X.prog X.w) d xs):∃ep,∀{H':Hp},cZ X.prog X.w H' h' d (.ext (dN X.prog X.w d ep kvs)):=by obtain⟨o,es,ep,h1,h2,h3,h4,_,h5⟩:=dd;refine⟨ep,λ{H'}=>⟨⟨z,hd,xs,rel,o,es,h1,h2,h3,h4,h5⟩,⟨o,h1⟩,λg1 g2 hp he=>?_⟩⟩;obtain⟨z,hd,xs,rel,o,es,h1,h2⟩:=hp;exact⟨z,hd,xs,rel,o,es,he _ h1,h2⟩
def sP{r:Value}{Q:Unit->Shared->Prop}(hu:A.units+64<cLine)(I:Inv X pins σ H s)(h:DH X.prog X.w H d ep kvs)(hb:bq H (.ref b) k)(hl:kvs.length<sizeLine)(rv:RelV v r)
  (q:∀qi s',Inv X pins σ (upd H d (.ext (dN X.prog X.w d qi (jY kvs k b v)))) s'->Q () s'):wpAny (model X.prog X.w) A (setItem (.ref d) (.ref b) r) Q E s:=by
 obtain⟨z,hd,xs,rel,dd⟩:=I.dh h;have hz:xs.length<=sizeLine:=by rw[<- g9 rel];exact z
 have hl2:(jY kvs k b v).length<=sizeLine:=by have:=zf kvs k b v;omega
 refine wpAny_setItem_heap (hsz:=hz) (Dq hu) (I.hrm hb) dd λh' S9 hs=>?_;obtain⟨qi,ho'⟩:=BR (X:=X) hl2 hd (rel.put k rv) S9;refine q qi _ ?_;have ho:=ho' (H':=upd H d (.ext (dN X.prog X.w d qi (jY kvs k b v))));exact wH I (by rw[h.1];exact gf) hs ho.2.1 ho
end
def IL(P:Program)(w:World):R2:=λx y H Q=>∃d b ep kvs k v,x=.ref d/\y=.ref b/\DH P w H d ep kvs/\bq H (.ref b) k/\kH kvs k=some v/\Q v H
def IM(P:Program)(w:World)(v x y:V)(H:Hp)(R:Hp->Prop):Prop:=∃d b ep kvs k,x=.ref d/\y=.ref b/\DH P w H d ep kvs/\bq H (.ref b) k/\kvs.length<=1000000/\∀qi H',nj H d (.ext (dN P w d qi (jY kvs k b v))) H'->R H'
def IP(P:Program)(w:World)(td ty tv:TE):TS:=λD σ H=>tv σ H λv H1=>td σ H1 λx H2=>ty σ H2 λy H3=>IM P w v x y H3 λH4=>D.nx σ H4
def IQ(P:Program)(w:World)(td ty tv:TE)(rd:V->V->Hp->VK->Prop):TS:=λD σ H=>td σ H λx H1=>ty σ H1 λy H2=>IL P w x y H2 λv H3=>tv σ H3 λy2 H4=>rd v y2 H4 λz H5=>IM P w z x y H5 λH6=>D.nx σ H6
def IS(P:Program)(w:World):TE:=λ_ H Q=>∀p ep H',eU H p (.ext (dN P w p ep [])) H'->Q (.ref p) H'
section
variable {X:Cx}{o i e value:Expr}{pos pos' tpos:Pos}{td ty tv:TE}
def zg:PE X (.Dict [] [] pos) (IS X.prog X.w):=λpins s σ H Q I h =>
 let⟨ep,ho⟩:=BR (X:=X) (kvs:=[]) (aH _) (beq_eq_false_iff_ne.mpr (bu (aQ I.big))) .nil (Heap.DictOfH.new s.heap)
 wpAny_Dict_empty ⟨.ref s.heap.objs.size,_,I.laid (a:=s.heap.objs.size) (o:=.ext (dN X.prog X.w s.heap.objs.size ep [])) (t':=s.toks) (λ_ _ q=>c8 _ q) (az _) ho,rfl,h _ ep _ ⟨I.hok.fresh (az _),rfl⟩⟩
def Inv.dhT{pins:List (Addr×Obj)}{σ:St}(I:Inv X pins σ H s)(h:DH X.prog X.w H d ep kvs):s.TypeIs (.ref d) "dict" := by obtain⟨_,_,_,_,dd⟩:=I.dh h;exact dd.typeIs
def jZ(hu:X.A.units+64<cLine)(ho:PE X o td)(hi:PE X i ty)(hs:G6 i):PE X (.Subscript o i pos) (Pz (IL X.prog X.w) td ty):=by sleep 31;refine wI PySem.F.slot_dict_getitem.lookup hs (cT (ho pins s σ H _ I h) λu s1 ⟨x,H1,I1,rx,q1⟩=>cT (hi pins s1 σ H1 _ I1 q1) λiv s2 ⟨y,H2,I2,ry,d,b,ep,kvs,k,v,ex,ey,hd,hb,hv,q2⟩=>?_);sleep 128;exact⟨I2.dhT hd,sO hu I2 hd hb hv λw' s3 I3 rw'=>⟨v,H2,I3,rw',q2⟩⟩
def zh(hu:X.A.units+64<cLine)(ho:PE X o td)(hi:PE X i ty)(hv:PE X value tv)(hs:swapsWith value (some (.Subscript o i pos')) pos.line X.env=pure false):
  PS X (.Assign [.Subscript o i pos'] value pos) (IP X.prog X.w td ty tv):=by sleep 62;refine wpAny_Assign_Subscript (cT (hv pins s σ H _ I h) λr s1 ⟨v,H1,I1,rv,q1⟩=>cT (ho pins s1 σ H1 _ I1 q1) λu s2 ⟨x,H2,I2,rx,q2⟩=>cT (hi pins s2 σ H2 _ I2 q2) λiv s3 ⟨y,H3,I3,ry,d,b,ep,kvs,k,ex,ey,hd,hb,hl,q3⟩=>?_) hs;sleep 128;exact sP hu I3 hd hb (by rw[sizeLine_eq];omega) rv λqi s4 I4=>⟨σ,_,I4,q3 qi _ rfl⟩
def IT{op:Operator}{rd:V->V->Hp->VK->Prop}(hu:X.A.units+64<cLine)(ho:PE X o td)(hi:PE X i ty)(hv:PE X value tv)(hop:Ug X op rd)
  (ha:∀ov iv new,augStore i ov iv new=(do holding [new,ov,iv] (setItem ov iv new);release [new,ov,iv] [];pure .next)):PS X (.AugAssign (.Subscript o i tpos) op value pos) (IQ X.prog X.w td ty tv rd):=by sleep 62;refine wpAny_AugAssign_SubscriptAny (cT (ho pins s σ H _ I h) λu s1 ⟨x,H1,I1,rx,q1⟩=>cT (hi pins s1 σ H1 _ I1 q1) λiv s2 ⟨y,H2,I2,ry,d,b,ep,kvs,k,v,ex,ey,hd,hb,hvl,q2⟩=>?_) ha;sleep 128;refine sO hu I2 hd hb hvl λw' s3 I3 rw'=>cT (hv pins s3 σ H2 _ I3 q2) λw2 s4 ⟨y2,H3,I4,ry2,q3⟩=>cT (hop pins s4 σ H3 v y2 w' w2 _ I4 rw' ry2 q3) λw3 s5 ⟨z,H4,I5,rz,d5,b5,ep5,ad3,k5,ex5,ey5,XT,hb5,hl5,q4⟩=>?_;cases ex5;cases ey5;exact sP hu I5 XT hb5 (by rw[sizeLine_eq];omega) rz λqi s6 I6=>⟨σ,_,I6,q4 qi _ rfl⟩
end
def IU(P:Program)(w:World)(d:Addr)(ep:Nat)(kvs:fZ):It :=
 ⟨λi H=>H d=some (.ext (dN P w d ep kvs))/\i<kvs.length,λi H x H'=>H'=H/\∃e,kvs[i]?=some e/\x=.ref e.2.1,λi H=>H d=some (.ext (dN P w d ep kvs))/\i=kvs.length⟩
def Inv.raw{X:Cx}{pins:List (Addr×Obj)}{σ:St}(I:Inv X pins σ H s)(h:H d=some (.ext (dN X.prog X.w d ep kvs))):
  (d==sysModules)=false/\kvs.length<=sizeLine/\∃es:Array DictEntry,SN.jm s.heap d es ep/\es.size=kvs.length/\∀(i:Nat) e,kvs[i]?=some e->∃u,es[i]?=some u/\u.key=.ref e.2.1/\RelV e.2.2 u.val:=by
 obtain⟨⟨z,hd,xs,rel,o,es,h1,h2,h3,h4,h5⟩,_,_⟩:=I.hok d _ h;have hl:xs.length=kvs.length:=(g9 rel).symm;have hs:es.size=xs.length:=by rw[<- cY,h4,av]
 refine⟨hd,z,es,⟨o,h1,h2,h3⟩,by omega,λi e he=>?_⟩;obtain⟨x,hx,r1,r2,r3⟩:=lG rel he;refine⟨entryOfKey (HM.eX X.prog X.w) x,?_,?_,?_⟩
 .rw[<- fR,h4,bz,hx];rfl
 .show Value.ref x.2.1=_;rw[r2]
 .exact r3
def BS{K:aD}{tg:Expr}(d it:Addr)(ep:Nat)(kvs:fZ):Turn P w K tg (IU P w d ep kvs) [it] it (λi h=>h.IsKeyIter it d i kvs.length ep) where
 mem:=by simp
 obj:=λi h st b hb=>by sleep 130;obtain⟨o,e,c,dd⟩:=st;exact⟨o,e,λv z=>by rw[dd] at z;cases z⟩
 keep:=λi h h' st k=>st.at λo e=>k it (by simp) o e
 item:=by sleep 264;have he:kvs[i]?=some kvs[i]:=fN hi;obtain⟨u,hu,hk,_⟩:=hat i _ he;rw[<- hs] at st;refine SN.yS st rd hu λh' st' sb=>?_;sleep 65;rw[hs] at st';obtain⟨o,e,c,dd⟩:=id st';exact⟨u.key,rfl,CA (s:={ s with heap:=h' }) e c dd (by decide) ⟨.ref kvs[i].2.1,H,I1,hk,⟨rfl,_,he,rfl⟩,st',λb hb=>(hf b hb).1⟩⟩
 done:=by sleep 264;subst hi;rw[<- hs] at st;exact SN.Dg (I.ok.hd hc) st rd λh' eb=>⟨rfl,I.turned (t':=s.toks) (λb o hb e=>eb b o hb e) f0 f1 f3 f4 f5⟩
 self:=λ_ _ _ _ _ st h=>wpAny_pyIter_keyiter st h
def RH(P:Program)(w:World)(R:It->Hp->Prop):V->Hp->Prop:=λx H=>∃d ep kvs,x=.ref d/\H d=some (.ext (dN P w d ep kvs))/\R (IU P w d ep kvs) H
def IV(P:Program)(w:World)(tl:TE):TI:=λσ H R=>tl σ H (RH P w R)
section
variable {X:Cx}{tg:Expr}
def nZ{l:Expr}{tl:TE}(hl:PE X l tl):PI X tg l (IV X.prog X.w tl):=by sleep 100;obtain⟨d,ep,kvs,e,hd,q⟩:=q1;subst e;cases r1;obtain⟨lo,_,es,rd,hs,hat⟩:=I1.raw hd;refine SN.yR lo rd ?_;refine⟨s1.heap.objs.size,[s1.heap.objs.size],_,_,H1,rfl,I1.kept (t':=s1.toks) λb o e=>c8 _ e,BS d _ ep kvs,⟨_,iC _ rfl,rfl,by rw[<- hs];rfl⟩,λb hb=>?_,q⟩;sleep 83
end
section
variable {K:aD}{nx bk ct:St->Hp->Prop}{rt:VK}{σ:St}{H:Hp}{Q:VK}{te:TE}{P:Program}{w:World}
def IW{tl:TE}{R:It->Hp->Prop}(h:tl σ H (RH P w R)):IV P w tl σ H R:=h
def VS{R:It->Hp->Prop}(hd:H d=some (.ext (dN P w d ep kvs)))(h:R (IU P w d ep kvs) H):RH P w R (.ref d) H:=⟨d,ep,kvs,rfl,hd,h⟩
def Mi{g:TG}{tb:TS}(Pv:Nat->St->Hp->Prop)(h0:Pv 0 σ H)(hl:∀i σ H,i<=kvs.length->Pv i σ H->H d=some (.ext (dN P w d ep kvs)))
  (hs:∀i e σ H,kvs[i]?=some e->Pv i σ H->g (.ref e.2.1) σ H λσ2 H2=>tb ⟨Pv (i+1),rt,nx,Pv (i+1)⟩ σ2 H2)(hd:∀σ H,Pv kvs.length σ H->nx σ H):Qs (IU P w d ep kvs) g tb nx rt σ H :=
 ⟨λi m σ H=>m=kvs.length-i/\i<=kvs.length/\Pv i σ H,⟨kvs.length,by omega,by omega,h0⟩,λi m σ' H' ⟨e,hi,p⟩=>by
  rcases aY i kvs.length with hlt|hge
  .refine .inr ⟨⟨hl i _ _ hi p,hlt⟩,Pv (i+1),λσ2 H2 q=>⟨kvs.length-(i+1),by omega,rfl,hlt,q⟩,?_⟩;rintro x H2 ⟨rfl,e,he,rfl⟩;exact hs i e σ' _ he p
  .have e:i=kvs.length:=by omega
   subst e;exact .inl ⟨⟨hl _ _ _ hi p,rfl⟩,hd _ _ p⟩⟩
def wW{tt:TT}{τ:St}(Pv:Nat->List V->Hp->Prop)(h0:Pv 0 [] H)(hl:∀i ys H,i<=kvs.length->Pv i ys H->H d=some (.ext (dN P w d ep kvs)))
  (hs:∀i e ys H,kvs[i]?=some e->Pv i ys H->ys.length<sizeLine/\tt (some (.ref e.2.1)::τ) H λb H3=>if b=true then te (some (.ref e.2.1)::τ) H3 λy H4=>Pv (i+1) (ys++[y]) H4 else Pv (i+1) ys H3)
  (hd:∀ys H,Pv kvs.length ys H->∀p H',eU H p (.lst ys) H'->Q (.ref p) H'):Bp (IU P w d ep kvs) tt te τ Q H:=by
 refine⟨λi m ys H=>m=kvs.length-i/\i<=kvs.length/\Pv i ys H,⟨kvs.length,by simp,aH _,h0⟩,?_⟩;rintro i m ys H ⟨rfl,hi,p⟩;have q:=hl i ys H hi p;by_cases hlt:i<kvs.length
 .have hx:kvs[i]?=some kvs[i]:=by simp[hlt]
  obtain⟨hz,q'⟩:=hs i _ ys H hx p;refine .inr ⟨⟨q,hlt⟩,hz,Pv (i+1),λσ' H' p'=>⟨kvs.length-(i+1),by omega,rfl,hlt,p'⟩,λx H' y=>?_⟩;obtain⟨e,e2,he,y⟩:=y;subst e y;rw[hx] at he;cases he;exact q'
 .have e:i=kvs.length:=by omega
  subst e;exact .inl ⟨⟨q,rfl⟩,λr hr=>hd ys H p r _ ⟨hr,rfl⟩⟩
end
def jN(ks:Nat->HM.bP×Addr)(vs:Nat->V):Nat->fZ
 | 0=>[]
 | n+1=>jY (jN ks vs n) (ks n).1 (ks n).2 (vs n)
theorem sQ(ks:Nat->HM.bP×Addr)(vs:Nat->V):∀n,(jN ks vs n).length<=n
 | 0=>az _
 | n+1=>by have h1:=sQ ks vs n;have h2:=zf (jN ks vs n) (ks n).1 (ks n).2 (vs n);show(jY (jN ks vs n) (ks n).1 (ks n).2 (vs n)).length<=n+1;omega
def Fp(h:k∉kvs.map (·.1)):kH kvs k=none:=by unfold kH;rw[List.find?_eq_none.mpr λx hx e=>h (aF.mpr ⟨x,hx,by simpa using e⟩)];rfl
def sR{a:Addr}(h:k∉kvs.map (·.1)):jY kvs k a v=kvs++[(k,a,v)]:=by unfold jY;rw[Fp h];rfl
theorem vo{ks:Nat->HM.bP×Addr}{vs:Nat->V}:∀{n:Nat},(∀i j,i<j->j<n->(ks i).1≠(ks j).1)->jN ks vs n=(List.range n).map λi=>((ks i).1,(ks i).2,vs i)
 | 0,_=>rfl
 | n+1,h=>by
  have ih:=vo (ks:=ks) (vs:=vs) (n:=n) λi j hi hj=>h i j hi (by omega);show jY (jN ks vs n) (ks n).1 (ks n).2 (vs n)=_;rw[ih,sR,mZ,bF]
  .rfl
  .intro hm;obtain⟨x,hx,e⟩:=aF.mp hm;obtain⟨i,hi,rfl⟩:=aF.mp hx;exact h i n (fW.mp hi) (by omega) e
section
variable {prog:Program}{w:World}{A:Around}
def Dr{h h':Heap}{it:Addr}(dd:h.DictOfH (HM.eX prog w) d xs)(hd:d≠it)(hi:∀o vs n,h.get? it=some o->o.data≠.seq vs n)(k:∀b o,b≠it->h.get? b=some o->h'.get? b=some o):h'.DictOfH (HM.eX prog w) d xs:=by obtain⟨o,es,ep,h1,h2,h3,h4,h5,h6⟩:=dd;refine⟨o,es,ep,k d o hd h1,h2,h3,h4,λx hx=>?_,h6⟩;exact HM.cg.stay (h5 x hx) λb o vs n _ ds e=>k b o (λz=>by subst z;exact hi o vs n e ds) e
def zj{R:Result->Shared->Prop}{s0:Shared}{it:Addr}{its:Array Value}{n:Nat}{ks:Nat->HM.bP×Addr}{vs:Nat->V}(hu:A.units+10<cLine)(hd:d≠it)(hdl:d≠l)(hli:l≠it)(hh:A.in1.handled=none)(hn:n<=sizeLine)(hsz:its.size=n)
  (hni:∀o vs n,s0.heap.get? it=some o->o.data≠.seq vs n)(hnd:∀o vs n,s0.heap.get? d=some o->o.data≠.seq vs n)
  (hp:∀i,i<n->∃(T:Addr)(v:Value)(o:Obj)(c:Nat),its[i]?=some (.ref T)/\s0.heap.get? T=some o/\o.cls=.type "tuple" /\ o.data=.seq #[.ref (ks i).2,v] c/\T≠it/\T≠d/\HM.cg s0.heap (ks i).1 (ks i).2/\RelV (vs i) v)
  (hl:s0.heap.IsList l its)
  (hR:∀h' tk rs,(∀b o,b≠it->b≠d->s0.heap.get? b=some o->h'.get? b=some o)->h'.DictOfH (HM.eX prog w) d rs->kX (jN ks vs n) rs->R (.ok (.ret .none)) { s0 with heap:=h',toks:=tk }):
  ∀(k i:Nat)(h:Heap)(t:Nat)(rs:List (HM.bP×Addr×Value))(c:Tok),n-i=k->i<=n->(∀b o,b≠it->b≠d->s0.heap.get? b=some o->h.get? b=some o)->h.IsListIter it l i->h.DictOfH (HM.eX prog w) d rs->kX (jN ks vs i) rs ->
   codeAny (model prog w) A (.builtin "dict.update.loop" ⟨[.ref d,.ref it,.int i c,.none],[]⟩) R { s0 with heap:=h,toks:=t }:=by
 sleep 103;have itd:∀{h:Heap}{i:Nat},h.IsListIter it l i->∀o vs n,h.get? it=some o->o.data≠.seq vs n:=λhit o vs n e z=>by obtain⟨o',e',_,d'⟩:=hit;rw[e] at e';cases e';rw[d'] at z;cases z
 intro k;induction k with
 | zero =>
  sleep 34;exact hR h' t rs (λb o b1 b2 q=>k' b o b1 (kp b o b1 b2 q)) (Dr dd hd (itd hit) λb o b1 q=>k' b o b1 q) rel
 | succ k ih =>
  intro i h t rs c hk hi kp hit dd rel;have hlt:i<n:=by omega
  obtain⟨T,v,o,cc,hx,hT,Z0,Z1,n1,n2,hk0,rv⟩:=hp i hlt;sleep 36;have d1:h1.DictOfH (HM.eX prog w) d rs:=Dr dd hd (itd hit) k1;have hk1:HM.cg h1 (ks i).1 (ks i).2:=HM.cg.stay hk0 λb o vs n _ ds e=>by
   have b1:b≠it:=λz=>by subst z;exact hni o vs n e ds
   have b2:b≠d:=λz=>by subst z;exact hnd o vs n e ds
   exact k1 b o b1 (kp b o b1 b2 e)
  sleep 35;show wpAny _ _ (holding [.ref (ks i).2,v] (dictSet d (.ref (ks i).2) v)) _ _ _;refine wpAny_holding (wpAny_dictSet_heap (hsz:=?_) (by show A.in1.units+2<cLine;simp only[Around.in1];omega) hk1 d1 λh2 d2 sb=>?_)
  .sleep 107;refine ih (i+1) h2 _ (storedH rs (ks i).1 (ks i).2 v) 0 (by omega) hlt (λb o b1 b2 q=>?_) ?_ d2 (rel.put (ks i).1 rv)
   .sleep 187
   .sleep 218
  .rw[<- g9 rel];exact bJ (sQ ks vs i) (bJ (jJ hlt) hn)
def zk{E:Value->Shared->Prop}{its:Array Value}{n:Nat}{ks:Nat->HM.bP×Addr}{vs:Nat->V}{Q:Value->Shared->Prop}(hu:A.units+20<cLine)(hx:PlainL s.heap l its)(hh:A.in1.in1.handled=none)(hn:n<=sizeLine)(hsz:its.size=n)
  (hp:∀i,i<n->∃(T:Addr)(v:Value)(o:Obj)(c:Nat),its[i]?=some (.ref T)/\s.heap.get? T=some o/\o.cls=.type "tuple" /\ o.data=.seq #[.ref (ks i).2,v] c/\HM.cg s.heap (ks i).1 (ks i).2/\RelV (vs i) v)
  (q:∀h' tk rs,(∀b o,s.heap.get? b=some o->h'.get? b=some o)->h'.DictOfH (HM.eX prog w) s.heap.objs.size rs->kX (jN ks vs n) rs->Q (.ref s.heap.objs.size) { s with heap:=h',toks:=tk }):
  wpAny (model prog w) A (call (.type "dict") [.ref l]) Q E s:=by
 sleep 20;have dd:(s.heap.push { cls:=.type "dict", data:=.dict #[] }).DictOfH (HM.eX prog w) s.heap.objs.size []:=Heap.DictOfH.new s.heap;sleep 0;have hdo:h1.get? s.heap.objs.size=some { cls:=.type "dict", data:=.dict #[] }:=k1 _ _ (iC _ rfl);have hdi:s.heap.objs.size≠h1.objs.size:=LV _ _ hdo;obtain⟨ol,nl,xX,_⟩:=hx;refine zj (s0:={ s with heap:=h1.push { cls:=.type "list_iterator", data:=.fields #[.ref l,.int 0 0] },toks:=t1 }) (it:=h1.objs.size) (l:=l) (d:=s.heap.objs.size) (its:=its) (n:=n) (ks:=ks) (vs:=vs) (by simp only[Around.in1];omega) hdi (bu (sz _ _ xX)) (LV _ _ (k0 _ _ xX)) hh hn hsz (λo vs n e z=>?_) (λo vs n e z=>?_) (λi hi=>?_) (let⟨o,a,r⟩:=hl1;⟨o,k2 _ _ a,r⟩) (λh' tk rs k' d' rel=>?_) _ 0 _ t1 [] 0 rfl (aH _) (λb o _ _ e=>e) ⟨_,iC _ rfl,rfl,rfl⟩ ⟨_,#[],0,k2 _ _ hdo,⟨rfl,rfl,rfl⟩,rfl,rfl,(λx hx=>nomatch hx),kg⟩ .nil
 .have e':some ({ cls:=.type "list_iterator", data:=.fields #[.ref l,.int 0 0] }:Obj)=some o:=(iC _ rfl).symm.trans e;cases e';cases z
 .have e':=(k2 _ _ hdo).symm.trans e;cases e';cases z
 .obtain⟨T,v,o,c,a1,a2,a3,a4,a5,a6⟩:=hp i hi;exact⟨T,v,o,c,a1,k2 _ _ (k0 _ _ a2),a3,a4,LV _ _ (k0 _ _ a2),sz _ _ a2,HM.cg.stay a5 λb o _ _ _ _ e=>k2 _ _ (k0 _ _ e),a6⟩
 .sleep 170
end
abbrev oh(H:Hp):List V->List (HM.bP×Addr×V)->Prop:=Paired λu p=>∃t,u=.ref t/\H t=some (.tup [.ref p.2.1,p.2.2])/\bq H (.ref p.2.1) p.1
def Ot(K:aD)(P:Program)(w:World):List V->Hp->VK->Prop:=λvs H Q=>∃a us ps,vs=[.ref a]/\bE K H a us/\oh H us ps/\(ps.map (·.1)).Nodup/\∀p ep H',eU H p (.ext (dN P w p ep ps)) H'->Q (.ref p) H'
end L2
namespace SN
open PySem PySem.Spec PyProof.Rows
section
variable {prog:Program}{w:World}{A:Around}{E:Value->Shared->Prop}{s:Shared}
def Mj{d:Addr}{es:Array DictEntry}{ep:Nat}(hd:(d==sysModules)=false):
  MeetsIn prog w (Builtin.«dict.__len__» ⟨[.ref d],[]⟩) (λ_ R s=>jm s.heap d es ep/\R (.ok (.ret (.int es.size s.toks))) { s with toks:=s.toks+1 }) :=
 .of_wp λA R s ⟨hm,h⟩=>by obtain⟨o,ho,hc,hdat⟩:=hm;show wpAny _ _ (dictSize d >>= _) _ _ s;unfold dictSize;refine aq (aq (wpAny_dictEntries ho hdat (aL ?_)));show wpAny _ _ (Builtin.Dict.pendingCount d >>= _) _ _ s;refine aq (wpAny_pendingCount_other hd ?_);refine wpAny_ret_mkInt ?_;rw[Nat.add_zero];exact h
def wX{d:Addr}{es:Array DictEntry}{ep:Nat}{Q:Value->Shared->Prop}(hd:(d==sysModules)=false)(hm:jm s.heap d es ep)(hfit:(es.size:Int)<2 ^ 63)
  (h:Q (.int es.size (s.toks+1)) { s with toks:=s.toks+1+1 }):wpAny (model prog w) A (call (.builtin "len") [.ref d]) Q E s:=by
 refine v8 kind_len plain_len entry_len (args_len1 _) ?_;unfold Builtin.«len»;refine aq (m:=oneArg "len" _) (aL ?_);refine aq (m:=callSpecial? (.ref d) (Str.ofString "__len__")) (wpAny_callSpecial?_slot (name:=Str.ofString "__len__") hm.ty F.slot_dict_len
  (call_meetsIn F.slot_dict_len hm.ty F.entry_dict_len (F.args_dict_len_1 _) (Mj (es:=es) (ep:=ep) hd) ⟨hm,?_⟩))
 show wpAny _ _ _ _ _ { s with toks:=s.toks+1 };refine aq (wpAny_holding (aL ?_));refine aq (wpAny_letGo ?_);show wpAny _ _ (if((es.size:Nat):Int)<0 then _ else _) _ _ _;rw[if_neg (by omega)];show wpAny _ _ (if((es.size:Nat):Int)>=2 ^ 63 then _ else _) _ _ _;rw[if_neg (by omega)];exact aq (wpAny_mkInt (aL ⟨_,rfl,h⟩))
end
end SN
namespace L2
open PySem PySem.Spec PyProof.Rows
variable {d:Addr}{ep:Nat}{kvs:fZ}
section
variable {X:Cx}{K:aD}{P:Program}{w:World}{H:Hp}{Q:VK}
def Ou(P:Program)(w:World):List V->Hp->VK->Prop:=λxs H Q=>∃d ep kvs,xs=[.ref d]/\H d=some (.ext (dN P w d ep kvs))/\Q (.int kvs.length) H
def vp:di X (.builtin "len") (Ou X.prog X.w):=by sleep 38;obtain⟨d,ep,kvs,rfl,hd,q⟩:=h;sleep 64;obtain⟨lo,z,es,rd,hs,hat⟩:=I.raw hd;refine SN.wX lo rd (by rw[sizeLine_eq] at z;omega) ?_;exact⟨.int kvs.length,H,I.tok _,⟨_,by rw[hs]⟩,q⟩
def RI(hd:H d=some (.ext (dN P w d ep kvs)))(q:Q (.int kvs.length) H):Ou P w [.ref d] H Q:=⟨d,ep,kvs,rfl,hd,q⟩
def VT(K:aD)(P:Program)(w:World):List V->Hp->VK->Prop:=λxs H Q=>∃d ep kvs T b,xs=[.ref d,.ty T]/\H d=some (.ext (dN P w d ep kvs))/\PySem.W.kitOne K (.type "dict") (.type T)=some b/\Q (.bl b) H
def Tg:di X (.builtin "isinstance") (VT X.K X.prog X.w):=by
 sleep 38;obtain⟨d,ep,kvs,T,b,rfl,hd,e,q⟩:=h;cases r with
 | cons r1 r =>
  cases r with
  | cons r2 r =>
   cases r;cases r1;cases r2;obtain⟨lo,z,es,⟨o,h1,h2,_⟩,hs,hat⟩:=I.raw hd;exact gc PySem.W.kitx_dict I.wm ⟨o,h1,h2.1⟩ e (λz=>nomatch z) λtk=>⟨.bl b,H,I.tok _,rfl,q⟩
def sS{H:Hp}{us:List V}{ps:fZ}(h:oh H us ps){i:Nat}(hi:i<ps.length):∃t,us[i]?=some (.ref t)/\H t=some (.tup [.ref (ps.getD i ((0,none),0,.cX)).2.1,(ps.getD i ((0,none),0,.cX)).2.2])/\bq H (.ref (ps.getD i ((0,none),0,.cX)).2.1) (ps.getD i ((0,none),0,.cX)).1:=by
 have hl:=h.length;obtain⟨p,hp,t,e,h1,h2⟩:=lG h (i:=i) (x:=us[i]'(by omega)) (fN _);have ep:ps.getD i ((0,none),0,.cX)=p:=by rw[mG,hp];rfl
 rw[ep];exact⟨t,by rw[fN (by omega),e],h1,h2⟩
def sU(hu:X.A.units+64<cLine)(hc:X.calm=true):di X (.type "dict") (Ot X.K X.prog X.w):=by
 sleep 38;obtain⟨l,ul,ps,rfl,hS,hP,nd,q⟩:=h;sleep 214;have e1:ul.length=ps.length:=hP.length;sleep 91;have eb:jN (λi=>((ps.getD i ((0,none),0,.cX)).1,(ps.getD i ((0,none),0,.cX)).2.1)) (λi=>(ps.getD i ((0,none),0,.cX)).2.2) ps.length=ps:=by
  rw[vo]
  .exact range_getD _ ps
  .intro i j hi hj e;have gi:∀k(hk:k<ps.length),ps.getD k ((0,none),0,.cX)=ps[k]:=λk hk=>by rw[mG,fN hk];rfl
   dsimp only at e;rw[gi i (by omega),gi j hj] at e;have:=(rP nd (i:=i) (j:=j) (h₀:=by rw[av];omega) (h₁:=by rw[av];omega)).mp (by rw[rQ,rQ];exact e);omega
 refine zk (n:=ps.length) (ks:=λi=>((ps.getD i ((0,none),0,.cX)).1,(ps.getD i ((0,none),0,.cX)).2.1)) (vs:=λi=>(ps.getD i ((0,none),0,.cX)).2.2) (by omega) pl hA (by omega) (by rw[aV];omega) (λi hi=>?_) λh' tk rs k' d' rel=>?_
 .obtain⟨t,ht,Z3,hh⟩:=sS hP hi;sleep 135;cases Z4 with
  | cons a1 b1 =>
   cases b1 with
   | cons a2 b2 =>
    cases b2;cases a1;exact⟨t,_,o,n,by simpa using hw,ho,hc',hd,I.hrm hh,a2⟩
 .rw[eb] at rel;sleep 123;obtain⟨ep,ho⟩:=BR (X:=X) (by rw[<- e1];exact hz) (beq_eq_false_iff_ne.mpr n6) rel d';have I4:=I3.uZ fd (o:=.ext (dN X.prog X.w s.heap.objs.size ep ps)) ho;exact⟨.ref _,_,I4,rfl,q _ ep _ ⟨fd.1,rfl⟩⟩
def Ds{a:Addr}{us:List V}{ps:fZ}(hS:bE K H a us)(hP:oh H us ps)(nd:(ps.map (·.1)).Nodup)(h:∀p ep H',eU H p (.ext (dN P w p ep ps)) H'->Q (.ref p) H'):Ot K P w [.ref a] H Q:=⟨a,us,ps,rfl,hS,hP,nd,h⟩
end
section
variable {K:aD}{P:Program}{w:World}{nx bk ct:St->Hp->Prop}{rt:VK}{σ:St}{H:Hp}{Q:VK}{td ty tv:TE}
def Mk(h:∀p ep H',eU H p (.ext (dN P w p ep [])) H'->Q (.ref p) H'):IS P w σ H Q:=h
def oj{b:Addr}{k:HM.bP}{v:V}(hd:H d=some (.ext (dN P w d ep kvs)))(hk:cK H kvs)(hb:bq H (.ref b) k)(hv:kH kvs k=some v)(h:Q v H):IL P w (.ref d) (.ref b) H Q:=⟨d,b,ep,kvs,k,v,rfl,rfl,⟨hd,hk⟩,hb,hv,h⟩
def IY{b:Addr}{k:HM.bP}{v:V}{R:Hp->Prop}(hd:H d=some (.ext (dN P w d ep kvs)))(hk:cK H kvs)(hb:bq H (.ref b) k)(hz:kvs.length<=1000000)(h:∀qi H',nj H d (.ext (dN P w d qi (jY kvs k b v))) H'->R H'):IM P w v (.ref d) (.ref b) H R:=⟨d,b,ep,kvs,k,rfl,rfl,⟨hd,hk⟩,hb,hz,h⟩
def Ml(h:tv σ H λv H1=>td σ H1 λx H2=>ty σ H2 λy H3=>IM P w v x y H3 λH4=>nx σ H4):IP P w td ty tv ⟨nx,rt,bk,ct⟩ σ H:=h
def Mm{rd:V->V->Hp->VK->Prop}(h:td σ H λx H1=>ty σ H1 λy H2=>IL P w x y H2 λv H3=>tv σ H3 λy2 H4=>rd v y2 H4 λz H5=>IM P w z x y H5 λH6=>nx σ H6):IQ P w td ty tv rd ⟨nx,rt,bk,ct⟩ σ H:=h
end
end L2
namespace SN
open PySem PySem.Spec PyProof.Rows
variable {d:Addr}{ep:Nat}{es:Array DictEntry}
section
variable {prog:Program}{w:World}{A:Around}{E:Value->Shared->Prop}{s:Shared}
def Fq{it:Addr}{i:Nat}{e:DictEntry}{Q:Option Value->Shared->Prop}(hit:s.heap.IsValIter it d i es.size ep)(x:jm s.heap d es ep)(he:es[i]?=some e)
  (hQ:∀h',h'.IsValIter it d (i+1) es.size ep->Heap.SameBut it s.heap h'->Q (some e.val) { s with heap:=h' }):wpAny (model prog w) A (pyNext (.ref it)) Q E s:=by
 sleep 18;sleep 5;sleep 241
 first|refine aq (wpAny_typeNameOfWhole_valiter ty (aL (aq (wpAny_isOneOf_valiter ty ?_))))|refine aq (wpAny_typeNameOf_valiter ty (aL (aq (wpAny_isOneOf_valiter ty ?_))))
 sleep 236;have yE:(s.heap.update it (Obj.mapFields (·.setIfInBounds 1 (rawInt ((i:Int)+1))))).IsValIter it d (i+1) es.size ep :=
  ⟨_,fB _ ho (iN (dF hf _)),(kh ..).trans hc,by rw[dF hf];simp[rawInt]⟩
 sleep 261;refine aq (wpAny_isOneOf_valiter (s:={ s with heap:=s.heap.update it (Obj.mapFields (·.setIfInBounds 1 (rawInt ((i:Int)+1)))) }) yE.typeIs ?_);refine aq (wpAny_isOneOf_valiter (s:={ s with heap:=s.heap.update it (Obj.mapFields (·.setIfInBounds 1 (rawInt ((i:Int)+1)))) }) yE.typeIs (show wpAny _ _ (pure e.val) _ _ _ from ?_));exact aL (aL ⟨_,rfl,aL (hQ _ yE (jC ..))⟩)
def IZ{it:Addr}{Q:Option Value->Shared->Prop}(hh:A.handled=none)(hit:s.heap.IsValIter it d es.size es.size ep)(x:jm s.heap d es ep)
  (hQ:∀h',Heap.ExtBut it s.heap h'->Q none { s with heap:=h' }):wpAny (model prog w) A (pyNext (.ref it)) Q E s:=by
 sleep 18;sleep 5;sleep 190
 first|refine aq (wpAny_typeNameOfWhole_valiter ty (aL ?_))|refine aq (wpAny_typeNameOf_valiter ty (aL ?_))
 sleep 13
def Ft{v:Addr}{Q:Value->Shared->Prop}(hv:s.heap.IsValuesView v d)(x:jm s.heap d es ep)
  (hQ:Q (.ref s.heap.objs.size) { s with heap:=s.heap.push { cls:=.type "dict_valueiterator", data:=.fields #[.ref d,.int 0 0,.int es.size 0,.int ep 0] } }):wpAny (model prog w) A (pyIter (.ref v)) Q E s:=by
 obtain⟨ov,hov,hcv,hdv⟩:=id hv;obtain⟨o,ho,hc,hdat⟩:=id x;refine wpAny_pyIter_slot hv.typeIs F.slot_dict_values_iter (wpAny_call_entry F.slot_dict_values_iter hv.typeIs F.entry_dict_values_iter ?_ (F.args_dict_values_iter_1 _));unfold Builtin.«dict_values.__iter__»;refine aq (aL ?_);refine aq ?_;unfold Builtin.Dict_items.dictOf;refine aq (wpAny_field hov hdv (x:=.ref d) rfl (aL ?_));refine aq ?_;unfold Builtin.Dict_items.newIterator;refine aq (wpAny_dictEntries ho hdat ?_);refine aq (wpAny_dictEpoch ho hdat ?_);have hown:Builtin.Dict_items.ownsTuple "dict_valueiterator" = false:=by decide
 simp only[hown,bW,if_false];refine wpAny_newObj_type (aL ⟨_,rfl, "dict_valueiterator", _,⟨_,iC _ rfl,rfl⟩,F.slot_dict_valueiterator_next.lookup,?_⟩);simpa[rawInt] using hQ
def BU(hh:A.handled=none)(I d:Addr)(hne:d≠I)(es:Array DictEntry)(ep:Nat):Walks prog w A I [I,d] [I] es.size (λi v=>∃e,es[i]?=some e/\v=e.val) (λi h=>h.IsValIter I d i es.size ep/\jm h d es ep) where
 sub:=λb hb=>by simp at hb;simp[hb]
 frame:=λ_ _ _ st hk=>⟨st.1.at λo e=>hk I (by simp) o e,st.2.at' λo e=>hk d (by simp) o e⟩
 item:=λi s Q E hi st hQ=>by have e1:es[i]?=some es[i]:=gu hi;refine Fq st.1 st.2 e1 λh' h1 h2=>hQ _ h' s.toks ⟨_,e1,rfl⟩ ⟨h1,st.2.at' λo e=>h2.extBut d o hne e⟩ λb o hb e=>h2.extBut b o (λh=>hb (by simp[h])) e
 done:=λs Q E st hQ=>IZ hh st.1 st.2 λh' h1=>hQ h' s.toks λb o hb e=>h1 b o (λh=>hb (by simp[h])) e
 self:=λ_ _ _ _ st hQ=>wpAny_pyIter_valiter st.1 hQ
def BV{v:Addr}{ep:Nat}{num:Nat->Int}{Q:Value->Shared->Prop}(hh:A.handled=none)(hv:s.heap.IsValuesView v d)(x:jm s.heap d es ep)(hne:0<es.size)(hn:∀(i:Nat)(e:DictEntry),es[i]?=some e->∃t,e.val=Value.int (num i) t)
  (h:∀u h' tk,(∃e,es[argBest (λi j=>decide (num i>num j)) (es.size-1)]?=some e/\u=e.val)->(∀b o,s.heap.get? b=some o->h'.get? b=some o)->Q u { s with heap:=h',toks:=tk }):
  wpAny (model prog w) A (call (.builtin "max") [.ref v]) Q E s:=by
 obtain⟨o,ho,r⟩:=id x;have hlt:=aK ho;refine call_max_walk (Ft hv x ?_);refine⟨_,_,_,_,_,_,_,rfl,BU (A:=A.in1) hh s.heap.objs.size d (aQ hlt) es ep,⟨⟨_,iC _ rfl,rfl,rfl⟩,x.at' λo e=>c8 _ e⟩,?_,hne,CmpOf.ints_gt num (λi u ⟨e,he,eu⟩=>by obtain⟨t,ht⟩:=hn i e he;exact⟨t,by rw[eu,ht]⟩),λu h' tk hP hk=>?_⟩
 .intro b hb;rw[fE];simp at hb;rcases hb with e|e
  .subst e;exact g8 _
  .subst e;exact jn hlt
 .exact h u h' tk hP λb o e=>hk b o (λhm=>by simp at hm;subst hm;exact absurd (aK e) (fY _)) (c8 _ e)
end
def BW{prog:Program}{w:World}(hd:(d==sysModules)=false):
  MeetsIn prog w (Builtin.«dict.values» ⟨[.ref d],[]⟩) (λ_ R s=>jm s.heap d es ep /\
   R (.ok (.ret (.ref s.heap.objs.size))) { s with heap:=s.heap.push { cls:=.type "dict_values", data:=.fields #[.ref d] } }) :=
 .of_wp λA R s ⟨hm,h⟩=>by refine aq ?_;unfold Builtin.Dict.noArgs;refine aq (wpAny_notOrdered_dict hm.ty ?_);show wpAny _ _ (pure d) _ _ s;refine aL ?_;sleep 202;rw[if_neg (by rw[hd];exact jT)];refine aq (aL ?_);exact aq (wpAny_newObj_type (aL ⟨_,rfl,h⟩))
end SN
namespace L2
open PySem PySem.Spec PyProof.Rows
variable {d:Addr}{ep:Nat}{kvs:fZ}
def zl(v d:Addr):Heap->Prop:=λh=>h.IsValuesView v d
section
variable {X:Cx}{o e f:Expr}{apos cpos:Pos}{td ty tx:TE}
def VU{pins:List (Addr×Obj)}{σ:St}{H:Hp}{s:Shared}(I:Inv X pins σ H s)(h:H d=some (.ext (dN X.prog X.w d ep kvs))):
  s.TypeIs (.ref d) "dict" /\ (∀b,Value.ref d=.ref b->∃ob,s.heap.get? b=some ob/\ob.dict=none)/\(d==sysModules)=false:=by obtain⟨lo,_,es,rd,_,_⟩:=I.raw h;refine⟨rd.ty,λb q=>?_,lo⟩;cases q;obtain⟨ob,h1,h2,_⟩:=rd;exact⟨ob,h1,h2.2.1⟩
def I0(P:Program)(w:World)(Q:VK):V->Hp->Prop:=λx H=>∃d ep kvs,x=.ref d/\H d=some (.ext (dN P w d ep kvs))/\∀v H',eU H v (.ext (zl v d)) H'->Q (.ref v) H'
def Ov(P:Program)(w:World)(td:TE):TE:=λσ H Q=>td σ H (I0 P w Q)
def I9(ho:PE X o td)(hbase:attributeBase o "values" X.env (eval o X.env)=eval o X.env:=by rfl)(hline:(apos.endLine==cpos.line)=true:=by rfl):PE X (.Call (.Attribute o "values" apos) [] [] cpos) (Ov X.prog X.w td):=by sleep 31;refine wpAny_Call_method0_late hbase hline (cT (ho pins s σ H _ I h) λu s1 ⟨x,H1,I1,r1,d,ep,kvs,ex,hd,q1⟩=>?_);subst ex;obtain rfl:u=Value.ref d:=r1;obtain⟨t1,t2,lo⟩:=VU I1 hd;obtain⟨_,_,es,rd,_,_⟩:=I1.raw hd;refine⟨"dict", _,PySem.F.plainAttrs_dict,PySem.F.slot_dict_values,PySem.F.type_dict_values,t1,t2,v7 rfl (PySem.evalArgs_none ?_)⟩;refine call_meetsIn PySem.F.slot_dict_values t1 PySem.F.entry_dict_values (PySem.F.args_dict_values_1 _) (SN.BW (es:=es) (ep:=ep) lo) ⟨rd,?_⟩;exact⟨.ref s1.heap.objs.size,_,I1.laid (a:=s1.heap.objs.size) (o:=.ext (zl s1.heap.objs.size d)) (t':=s1.toks) (λ_ _ q=>c8 _ q) (az _) ⟨⟨_,iC _ rfl,rfl,rfl⟩,⟨_,iC _ rfl⟩,λg1 g2 ⟨ob,a1,a2⟩ he=>⟨ob,he _ a1,a2⟩⟩,rfl,q1 _ _ ⟨I1.hok.fresh (az _),rfl⟩⟩
def Ow(P:Program)(w:World):List V->Hp->VK->Prop:=λxs H Q=>∃(v d:Addr)(ep:Nat)(kvs:fZ)(ns:List Int),xs=[.ref v]/\H v=some (.ext (zl v d))/\H d=some (.ext (dN P w d ep kvs))/\kvs.map (·.2.2)=ns.map V.int/\ns≠[]/\∀m,m∈ns->(∀x∈ns,x<=m)->Q (.int m) H
def Fv(hc:X.calm=true):di X (.builtin "max") (Ow X.prog X.w):=by
 sleep 38;obtain⟨v,d,ep,kvs,ns,rfl,hv,hd,en,hne,q⟩:=h;sleep 64;obtain⟨vv,_,_⟩:=I.hok v _ hv;obtain⟨lo,z,es,rd,hs,hat⟩:=I.raw hd;have hl:kvs.length=ns.length:=by have:=congrArg List.length en;simpa using this
 have hpos:0<es.size:=by
  rw[hs,hl];cases ns with
  | nil=>exact absurd rfl hne
  | cons=>simp
 have hn:∀(i:Nat)(e:DictEntry),es[i]?=some e->∃t,e.val=Value.int (ns.getD i 0) t:=λi e he=>by
  have hi:i<kvs.length:=by rw[<- hs];exact(mH.mp he).1
  obtain⟨u,hu,_,hr⟩:=hat i _ (fN hi);rw[he] at hu;cases hu;have e1:kvs[i].2.2=V.int (ns.getD i 0):=by
   have:(kvs.map (·.2.2))[i]?=(ns.map V.int)[i]?:=by rw[en]
   rw[bz,bz,fN hi,fN (show i<ns.length by omega)] at this;rw[mG,fN (show i<ns.length by omega)];exact Option.some.inj this
  rw[e1] at hr;exact hr
 refine SN.BV (num:=λi=>ns.getD i 0) (I.ok.hd hc) vv rd hpos hn λu h' tk hu k=>?_;obtain⟨e,he,rfl⟩:=hu;obtain⟨b1,b2⟩:=lE (λi=>ns.getD i 0) (es.size-1);obtain⟨t,ht⟩:=hn _ _ he;rw[ht];have at_:∀i,i<ns.length->ns[i]?=some (ns.getD i 0):=λi hi=>by rw[mG,fN hi];rfl
 refine⟨.int _,H,I.kept k,⟨_,rfl⟩,q _ (fz (at_ _ (by omega))) λx hx=>?_⟩;obtain⟨i,hi⟩:=fV.mp hx;have hil:=(fq hi).1;sleep 227
end
section
variable {X:Cx}{P:Program}{w:World}{K:aD}{o i e f:Expr}{pos apos cpos:Pos}{td ty tx:TE}
def pX(e1:X.prog=P)(e2:X.w=w)(hu:X.A.units+64<cLine)(ho:PE X o td)(hi:PE X i ty)(hs:G6 i):PE X (.Subscript o i pos) (Pz (IL P w) td ty):=e1▸e2▸jZ hu ho hi hs
end
section
variable {K:aD}{P:Program}{w:World}{σ:St}{H:Hp}{Q:VK}{td ty tx:TE}
def RJ(h:td σ H (I0 P w Q)):Ov P w td σ H Q:=h
def Mn(hd:H d=some (.ext (dN P w d ep kvs)))(h:∀v H',eU H v (.ext (zl v d)) H'->Q (.ref v) H'):I0 P w Q (.ref d) H:=⟨d,ep,kvs,rfl,hd,h⟩
def RK{v:Addr}{ns:List Int}(hv:H v=some (.ext (zl v d)))(hd:H d=some (.ext (dN P w d ep kvs)))(en:kvs.map (·.2.2)=ns.map V.int)(hne:ns≠[])(h:∀m,m∈ns->(∀x∈ns,x<=m)->Q (.int m) H):Ow P w [.ref v] H Q:=⟨v,d,ep,kvs,ns,rfl,hv,hd,en,hne,h⟩
end
end L2
namespace MX
open PySem PySem.Spec PyProof.Rows
section
variable {prog:Program}{w:World}{A:Around}{R:Result->Shared->Prop}{I:Addr}{fp wr:List Addr}{n:Nat}{P:Nat->Value->Prop}{St:Nat->Heap->Prop}{kw:List (Str×Value)}
def nm:(toString "max" ++ toString ".loop" : String) = "max.loop" := by decide
def loop(W:Walks prog w A.in1 I fp wr n P St)(bt:Nat->Nat->Bool)(hcmp:CmpOf prog w A.in1 .Gt P bt)(S:Addr)(hSf:S∉fp):
  ∀(k j:Nat)(s:Shared)(vb:Value)(c:Nat),n-(j+1)=k->j+1<=n->St (j+1) s.heap->P (argBest bt j) vb ->
  s.heap.get? S=some { cls:=.type "list", dict:=none,data:=.seq #[vb,vb] c,slots:=#[] } ->
  (∀v h' tk,P (argBest bt (n-1)) v->(∀b o,b∉wr->b≠S->s.heap.get? b=some o->h'.get? b=some o)->R (.ok (.ret v)) { s with heap:=h',toks:=tk }) ->
  codeAny (model prog w) A (.builtin "max.loop" ⟨[.ref I,.none,.ref S],kw⟩) R s:=by
 have XU:S∉wr:=λh=>hSf (W.sub _ h);intro k;induction k with
 | zero =>
  intro j s vb c hk hj hst XW hS hR;have hin:j+1=n:=by omega
  sleep 26;refine(show wpAny _ A.in1 (tryCatch (pyNext (.ref I)) _ >>= _) _ _ s from aq (wpAny_tryCatch (W.done s _ _ (hin▸hst) λh' tk hk'=>?_)));refine(show wpAny _ A.in1 (updateSeq S (λ_=>#[]) >>= _) _ _ _ from aq (wpAny_updateSeq (hk' S _ XU hS) rfl (aq (wpAny_letGo (aL ?_)))));exact hR vb _ tk (by rw[<- hin];exact XW) λb o Dt Mp e=>(j9 _ _ (bu Mp)).trans (hk' b o Dt e)
 | succ k ih =>
  intro j s vb c hk hj hst XW hS hR;have hlt:j+1<n:=by omega
  sleep 26;refine(show wpAny _ A.in1 (tryCatch (pyNext (.ref I)) _ >>= _) _ _ s from aq (wpAny_tryCatch (W.item (j+1) s _ _ hlt hst λv h' tk hP BX hk'=>?_)));have hS':=hk' S _ XU hS;refine(show wpAny _ A.in1 (tryCatch (holding [v,v] (richCompare .Gt v vb >>= _)) _ >>= _) _ _ _ from aq (wpAny_tryCatch (wpAny_holding (aq (hcmp (j+1) (argBest bt j) v vb _ _ _ hP XW ?_)))));refine aq (wpAny_holding (wpAny_truthy_bool (aq (wpAny_letGo (aL ?_)))));cases hb:bt (j+1) (argBest bt j) with
  | true =>
   simp only[if_true];refine aq (wpAny_updateSeq hS' rfl (aq (wpAny_letGo ?_)));rw[nm];refine aL ⟨plainId_quiet j8 _,ih (j+1) _ v _ (by omega) hlt (W.frame _ _ _ BX λb hbf o e=>(j9 _ _ (λh:S=b=>hSf (by rw[h];exact hbf))).trans e) (by simp only[argBest,hb,if_true];exact hP) (fB _ hS' rfl) λv' h'' Ja VV Jb=>?_⟩;sleep 192
  | false =>
   sleep 90;refine aq (wpAny_letGo ?_);rw[nm];exact aL ⟨plainId_quiet j8 _,ih (j+1) _ vb c (by omega) hlt BX (by simp only[argBest,hb,bW,if_false];exact XW) hS' λv' h'' Ja VV Jb=>hR v' h'' Ja VV λb o Dt Mp e=>Jb b o Dt Mp (hk' b o Dt e)⟩
def first(W:Walks prog w A.in1 I fp wr n P St)(bt:Nat->Nat->Bool)(hcmp:CmpOf prog w A.in1 .Gt P bt)(S:Addr)(hSf:S∉fp)(hn:0<n){s:Shared}{c:Nat}(hst:St 0 s.heap)
  (hS:s.heap.get? S=some { cls:=.type "list", dict:=none,data:=.seq #[] c,slots:=#[] })
  (hR:∀v h' tk,P (argBest bt (n-1)) v->(∀b o,b∉wr->b≠S->s.heap.get? b=some o->h'.get? b=some o)->R (.ok (.ret v)) { s with heap:=h',toks:=tk }):
  codeAny (model prog w) A (.builtin "max.loop" ⟨[.ref I,.none,.ref S],kw⟩) R s:=by have XU:S∉wr:=λh=>hSf (W.sub _ h);sleep 26;refine(show wpAny _ A.in1 (tryCatch (pyNext (.ref I)) _ >>= _) _ _ s from aq (wpAny_tryCatch (W.item 0 s _ _ hn hst λv h' tk hP BX hk'=>?_)));have hS':=hk' S _ XU hS;refine(show wpAny _ A.in1 (updateSeq S (λ_=>#[v,v]) >>= _) _ _ _ from aq (wpAny_updateSeq hS' rfl ?_));rw[nm];refine aL ⟨plainId_quiet j8 _,loop W bt hcmp S hSf _ 0 _ v _ rfl hn (W.frame _ _ _ BX λb hbf o e=>(j9 _ _ (λh:S=b=>hSf (by rw[h];exact hbf))).trans e) hP (fB _ hS' rfl) λv' h'' Ja VV Jb=>?_⟩;sleep 192
def none_{d:Value}{x:Str}(W:Walks prog w A.in1 I fp wr 0 P St)(S:Addr)(hSf:S∉fp){s:Shared}{c:Nat}(hst:St 0 s.heap)
  (hS:s.heap.get? S=some { cls:=.type "list", dict:=none,data:=.seq #[] c,slots:=#[] })
  (hR:∀h' tk,(∀b o,b∉wr->s.heap.get? b=some o->h'.get? b=some o)->R (.ok (.ret d)) { s with heap:=h',toks:=tk }):
  codeAny (model prog w) A (.builtin "max.loop" ⟨[.ref I,.none,.ref S],[(x,d)]⟩) R s:=by sleep 26;refine(show wpAny _ A.in1 (tryCatch (pyNext (.ref I)) _ >>= _) _ _ s from aq (wpAny_tryCatch (W.done s _ _ hst λh' tk hk'=>?_)));show wpAny _ A.in1 (rule _ >>= _) _ _ _;exact aq (wpAny_rule (aL (hR h' tk hk')))
end
section
variable {prog:Program}{w:World}{A:Around}{E:Value->Shared->Prop}{s:Shared}
theorem Mq{id:String}{b:Builtin}{args:List Value}{kw:List (Str×Value)}{Q:Value->Shared->Prop}(hk:builtinKind id=none)(hp:plainId id=true)(hb:entryFor table id=some b)(ha:argsOk id ⟨args,kw⟩)
  (hc:wpAny (model prog w) A.in1 (b ⟨args,kw⟩) (λfin s'=>match fin with
   | .done f=>(match(Except.ok f:Result) with|.ok (.ret v)=>Q v s'|.ok _=>False|.error e=>E e s')
   | .again c'=>c'.quiet=true/\codeAny (model prog w) A c' (λr s'=>match r with|.ok (.ret v)=>Q v s'|.ok _=>False|.error e=>E e s') s') E s):wpAny (model prog w) A (call (.builtin id) args kw) Q E s:=by
 refine wpAny_call (codeAny_call_builtin hp hb ?_);simp only[checkBuiltinCall,hk];cases aaf:Manifest.signature? id with
 | none=>exact aL hc
 | some sig =>
  have h2:Bind.checkArgs id sig ⟨args,kw⟩=pure ():=by simpa only[argsOk,aaf] using ha
  refine(show wpAny _ A.in1 (Bind.checkArgs id sig ⟨args,kw⟩) _ _ s from ?_);rw[h2];exact aL hc
def Fw(a d:Value):argsOk "max" ⟨[a],[("default", d)]⟩:=by unfold argsOk;kernel_rfl
def Fx{x d:Value}{Q:Value->Shared->Prop}
  (h:wpAny (model prog w) A.in1 (pyIter x) (λit s₂=>∃I fp wr n P St bt,it=.ref I/\Walks prog w A.in1 I fp wr n P St/\St 0 s₂.heap/\(∀b∈fp,b<s₂.heap.objs.size)/\CmpOf prog w A.in1 .Gt P bt /\
   ∀v h' tk,(if n=0 then v=d else P (argBest bt (n-1)) v)->(∀b o,b∉wr->s₂.heap.get? b=some o->h'.get? b=some o)->Q v { s₂ with heap:=h',toks:=tk }) E s):
  wpAny (model prog w) A (call (.builtin "max") [x] [("default", d)]) Q E s:=by
 refine Mq F.kind_max F.plain_max F.entry_max (Fw _ _) ?_;refine(show wpAny _ A.in1 (Builtin.Builtins.bindParams "max" ["key", "default"] 0 ⟨[],[("default", d)]⟩ >>= _) _ _ s from ?_);refine aq (wpAny_of_eq (show Builtin.Builtins.bindParams "max" ["key", "default"] 0 ⟨[],[("default", d)]⟩=pure [none,some d] by first|rfl|kernel_rfl) ?_);refine aq (aL (aq (wpAny_mono h (λit s₂ h₂=>?_) λ_ _ e=>e)));obtain⟨I,fp,wr,n,P,St,bt,rfl,W,hst,hfp,hcmp,hQ⟩:=h₂;refine aq (wpAny_newObj_type ?_);have hSf:s₂.heap.objs.size∉fp:=λhm=>fY _ (hfp _ hm);rw[nm];have BX:=W.frame 0 s₂.heap (s₂.heap.push { cls:=.type "list", data:=.seq ([]:List Value).toArray }) hst λb _ o e=>c8 _ e;rcases Nat.eq_zero_or_pos n with e|hn
 .subst e;refine aL ⟨plainId_quiet j8 _,none_ W s₂.heap.objs.size hSf BX (iC _ rfl) λh' tk hk=>?_⟩;exact hQ d h' tk (by rw[if_pos rfl]) λb o Dt e=>hk b o Dt (c8 _ e)
 .refine aL ⟨plainId_quiet j8 _,first W bt hcmp s₂.heap.objs.size hSf hn BX (iC _ rfl) λv h' tk hP hk=>?_⟩;exact hQ v h' tk (by rw[if_neg (by omega)];exact hP) λb o Dt e=>hk b o Dt (aQ (aK e)) (c8 _ e)
end
end MX
namespace L2
open PySem PySem.Spec PyProof.Rows
def Du(K:aD)(vs:List V)(y:V)(H:Hp)(Q:VK):Prop:=∃p xs d,vs=[.ref p]/\y=.int d/\bE K H p (xs.map V.int)/\∀m:Int,(xs=[]->m=d)->(xs≠[]->m∈xs/\∀x∈xs,x<=m)->Q (.int m) H
def Ox(K:aD)(t:TA)(tv:TE):TE:=λσ H Q=>t σ H λvs H1=>tv σ H1 λy H2=>Du K vs y H2 Q
section
variable {X:Cx}{e v:Expr}{p kp pos:Pos}{t:TA}{tv:TE}
def Mr{pins:List (Addr×Obj)}{σ:St}{H:Hp}{s:Shared}{vs:List V}{us:List Value}{y:V}{d:Value}{Q:VK}{E:Value->Shared->Prop}(hc:X.calm=true)(I:Inv X pins σ H s)(r:Vals vs us)(ry:RelV y d)(h:Du X.K vs y H Q):
  wpAny (model X.prog X.w) X.A (call (.builtin "max") us [("default", d)]) (λu s'=>∃x H',Inv X pins σ H' s'/\RelV x u/\Q x H') E s:=by
 obtain⟨p,xs,dd,rfl,rfl,hS,q⟩:=h;sleep 64;obtain⟨t0,rfl⟩:=ry;obtain⟨its,rv,pl,hz⟩:=I.list hS;obtain⟨ps,rfl,e⟩:=ve rv;have hl:s.heap.IsList p (intItems ps.toArray):=by have:=pl.isList;rw[show(ps.map λp=>Value.int p.1 p.2).toArray=intItems ps.toArray by unfold intItems;simp] at this;exact this
 have hsz:(intItems ps.toArray).size=ps.length:=by simp[intItems]
 have Oz:xs.length=ps.length:=by rw[<- e,av]
 refine MX.Fx (iter_intList hl λs₂ e2 st hfp hlI=>?_);subst e2;refine⟨_,_,_,_,_,_,_,rfl,Walks.list (A:=X.A.in1) (I.ok.hd hc) _ p hlI (intItems ps.toArray),st,hfp,CmpOf.ints_gt (numAt ps.toArray) (λ_ _=>intItems_at),λu h' tk hP hk=>?_⟩;rw[hsz] at hP;have kept:=old_kept (s:=s) (l:=p) hk;by_cases h0:ps.length=0
 .rw[if_pos h0] at hP;have ex:xs=[]:=List.eq_nil_of_length_eq_zero (by omega);subst hP;exact⟨.int dd,H,I.kept kept,⟨t0,rfl⟩,q dd (λ_=>rfl) λz=>absurd ex z⟩
 .rw[if_neg h0] at hP;obtain⟨t1,rfl⟩:=intItems_at hP;obtain⟨b1,b2⟩:=lE (numAt ps.toArray) (ps.length-1);have at_:∀i,i<ps.length->xs[i]?=some (numAt ps.toArray i):=λi hi=>by rw[<- e];simp[numAt,fN hi]
  refine⟨.int _,H,I.kept kept,⟨t1,rfl⟩,q _ (λz=>?_) λ_=>⟨fz (at_ _ (by omega)),λx hx=>?_⟩⟩
  .rw[z] at Oz;exact absurd Oz.symm h0
  .obtain⟨i,hi⟩:=fV.mp hx;have hil:i<ps.length:=by rw[<- Oz];exact(fq hi).1
   sleep 227
def Ms(hc:X.calm=true)(hg:Gl X "max")(hm:X.mg "max" = none)(ha:PA X [e] t)(hv:PE X v tv)(he:backTo pos (starEach [e] X.env)=(false,eval e X.env)::backTo pos (starEach [] X.env):=by rfl)
  (hpl:(backTo pos (starEach [e] X.env)).any (·.1)=false:=by rfl)(hal:(backToKw pos (keywordEach [⟨some "default", v,kp⟩] X.env)).all (·.1.isSome)=true:=by rfl)(hkw:(backToKw pos (keywordEach [⟨some "default", v,kp⟩] X.env)).any (·.1.isNone)=false:=by rfl)
  (hfm:(backToKw pos (keywordEach [⟨some "default", v,kp⟩] X.env)).filterMap (·.1)=[("default" : Str)]:=by rfl):PE X (.Call (.Name "max" p) [e] [⟨some "default", v,kp⟩] pos) (Ox X.K t tv):=by sleep 31;refine wpAny_Call_Name_kw (jK I hg hm BT.Oc ?_);refine callWith_kw (kws:=[⟨some "default", v,kp⟩]) ?_ he hpl hal hkw;refine cT (ha pos pins s σ H _ I h) λus s1 ⟨vs,H1,I1,r1,q1⟩=>?_;refine kws_cons (cT (hv pins s1 σ H1 _ I1 q1) λd s2 ⟨y,H2,I2,ry,q2⟩=>kws_nil ?_);rw[hfm];exact Mr hc I2 r1 ry q2
end
section
variable {K:aD}{σ:St}{H:Hp}{Q:VK}{t:TA}{tv:TE}
def Mt(h:t σ H λvs H1=>tv σ H1 λy H2=>Du K vs y H2 Q):Ox K t tv σ H Q:=h
def RL{p:Addr}{xs:List Int}{d:Int}(hS:bE K H p (xs.map V.int))(h:∀m:Int,(xs=[]->m=d)->(xs≠[]->m∈xs/\∀x∈xs,x<=m)->Q (.int m) H):Du K [.ref p] (.int d) H Q:=⟨p,xs,d,rfl,rfl,hS,h⟩
end
section
variable {prog:Program}{w:World}{κ:Type} [DecidableEq κ] {knd:HeapKind prog w κ}{A:Around}{E:Value->Shared->Prop}{s:Shared}
end
def OA(kvs kvs':fZ):Prop:=kvs.length=kvs'.length/\∀x∈kvs,∃n:Int,x.2.2=.int n/\kH kvs' x.1=some (.int n)
def OA.raw{kvs kvs':fZ}{xs ys:List (HM.bP×Addr×Value)}(l:OA kvs kvs')(r:kX kvs xs)(r':kX kvs' ys):xs.length=ys.length/\∀x∈xs,∃(p:Addr×Value)(n:Int)(t t':Tok),atKey ys x.1=some p/\p.2=.int n t'/\x.2.2=.int n t:=by
 refine⟨by rw[<- g9 r,<- g9 r'];exact l.1,?_⟩;have h:=l.2;clear l;unfold kX at r;induction r with
 | nil=>intro x hx;exact nomatch hx
 | @cons p q ps qs hq t ih =>
  intro x hx;rcases aI.mp hx with e|hx
  .subst e;obtain⟨n,h1,h2⟩:=h p (by simp);have h3:=r'.val p.1;rw[h2] at h3;obtain⟨w',hw,rw'⟩:=ly.some_of (v:=.int n) (o:=(atKey ys p.1).map (·.2)) h3;obtain⟨z,hz,hz2⟩:=dg.mp hw;have r1:=hq.2.2;rw[h1] at r1;obtain⟨t1,e1⟩:=r1;obtain⟨t2,e2⟩:=rw';exact⟨z,n,t1,t2,by rw[<- hq.1];exact hz,by rw[hz2];exact e2,e1⟩
  .exact ih (λy hy=>h y (by simp[hy])) x hx
section
variable {X:Cx}{P:Program}{w:World}{H:Hp}{Q:VK}
end
end L2
namespace SN
open PySem PySem.Spec PyProof.Rows
end SN
namespace L2
open PySem PySem.Spec PyProof.Rows
section
variable {X:Cx}{o:Expr}{apos cpos:Pos}{td:TE}
end
section
variable {P:Program}{w:World}{H:Hp}{Q:VK}{σ:St}{td:TE}
end
set_option genInjectivity false in
set_option genSizeOf false in
set_option genSizeOfSpec false in
structure DD (K:aD) (mg:Str->Option Value) (n:Str) (st:Stmt) (ps:List Str) where
 f:Addr
 d:FuncData
 F:Tc K n n st f d
 b:Binds K d ps []
 m:mg n=some (.ref f)
set_option genInjectivity false in
set_option genSizeOf false in
set_option genSizeOfSpec false in
structure CI (mg:Str->Option Value) (n:Str) (i:Int) where
 t:Tok
 c:mg n=some (.int i t)
set_option genInjectivity false in
set_option genSizeOf false in
set_option genSizeOfSpec false in
structure CT (K:aD) (mg:Str->Option Value) (n:Str) (vs:List V) where
 a:Addr
 c:mg n=some (.ref a)
 q:gW K a vs
section
variable {K:aD}{mg:Str->Option Value}{n:Str}{st:Stmt}{ps:List Str}{h:Heap}{f a:Addr}{oc:Value}{od an:Option Addr}{sl:Array (Option Value)}{kV dc pm cd ct:Value}
abbrev Jc(n:Str)(st:Stmt)(ps:List Str):Prop:=∀(kV doc pm:Value)(an:Option Addr)(cdv ct:Value)(us:List Value),us.length=ps.length->bindArgs (PySem.W.fnOf n n (ku st) (iP st) (aC st) .none kV doc pm an cdv ct) ⟨us,[]⟩=pure (ps.zip us)
def VW(X:K.In h)(G:h.Ns mainGlobals mg)(hb:Jc n st ps)(e:PySem.W.nsIn K mainGlobals n=some (some (.ref f)))(l:K.lookup f=some ⟨oc,od,.func (PySem.W.fnOf n n (ku st) (iP st) (aC st) .none kV dc pm an cd ct),sl⟩)
  (c:PySem.W.codeIn K cd n=true)(k:PySem.W.keepIn K (.ref f)=true):DD K mg n st ps:=⟨f,_,Hq l c k,(Hq l c k).binds hb,PySem.W.mg_of X G e⟩
def VX{i:Int}{t:Tok}(X:K.In h)(G:h.Ns mainGlobals mg)(e:PySem.W.nsIn K mainGlobals n=some (some (.int i t))):CI mg n i:=⟨t,PySem.W.mg_of X G e⟩
def VY{vs:List V}{its:Array Value}{j:Nat}(X:K.In h)(G:h.Ns mainGlobals mg)(e:PySem.W.nsIn K mainGlobals n=some (some (.ref a)))(l:K.lookup a=some ⟨.type "tuple", od,.seq its j,sl⟩)(r:Vals vs its.toList)(hz:its.size<=1000):CT K mg n vs:=⟨a,PySem.W.mg_of X G e,gW.mk' l r hz⟩
def DD.bind1{x:Str}{st:Stmt}(D:DD K mg n st [x])(hb:Jc n st [x])(s:Shared)(v:Value):BindsTo s D.d ⟨[v],[]⟩ [(x,v)]:=by obtain⟨_,_,kV,dc,pm,an,cd,ct,_,e,_,_⟩:=D.F.ex;rw[e];exact .of_eq (hb kV dc pm an cd ct [v] rfl)
end
section
variable {X:Cx}{n:Str}{st:Stmt}{ps:List Str}{sp:Sp}{k j:Nat}{e:Expr}{es:List Expr}{p pos:Pos}{t:TA}
def aP(D:DD X.K X.mg n st ps)(F:b8 X.prog X.w X.K X.mg X.base gS k D.f D.d ps sp)(r:jc j X.A)(ha:PA X (e::es) t)(hk:k<=j:=by first|decide|omega)(hg:Gl X n:=by rfl)(hdb:(n==("__debug__" : Str))=false:=by decide)
  (he:starEach (e::es) X.env=(false,eval e X.env)::starEach es X.env:=by rfl)(hpl:(backTo pos (starEach es X.env)).any (·.1)=false:=by rfl):PE X (.Call (.Name n p) (e::es) [] pos) (GS sp [] E0 t) :=
 Ln F (r.mono hk) hg D.m D.F.kp D.b .nil UA ha hdb he hpl
end
section
variable {X:Cx}{tg:Expr}
end
section
variable {K:aD}{nx bk ct:St->Hp->Prop}{rt:VK}{σ:St}{H:Hp}{Q:VK}{te:TE}
end
section
variable {X:Cx}{o e:Expr}{td ty:TE}{apos cpos:Pos}
end
section
variable {X:Cx}{K:aD}{σ:St}{H:Hp}{Q:VK}{t:TA}
def vq(ta:TA):TE:=λσ H Q=>ta σ H λvs H1=>∃j:Int,vs=[.int j]/\0<=j/\j<=1000000/\∀p,H1 p=none->Q (.ref p) (upd H1 p (.lst (uB 0 j.toNat)))
def uH{b:Expr}{ta:TA}{p1 p2 p3 p4:Pos}(LZ:Gl X "list")(hm1:X.mg "list" = none)(Te:Gl X "range")(hm2:X.mg "range" = none)(ha:PA X [b] ta)(hc:X.calm=true:=by rfl)
  (hs2:starEach [b] X.env=[(false,eval b X.env)]:=by rfl)
  (he1:starEach [Expr.Call (.Name "range" p2) [b] [] p3] X.env=[(false,eval (Expr.Call (.Name "range" p2) [b] [] p3) X.env)]:=by rfl):
  PE X (.Call (.Name "list" p1) [.Call (.Name "range" p2) [b] [] p3] [] p4) (vq ta):=by
 sleep 31;refine wpAny_Call_Name_kw (jK I LZ hm1 BT.sA ?_);refine ki ?_ he1 rfl;rw[he1];show wpAny _ _ (spliced [(false,eval (Expr.Call (.Name "range" p2) [b] [] p3) X.env)]) _ _ s;refine Calls.spliced_cons ?_;refine Call_ (jK I Te hm2 boot_range (ki (cT (ha p3 pins s σ H _ I h) λus s1 ⟨vs,H1,I1,r1,q1⟩=>?_) hs2 rfl));obtain⟨j,e,q1,q2,q⟩:=q1;subst e;cases r1 with
 | cons r rr =>
  cases rr;obtain⟨t',rfl⟩:=r;refine call_range_1 (Calls.spliced_nil ?_);have hA:X.A.in1.in1.handled=none:=I1.ok.hd hc;refine call_list_range (n:=j.toNat) hA (IsRange.new ..) (small_one (by omega) (by omega) (by omega) (by omega)) (by rw[rangeSize_one];split<;>omega) (bJ (show j.toNat<=1000000 by omega) (by decide)) λh' tk acc' c' hk hS hacc=>?_;have hk':∀b o,s1.heap.get? b=some o->h'.get? b=some o:=λb o e=>hk b o (c8 _ e);refine⟨.ref _,_,I1.laid (t':=tk) hk' (by rw[fE];exact lq _) (o:=.lst (uB 0 j.toNat)) ⟨by rw[HZ];exact bJ (show j.toNat<=1000000 by omega) (by decide),acc'.toList,c',E2 hacc,?_⟩,rfl,q _ (I1.hok.fresh (by rw[fE];exact lq _))⟩;rw[hS]
def zm(h:t σ H λvs H1=>∃j:Int,vs=[.int j]/\0<=j/\j<=1000000/\∀p,H1 p=none->Q (.ref p) (upd H1 p (.lst (uB 0 j.toNat)))):vq t σ H Q:=h
end
end L2
set_option compiler.extract_closed false
local macro_rules | `(tactic| walk_at "look")=>`(tactic| first|assumption|exact L2.eU.self (by assumption)|exact L2.eU.keep (by assumption) (by walk_at "look")|exact L2.nj.self (by assumption)|exact L2.nj.keep (by assumption) (by walk_at "neq") (by walk_at "look")|exact(by assumption : L2.aB _ _) _ _ (by walk_at "look"))
local macro_rules | `(tactic| walk_at "neq")=>`(tactic| first|assumption|exact bu (by assumption)|exact L2.eU.ne (by assumption) (by walk_at "look")|exact bu (L2.eU.ne (by assumption) (by walk_at "look"))|exact L2.rW (by walk_at "look") (by walk_at "look") (by intro z;cases z))
local macro_rules | `(tactic| walk_at "sq")=>`(tactic| first|assumption|exact L2.gW.sq (by assumption)|exact L2.bE.of (by walk_at "look")|exact L2.cM.of (by walk_at "look")|exact L2.aB.seq (by assumption) (by walk_at "sq")|exact L2.aB.seq (L2.eU.same (by assumption)) (by walk_at "sq"))
local macro_rules | `(tactic| walk_at "same")=>`(tactic| first|exact L2.aB.refl _|assumption|(refine L2.aB.trans ?_ (L2.eU.same (by assumption));walk_at "same")|(refine L2.aB.trans ?_ (by assumption);walk_at "same")|(refine L2.nj.same (by assumption) ?_ ?_<;>first|walk_at "same" | walk_at "free"))
local macro_rules | `(tactic| walk_at "free")=>`(tactic| first|assumption|exact L2.eU.none (by assumption) (by walk_at "free")|exact L2.aB.free (by assumption) (by walk_at "free")|exact(by assumption : L2.eU _ _ _ _).1|exact L2.aB.free (by walk_at "same") (by assumption : L2.eU _ _ _ _).1)
local macro_rules | `(tactic| walk_at "cond")=>`(tactic| first|omega|decide|exact⟨by omega, by omega⟩|exact ao ⟨by omega, by omega⟩|exact bQ ⟨by omega, by omega⟩|exact⟨by omega, by omega, by decide⟩)
local macro_rules | `(tactic| walk_at "len")=>`(tactic| first|omega|(simp only[av, aR, eB, mW, L2.yz] at *;omega)|exact dY rfl)
local macro_rules | `(tactic| walk_at "fld")=>`(tactic| first|exact L2.XX|exact L2.XY|exact L2.XZ|exact L2.X0|exact L2.X3|exact L2.X4|exact L2.X5|exact L2.X6|exact L2.X7|exact L2.X8|exact L2.X9|exact L2.Yb)
local macro_rules | `(tactic| walk_at "flp")=>`(tactic| first|exact L2.Yc|exact L2.Yd|exact L2.Ye|exact L2.VZ|exact L2.V0|exact L2.V1|exact L2.V2|exact L2.Yg|exact L2.Yh|exact L2.Yi|exact L2.Yj|exact L2.Yk|exact L2.Yl|exact L2.Ym|exact L2.Yn|exact L2.V3|exact L2.V4|exact L2.V5|exact L2.V6|exact L2.V7|exact L2.V8|exact L2.V9|exact L2.Wa)
local macro_rules | `(tactic| walk_at "fln")=>`(tactic| first|exact L2.Yo|exact L2.Yp|exact L2.Yq|exact L2.Yr|exact L2.Ys|exact L2.Yt|exact L2.Yu|exact L2.Yv|exact L2.Yw|exact L2.Yx|exact L2.Yy|exact L2.Yz|exact Nat.zero_lt_succ _)
local macro_rules | `(tactic| walk_at "flm")=>`(tactic| first|exact L2.aag|exact L2.aah|exact L2.aai|exact L2.aaj|exact L2.aak|exact L2.aal|exact L2.aam|exact L2.aan|exact L2.aao)
set_option hygiene false in
local macro_rules | `(tactic| walk_at "nx") => `(tactic| first | ((fail_if_success clear Jd); intro nx0 Jd) | ((fail_if_success clear RM); intro nx1 RM) | ((fail_if_success clear RN); intro nx2 RN) | ((fail_if_success clear RO); intro nx3 RO) | intro nx4 Wb)
set_option hygiene false in
local macro_rules | `(tactic| walk_at "ni") => `(tactic| (try clear zo uI Wc Wd); intro Wc Wd zo uI)
set_option hygiene false in
local macro_rules | `(tactic| walk_at "nl") => `(tactic| first | ((fail_if_success clear Mu); intro no0 bk0 ct0 Mu aap aaq) | ((fail_if_success clear We); intro no1 bk1 ct1 We aar aas) | intro no2 bk2 ct2 aat aau aav)
set_option hygiene false in
local macro_rules | `(tactic| walk_at "sq1") => `(tactic| first | ((with_reducible refine L2.Rj ?_); walk_at "nx") | ((with_reducible refine L2.Bv (bk := bk2) (ct := ct2) ?_); walk_at "nx") | ((with_reducible refine L2.Bv (bk := bk1) (ct := ct1) ?_); walk_at "nx") | ((with_reducible refine L2.Bv (bk := bk0) (ct := ct0) ?_); walk_at "nx") | ((with_reducible refine L2.Rk ?_); walk_at "nl"; walk_at "nx"))
set_option hygiene false in
local macro_rules | `(tactic| walk_at "nxd") => `(tactic| first | ((with_reducible refine zo _ ?_); try clear zo uI Wc Wd) | ((with_reducible refine uI _ ?_); try clear zo uI Wc Wd) | ((with_reducible refine Jd _ _ ?_); try clear Jd nx0) | ((with_reducible refine RM _ _ ?_); try clear RM nx1) | ((with_reducible refine RN _ _ ?_); try clear RN nx2) | ((with_reducible refine RO _ _ ?_); try clear RO nx3) | ((with_reducible refine Wb _ _ ?_); try clear Wb nx4) | with_reducible refine Mu _ _ ?_ | with_reducible refine aaq _ _ ?_ | with_reducible refine aap _ _ ?_ | with_reducible refine We _ _ ?_ | with_reducible refine aas _ _ ?_ | with_reducible refine aar _ _ ?_ | with_reducible refine aat _ _ ?_ | with_reducible refine aav _ _ ?_ | with_reducible refine aau _ _ ?_)
local macro_rules | `(tactic| walk_at "go1")=>`(tactic| first
  | ((with_reducible refine L2.Ri ?_);walk_at "sq1")|with_reducible (first|apply L2.UU|apply L2.Zw|apply L2.s_c)
  | ((with_reducible refine L2.Oh ?_);walk_at "ni")|with_reducible (first|apply L2.Qe|apply L2.s_b|apply L2.UL|apply L2.Qx|apply L2.Qy|apply L2.Qz|apply L2.QA|apply L2.QB|apply L2.QC|apply L2.QD|apply L2.QE|apply L2.QF|apply L2.QG|apply L2.LB|apply L2.LC|apply L2.LF|apply L2.ZF|apply L2.ZG|apply L2.ZH|apply L2.Vc|apply L2.ZI|apply L2.ZJ|apply L2.ZK|apply L2.ZL|apply L2.ZM|apply L2.ZN|apply L2.Vd|apply L2.Ve|apply L2.Vf|apply L2.Zz)
  | ((with_reducible refine L2.s_i ?hc ?_);(case hc=>walk_at "cond"))|with_reducible (first|apply L2.UQ|apply L2.UR|apply L2.US)
  | with_reducible exact⟨rfl, rfl⟩|with_reducible exact⟨rfl, L2.aB.refl _⟩|(with_reducible refine L2.Qw ?_ ?_)|walk_at "nxd"
  | with_reducible (first|apply L2.UK|apply L2.Qc|apply L2.Qd|apply L2.Zx|apply L2.s_u|apply L2.UM|apply L2.Zy|apply L2.UN|apply L2.UO|apply L2.Qf|apply L2.UP|apply L2.Lx|apply L2.s_call|apply L2.UT|apply L2.Qg|apply L2.ZA|apply L2.U0|apply L2.U1)
  | ((with_reducible refine L2.Ql ?hz ?_);(case hz=>exact dY rfl);intro _ _ _)|((with_reducible refine L2.Qm ?hz ?_);(case hz=>exact dY rfl);intro _ _ _)
  | ((with_reducible refine L2.cF (xs:=?xs) (v:=?v) ?hS ?hv ?_);(case hS=>walk_at "sq");(case hv=>rfl))|((with_reducible refine L2.sD (xs:=?xs) (v:=?v) ?hS ?hv ?_);(case hS=>walk_at "sq");(case hv=>first|rfl|exact L2.HX _ _))|((with_reducible refine L2.Hw (ch:=?ch) ?hz ?hv ?_);(case hz=>exact dY rfl);(case hv=>rfl))
  | ((with_reducible refine L2.ZC (xs:=?xs) ?hS ?h1 ?h2 ?_);(case hS=>first|exact ao (by walk_at "sq")|exact bQ (by walk_at "sq"));(case h1=>rfl);(case h2=>rfl))|((with_reducible refine L2.U3 (xs:=?xs) ?hS ?h1 ?h2 ?_);(case hS=>first|exact ao (by walk_at "sq")|exact bQ (by walk_at "sq"));(case h1=>rfl);(case h2=>rfl))
  | with_reducible (first|apply L2.Va|apply L2.HB|apply L2.HY)
  | ((with_reducible refine L2.Rb ?hb ?_);(case hb=>omega))|((with_reducible refine L2.U9 ?ha ?hb ?_);(case ha=>omega);(case hb=>omega))|with_reducible (first|apply L2.Qn|apply L2.Ly)
  | ((with_reducible refine L2.LA (xs:=?xs) ?hS ?_);(case hS=>walk_at "sq"))|((with_reducible refine L2.Qv (xs:=?xs) ?hS ?_);(case hS=>walk_at "sq"))
  | ((with_reducible refine L2.Qt (xs:=?xs) ?hS ?hn ?_);(case hS=>walk_at "sq");(case hn=>rfl))|with_reducible (first|apply L2.Lz|apply L2.Qu|apply L2.ZE)
  | ((with_reducible refine L2.U7 (ys:=?ys) ?hS ?_);(case hS=>first|exact ao (by walk_at "sq")|exact bQ (by walk_at "sq")))|((with_reducible refine L2.HA (ys:=?ys) ?hS ?_);(case hS=>first|exact ao (by walk_at "sq")|exact bQ (by walk_at "sq"));intro _ _ _)|with_reducible refine L2.Qp ?_|((with_reducible refine L2.N2 (ty:=?ty) (b:=?b) ?ht ?e ?_);(case ht=>first|exact L2.jl.int _|exact L2.jl.bl _|exact L2.jl.cX|exact L2.jl.str _|exact L2.jl.tup (by walk_at "look")|exact L2.jl.lst (by walk_at "look"));(case e=>rfl))
  | ((with_reducible refine L2.Vb (xs:=?xs) ?hS ?_);(case hS=>walk_at "sq"))|((with_reducible refine L2.Hx (xs:=?xs) ?hl ?hz ?_);(case hl=>walk_at "look");(case hz=>walk_at "len");intro _ _)
  | with_reducible (first|apply L2.QM|apply L2.QN|apply L2.QO|apply L2.LM|apply L2.LN)
  | ((with_reducible refine L2.QS (ys:=?ys) ?hS ?_);(case hS=>walk_at "sq");intro _ _ _)|((with_reducible refine L2.QT (xs:=?xs) ?hS ?hn ?_);(case hS=>walk_at "sq");(case hn=>rfl))
  | ((with_reducible refine L2.Vj (xs:=?xs) (zs:=?zs) ?ha ?hb ?hz ?_);(case ha=>walk_at "look");(case hb=>walk_at "look");(case hz=>walk_at "len");intro _ _ _)
  | ((with_reducible refine L2.HJ (xs:=?xs) (zs:=?zs) ?ha ?hb ?hz ?_);(case ha=>walk_at "look");(case hb=>walk_at "look");(case hz=>walk_at "len");intro _ _)
  | with_reducible refine L2.Vm ?_|((with_reducible refine L2.QU (xs:=?xs) ?hS ?_);(case hS=>walk_at "sq"))|with_reducible refine L2.ZW ?_|((with_reducible refine L2.Vn (xs:=?xs) ?hS ?_);(case hS=>walk_at "sq");intro _ _ _)|with_reducible refine L2.QX ?_|((with_reducible refine L2.jM (xs:=?xs) (j:=?j) ?hl ?hj ?_);(case hl=>walk_at "look");(case hj=>rfl);intro _ _)|with_reducible (first|apply L2.QW|apply L2.HK|apply L2.QY)
  | ((with_reducible refine L2.QV (v:=?v) ?e ?_);(case e=>exact rfl))
  | with_reducible (first|apply L2.QL|apply L2.LK|apply L2.HF|apply L2.ZD|apply L2.U4|apply L2.Q6)
  | ((with_reducible refine L2.Od (kvs:=?kvs) (v:=?v) ?hd ?hv ?_);(case hd=>walk_at "look");(case hv=>rfl))
  | with_reducible (first|apply L2.Vw|apply L2.Q7)
  | ((with_reducible refine L2.VH (kvs:=?kvs) ?hd ?_);(case hd=>walk_at "look"))|with_reducible refine L2.LS ?_|((with_reducible refine L2.ZY (kvs:=?kvs) ?hd ?_);(case hd=>walk_at "look"))|((with_reducible refine L2.Vy (kvs:=?kvs) ?hd ?_);(case hd=>walk_at "look"))
  | with_reducible refine L2.Wf ?_|((with_reducible refine L2.aaw (xs:=?xs) ?hS ?_);(case hS=>walk_at "sq"))|((with_reducible refine L2.s_split ?hy ?hz ?_);(case hy=>decide);(case hz=>walk_at "len");intro _ _ _)|with_reducible (first|apply L2.Ml|apply L2.Mm|apply L2.IW|apply L2.Mt|apply L2.RJ)
  | ((with_reducible refine L2.Mk ?_);intro _ _ _ _)|((with_reducible refine L2.VS (ep:=?ep) (kvs:=?kvs) ?hd ?_);(case hd=>walk_at "look"))|((with_reducible refine L2.RI (ep:=?ep) (kvs:=?kvs) ?hd ?_);(case hd=>walk_at "look"))|((with_reducible refine L2.Mn (ep:=?ep) (kvs:=?kvs) ?hd ?_);(case hd=>walk_at "look");intro _ _ _)
  | with_reducible refine L2.Q8 ?_|((with_reducible refine L2.Vz (kvs:=?kvs) ?hd ?hz ?_);(case hd=>walk_at "look");(case hz=>walk_at "len");intro _ _)
  | ((with_reducible refine L2.Ma ?_);intro _ _ _)|((with_reducible refine L2.Rx (kvs:=?kvs) ?hd ?_);(case hd=>walk_at "look"))
  | ((with_reducible refine L2.Q9 ?_);intro _ _ _)|((with_reducible refine L2.C1 (xs:=?xs) (k:=?k) (y:=?y) ?hl ?h0 ?hk ?hy ?hz ?_);(case hl=>walk_at "look");(case h0=>decide);(case hk=>rfl);(case hy=>rfl);(case hz=>walk_at "len");intro _ _)
  | ((with_reducible refine L2.LU (xs:=?xs) ?hl ?_);(case hl=>walk_at "look");intro _ _)|with_reducible refine L2.Ra ?_|((with_reducible refine L2.VD (x:=?x) ?e ?_);(case e=>exact rfl))|with_reducible (first|apply L2.VE|apply L2.LQ)
  | ((with_reducible refine L2.Q4 (v:=?v) ?hv ?_);(case hv=>rfl))|((with_reducible refine L2.iI (xs:=?xs) ?hS ?hw ?_);(case hS=>walk_at "sq");(case hw=>first|exact(λh=>absurd (show(1 : Nat)=0 from h.1) (by decide))|(intro h;simp only[L2.HT.dz] at h;omega));intro _ _ _)
  | with_reducible (first|apply L2.LP|apply L2.Q3|apply L2.LO)
  | ((with_reducible refine L2.Vt (xs:=?xs) ?hS ?_);(case hS=>walk_at "sq"))
  | ((with_reducible refine L2.CZ (t1:=true) (t2:=true) (xs:=?xs) (ys:=?ys) ?h1 ?h2 ?_);(case h1=>exact(show L2.cM _ _ _ _ from(by walk_at "sq")));(case h2=>exact(show L2.cM _ _ _ _ from(by walk_at "sq"))))
  | ((with_reducible refine L2.CZ (t1:=true) (t2:=false) (xs:=?xs) (ys:=?ys) ?h1 ?h2 ?_);(case h1=>exact(show L2.cM _ _ _ _ from(by walk_at "sq")));(case h2=>exact(show L2.bE _ _ _ _ from(by walk_at "sq"))))
  | ((with_reducible refine L2.CZ (t1:=false) (t2:=true) (xs:=?xs) (ys:=?ys) ?h1 ?h2 ?_);(case h1=>exact(show L2.bE _ _ _ _ from(by walk_at "sq")));(case h2=>exact(show L2.cM _ _ _ _ from(by walk_at "sq"))))
  | ((with_reducible refine L2.CZ (t1:=false) (t2:=false) (xs:=?xs) (ys:=?ys) ?h1 ?h2 ?_);(case h1=>exact(show L2.bE _ _ _ _ from(by walk_at "sq")));(case h2=>exact(show L2.bE _ _ _ _ from(by walk_at "sq"))))
  | with_reducible (first|apply L2.Lv|apply L2.UB|apply L2.UW|apply L2.UX)
  | ((with_reducible refine L2.Qh ?hp ?_);(case hp=>first|assumption|decide|omega))|((with_reducible refine L2.Qi ?hp ?_);(case hp=>first|assumption|decide|omega))|((with_reducible refine L2.Bm ?_ ?_)<;>intro _)
  | ((with_reducible refine L2.Qj ?hp ?_);(case hp=>first|assumption|decide|omega))|((with_reducible refine L2.Qk ?hp ?_);(case hp=>first|assumption|decide|omega))|((with_reducible refine L2.Bo ?_ ?_)<;>intro _)
  | ((with_reducible refine L2.Hy ?hb ?_);(case hb=>rfl))|((with_reducible refine L2.Hz ?hb ?_);(case hb=>rfl))|fail)
local macro_rules | `(tactic| walk_at "go")=>`(tactic| repeat' walk_at "go1")
local macro_rules | `(tactic| walk_at "goq")=>`(tactic| repeat' (first|with_reducible refine L2.aax ?_|with_reducible refine L2.YA ?_|with_reducible refine L2.YB ?_|walk_at "go1"))
local macro_rules | `(tactic| walk_at "start")=>`(tactic| try dsimp only[L2.yi, L2.Cx.GF, L2.Cx.pM])
namespace TG
open PySem L2 PySem.Spec PyProof.Rows
variable {H H':Hp}{n b s x:Int}{i j p k m d q:Nat}{r R:Row}{K:aD}{v:V}{vs us:List V}{rs:List Row}{a f:Addr}{ps:List (Int×Int)}{o:HO}{t:HM.fu}{φ:Heap->Prop}{kvs:fZ}{β α:Type}{ks:List HM.bP}{L:HM.bP->List HM.bP}{F:List (HM.bP×Int)}
set_option maxHeartbeats 4000000
def top(i:Nat):Stmt:=PySem.Challenge.pw_turnguard_k64_whole_thinned.main.body.getD i (.Pass ⟨0,0,0,0⟩)
abbrev vt:Stmt:=top 8
abbrev om:Stmt:=top 9
abbrev qp:Stmt:=top 10
abbrev Dv:Stmt:=top 11
abbrev Dw:Stmt:=top 12
abbrev Dy:Stmt:=top 13
abbrev Je:Stmt:=top 14
abbrev qq:Stmt:=top 15
abbrev vz:Stmt:=top 16
abbrev Dz:Stmt:=top 17
abbrev sV:Stmt:=top 21
abbrev vA:Stmt:=top 22
abbrev kQ:Stmt:=top 23
abbrev vB:Stmt:=top 24
abbrev zq:Stmt:=top 25
abbrev vC:Stmt:=top 26
abbrev DA:Stmt:=top 27
abbrev zu:Stmt:=top 28
abbrev DB:Stmt:=top 29
abbrev zw:Stmt:=top 31
abbrev vD:Stmt:=top 32
abbrev Jg:Stmt:=top 33
abbrev vE:Stmt:=top 34
abbrev lH:Stmt:=top 35
abbrev zx:Stmt:=top 37
abbrev DC:Stmt:=top 38
abbrev lI:Stmt:=top 39
abbrev vF:Stmt:=top 40
abbrev vG:Stmt:=top 42
abbrev DE:Stmt:=top 43
abbrev vH:Stmt:=top 44
abbrev zy:Stmt:=top 45
abbrev Jh:Stmt:=top 46
abbrev Ji:Stmt:=top 47
abbrev s_row:Stmt:=top 48
abbrev Jj:Stmt:=top 49
abbrev qt:Stmt:=top 50
abbrev Jk:Stmt:=top 51
abbrev oq:Stmt:=top 52
abbrev Jl:Stmt:=top 53
abbrev DF:Stmt:=top 54
abbrev ou:Stmt:=top 55
abbrev mP:Stmt:=top 56
abbrev vI:Stmt:=top 57
abbrev OB:Stmt:=top 58
abbrev OC:Stmt:=top 59
def BY:aN ["row"] ["row"] (aC vt):=by walk_at "sc"
def uJ:aN ["row", "part"] ["row", "part"] (aC om):=by walk_at "sc"
def oz:aN ["row", "moved", "numbers"] ["row", "moved"] (aC qp):=by walk_at "sc"
def zA:aN ["row", "boxes"] ["row"] (aC Dv):=by walk_at "sc"
def Jm:aN ["row"] ["row"] (aC Dw):=by walk_at "sc"
def sW:aN ["row", "boxes", "found", "side"] ["row", "boxes"] (aC Dy):=by walk_at "sc"
def iS:aN ["code", "reading", "giving", "ahead", "found", "spot", "coming", "seen", "place"] ["code"] (aC Je):=by walk_at "sc"
def iT:aN ["lists", "found", "some", "thing"] ["lists"] (aC qq):=by walk_at "sc"
def je:aN ["code", "found", "place", "row", "way"] ["code"] (aC vz):=by walk_at "sc"
def Jo:aN ["code"] ["code"] (aC Dz):=by walk_at "sc"
def jy:aN ["row", "things", "lively", "taken", "given", "onward"] ["row", "things", "lively"] (aC sV):=by walk_at "sc"
def ny:aN ["onward", "things", "lively", "found", "way"] ["onward", "things", "lively"] (aC vA):=by walk_at "sc"
def j0:aN ["row", "thing", "taken", "given", "found"] ["row", "thing", "taken", "given"] (aC kQ):=by walk_at "sc"
def fK:aN ["code", "lively", "found", "place", "row", "things", "thing", "later"] ["code"] (aC vB):=by walk_at "sc"
def Fy:aN ["code"] ["code"] (aC zq):=by walk_at "sc"
def sX:aN ["later", "found"] ["later"] (aC vC):=by walk_at "sc"
def jf:aN ["later", "earlier", "waiting", "ready", "found", "harm", "other"] ["later"] (aC DA):=by walk_at "sc"
def l8:aN ["later", "found", "harm", "other"] ["later"] (aC zu):=by walk_at "sc"
def zB:aN ["code", "found"] ["code"] (aC DB):=by walk_at "sc"
def vJ:aN ["code", "place", "row"] ["code", "place"] (aC zw):=by walk_at "sc"
def sY:aN ["code", "place", "moved"] ["code", "place"] (aC vD):=by walk_at "sc"
def l9:aN ["code", "number", "found", "left", "fewer"] ["code", "number"] (aC Jg):=by walk_at "sc"
def BZ:aN ["found", "number"] ["found", "number"] (aC vE):=by walk_at "sc"
def eZ:aN ["code", "number", "left", "place"] ["code", "number"] (aC lH):=by walk_at "sc"
def gX:aN ["code", "looked", "firsts", "hardened", "place", "row", "box"] ["code"] (aC zx):=by walk_at "sc"
def zC:aN ["code", "lively"] ["code"] (aC DC):=by walk_at "sc"
def cV:aN ["code", "looked", "firsts", "many", "place", "row"] ["code", "looked"] (aC lI):=by walk_at "sc"
def B0:aN ["row", "place"] ["row", "place"] (aC vF):=by walk_at "sc"
def B3:aN ["_law_script", "_law_k"] ["_law_script", "_law_k"] (aC vG):=by walk_at "sc"
def zD:aN ["_law_cell", "_law_k", "_law_number"] ["_law_cell", "_law_k"] (aC DE):=by walk_at "sc"
def jg:aN ["_law_script", "_law_many", "_law_found", "_law_k", "_law_cell", "_law_number"] ["_law_script", "_law_many"] (aC vH):=by walk_at "sc"
def mh:aN ["_law_number", "_law_found", "_law_k"] ["_law_number"] (aC zy):=by walk_at "sc"
def wY:aN ["_law_script", "_law_most", "_law_cell"] ["_law_script", "_law_most"] (aC Jh):=by walk_at "sc"
def Mv:aN ["_law_cell", "_law_p", "_law_many", "_law_way"] ["_law_cell", "_law_p", "_law_many", "_law_way"] (aC Ji):=by walk_at "sc"
def kI:aN ["_law_cell", "_law_p", "_law_many", "_law_pool_here", "_law_way", "_law_kind", "_law_side", "_law_rest", "_law_k", "_law_i", "_law_j", "_law_q", "_law_value_of"] ["_law_cell", "_law_p", "_law_many", "_law_pool_here", "_law_way"] (aC s_row):=by walk_at "sc"
def wZ:aN ["_law_script", "_law_many", "_law_way", "_law_pool_here", "_law_numbers_here"] ["_law_script", "_law_many", "_law_way"] (aC Jj):=by walk_at "sc"
def dX:aN ["_law_cell", "_law_p", "_law_many", "_law_pool_here", "_law_way", "_law_kind", "_law_rest", "_law_k", "_law_i", "_law_j", "_law_more", "_law_q"] ["_law_cell", "_law_p", "_law_many", "_law_pool_here", "_law_way"] (aC qt):=by walk_at "sc"
def w4:aN ["_law_rows", "_law_cell", "_law_p"] ["_law_rows", "_law_cell"] (aC Jk):=by walk_at "sc"
def f7:aN ["_law_script", "_law_many", "_law_boxes", "_law_pool_here", "_law_numbers_here", "_law_way", "_law_rows"] ["_law_script", "_law_many", "_law_boxes"] (aC oq):=by walk_at "sc"
def qP:aN ["_law_script", "_law_cell", "_law_code_here"] ["_law_script"] (aC Jl):=by walk_at "sc"
def zE:aN ["_law_row_here", "_law_place", "_law_places"] ["_law_row_here", "_law_place"] (aC DF):=by walk_at "sc"
def uK:aN ["_law_code_here", "_law_p"] ["_law_code_here", "_law_p"] (aC ou):=by walk_at "sc"
def sZ:aN ["_law_code_here", "_law_p"] ["_law_code_here", "_law_p"] (aC mP):=by walk_at "sc"
def cW:aN ["_law_cell", "_law_many", "_law_first", "_law_left", "_law_boxes", "_law_k", "_law_looks", "_law_long", "_law_rows"] ["_law_cell"] (aC vI):=by walk_at "sc"
def lJ:aN ["_law_code_here", "_law_number", "_law_many", "_law_p", "_law_soon"] ["_law_code_here", "_law_number"] (aC OB):=by walk_at "sc"
def kJ:aN ["_law_script", "_law_code_here", "_law_cell", "_law_number", "_law_due_here", "_law_handed", "_law_found"] ["_law_script"] (aC OC):=by walk_at "sc"
set_option genInjectivity false in
set_option genSizeOf false in
set_option genSizeOfSpec false in
structure DG (w:World) (K:aD) (mg:Str->Option Value) where
 oA:Addr
 w5:mg "PARTS" = some (.ref oA)
 oB:Addr
 zF:gW K oB [.str "side", .str "box", .str "value", .str "place"]
 oE:Addr
 zG:gW K oE [.str "side", .str "box", .str "box", .str "place"]
 oF:Addr
 zH:gW K oF [.str "side", .str "sign", .str "box", .str "box", .str "box", .str "place"]
 oG:Addr
 zI:gW K oG [.str "box", .str "place"]
 oH:Addr
 zJ:gW K oH [.str "box", .str "place", .str "place"]
 oJ:Addr
 zK:gW K oJ [.str "box", .str "place"]
 oK:Addr
 zL:gW K oK [.str "place"]
 oM:Addr
 zM:gW K oM [.str "box"]
 w6:yF w K oA [(.inr "num", .ref oB),(.inr "copy", .ref oE),(.inr "op", .ref oF),(.inr "out", .ref oG),(.inr "fork", .ref oH),(.inr "look", .ref oJ),(.inr "mark", .ref oK),(.inr "back", .ref oM)]
set_option genInjectivity false in
set_option genSizeOf false in
set_option genSizeOfSpec false in
structure Txt (w:World) (K:aD) (mg:Str->Option Value) where
 oN:DD K mg "ways_of" vt ["row"]
 gY:DD K mg "numbers_of" om ["row", "part"]
 j3:DD K mg "to_places" qp ["row", "moved"]
 reads:DD K mg "reads" Dv ["row"]
 gives:DD K mg "gives" Dw ["row"]
 zN:DD K mg "spots" Dy ["row", "boxes"]
 live:DD K mg "live" Je ["code"]
 mq:DD K mg "each_once" qq ["lists"]
 leading:DD K mg "leading" vz ["code"]
 meets:DD K mg "meets" Dz ["code"]
 oO:DD K mg "lasts_by" sV ["row", "things", "lively"]
 qQ:DD K mg "at_ways" vA ["onward", "things", "lively"]
 ic:DD K mg "things_behind" kQ ["row", "thing", "taken", "given"]
 qR:DD K mg "lasting" vB ["code"]
 xg:DD K mg "delays" zq ["code"]
 qS:DD K mg "lengths" vC ["later"]
 ended:DD K mg "ended" DA ["later"]
 turned:DD K mg "turned" zu ["later"]
 delay:DD K mg "delay" DB ["code"]
 xh:DD K mg "can_go" zw ["code", "place"]
 without:DD K mg "without" vD ["code", "place"]
 Jp:DD K mg "thin" Jg ["code", "number"]
 oQ:DD K mg "is_soon" vE ["found", "number"]
 gJ:DD K mg "gone_through" lH ["code", "number"]
 xj:DD K mg "harden" zx ["code"]
 looks:DD K mg "looks" DC ["code"]
 iU:DD K mg "first_places" lI ["code", "looked"]
 doubled:DD K mg "doubled" vF ["row", "place"]
 ie:DD K mg "_law_cell_at" vG ["_law_script", "_law_k"]
 mixed:DD K mg "_law_mixed" DE ["_law_cell", "_law_k"]
 numbers:DD K mg "_law_numbers" vH ["_law_script", "_law_many"]
 spread:DD K mg "_law_spread" zy ["_law_number"]
 pool:DD K mg "_law_pool" Jh ["_law_script", "_law_most"]
 goes:DD K mg "_law_goes" Ji ["_law_cell", "_law_p", "_law_many", "_law_way"]
 row:DD K mg "_law_row" s_row ["_law_cell", "_law_p", "_law_many", "_law_pool_here", "_law_way"]
 code:DD K mg "_law_code" Jj ["_law_script", "_law_many", "_law_way"]
 mw:DD K mg "_law_plain_row" qt ["_law_cell", "_law_p", "_law_many", "_law_pool_here", "_law_way"]
 Mw:DD K mg "_law_bent" Jk ["_law_rows", "_law_cell"]
 kK:DD K mg "_law_plain_code" oq ["_law_script", "_law_many", "_law_boxes"]
 Mx:DD K mg "_law_tiny" Jl ["_law_script"]
 moved:DD K mg "_law_moved" DF ["_law_row_here", "_law_place"]
 kL:DD K mg "_law_can_go" ou ["_law_code_here", "_law_p"]
 iz:DD K mg "_law_without" mP ["_law_code_here", "_law_p"]
 qT:DD K mg "_law_windows" vI ["_law_cell"]
 due:DD K mg "_law_due" OB ["_law_code_here", "_law_number"]
 law:DD K mg "law" OC ["_law_script"]
 acC:mg "all" = none
 aay:mg "bool" = none
 B4:mg "dict" = none
 fL:mg "enumerate" = none
 OD:mg "int" = none
 xm:mg "isinstance" = none
 eS:mg "len" = none
 tw:mg "list" = none
 OE:mg "max" = none
 OF:mg "min" = none
 eW:mg "range" = none
 RP:mg "reversed" = none
 Jq:mg "set" = none
 oR:mg "sorted" = none
 acD:mg "str" = none
 DI:mg "tuple" = none
 Jr:mg "zip" = none
 aaz:CI mg "BOTH" 2
 jh:CT K mg "DEEDS" [.str "num", .str "copy", .str "op"]
 jO:CT K mg "ENDS_OF_MARKS" [.str "mark", .str "out", .str "back"]
 jP:CT K mg "ENDS_OF_SPOTS" [.str "look", .str "out", .str "back"]
 fS:DG w K mg
 vK:CT K mg "SIDES" [.int 0,.int 1]
def gK(H H':Hp):Prop:=∀b xs,H b=some (.tup xs)->H' b=some (.tup xs)
def sT(e:aB H H'):gK H H':=λb xs h=>e b _ h
def gK.refl(H:Hp):gK H H:=λ_ _ h=>h
def gK.trans{H1 H2:Hp}(a:gK H H1)(b:gK H1 H2):gK H H2:=λc o h=>b c o (a c o h)
def bV{n:Nat}(h:n<100000):n<sizeLine:=bT h (by decide)
def xo{α:Type}{xs:List α}{i:Int}(h0:0<=i)(h1:i<xs.length):∃v,nE xs i=some v/\v∈xs:=by
 have e:i=((i.toNat:Nat):Int):=by omega
 have h2:i.toNat<xs.length:=by omega
 refine⟨xs[i.toNat],?_,jH h2⟩;have q:nE xs ((i.toNat:Nat):Int)=some xs[i.toNat]:=fO (by simp[h2]);rw[<- e] at q;exact q
def qU{ns:List Int}{i:Int}(h0:0<=i)(h1:i<ns.length):∃v,nE (ns.map V.int) i=some (.int v):=by obtain⟨v,e,m⟩:=xo (xs:=ns.map V.int) h0 (by simpa using h1);obtain⟨n,_,rfl⟩:=aF.mp m;exact⟨n,e⟩
def lK{ns:List Int}{i:Int}(h0:0<=i)(h1:i<ns.length):∃v,nE (ns.map V.int) i=some (.int v)/\v∈ns:=by obtain⟨v,e,m⟩:=xo (xs:=ns.map V.int) h0 (by simpa using h1);obtain⟨n,hn,rfl⟩:=aF.mp m;exact⟨n,e,hn⟩
def bH{a:Int}(h:0<b):0<=a % b/\a % b<b:=⟨Int.emod_nonneg _ (by omega),Int.emod_lt_of_pos _ h⟩
def DJ(K:aD):Sp:=λvs H Q _=>∃(a:Addr)(ns:List Int),vs=[.ref a]/\bE K H a (ns.map V.int)/\ns.length<=63/\∀H',Q (.bl true) H'
inductive Row where
 | num (d k v q:Int)|copy (d k i q:Int)|op (d:Int) (s:Str) (k i j q:Int)|out (i q:Int)|fork (i q p:Int)|look (i q:Int)|mark (q:Int)|back (i:Int)
def Row.key:Row->Str
 | .num .. => "num" | .copy .. => "copy" | .op .. => "op" | .out .. => "out" | .fork .. => "fork" | .look .. => "look" | .mark .. => "mark" | .back .. => "back"
def Row.parts:Row->List Str
 | .num ..=>["side", "box", "value", "place"]|.copy ..=>["side", "box", "box", "place"]|.op ..=>["side", "sign", "box", "box", "box", "place"]|.out ..=>["box", "place"]
 | .fork ..=>["box", "place", "place"]|.look ..=>["box", "place"]|.mark ..=>["place"]|.back ..=>["box"]
def Row.rest:Row->List V
 | .num d k v q=>[.int d,.int k,.int v,.int q]|.copy d k i q=>[.int d,.int k,.int i,.int q]|.op d s k i j q=>[.int d,.str s,.int k,.int i,.int j,.int q]
 | .out i q=>[.int i,.int q]|.fork i q p=>[.int i,.int q,.int p]|.look i q=>[.int i,.int q]|.mark q=>[.int q]|.back i=>[.int i]
def Row.DK:Row->List PyData
 | .num d k v q=>[.int d,.int k,.int v,.int q]|.copy d k i q=>[.int d,.int k,.int i,.int q]|.op d s k i j q=>[.int d,.str s,.int k,.int i,.int j,.int q]
 | .out i q=>[.int i,.int q]|.fork i q p=>[.int i,.int q,.int p]|.look i q=>[.int i,.int q]|.mark q=>[.int q]|.back i=>[.int i]
def Row.vals(r:Row):List V:=.str r.key::r.rest
def Row.data(r:Row):PyData:=.tuple (.str r.key::r.DK)
def Row.ways:Row->List Int
 | .num _ _ _ q=>[q]|.copy _ _ _ q=>[q]|.op _ _ _ _ _ q=>[q]|.out _ q=>[q]|.fork _ q p=>[q,p]|.look _ q=>[q]|.mark q=>[q]|.back _=>[]
def signs:List Str:=["+", "-", "*", "/", "<", "=", "&", "|", "^"]
def xq(d:Int):Prop:=0<=d/\d<3
def fm(d:Int):Prop:=0<=d/\d<8
def isVal(d:Int):Prop:=0<=d/\d<281474976710656
def jQ(n d:Int):Prop:=0<=d/\d<n
def Row.ok(n:Int):Row->Prop
 | .num d k v q=>xq d/\fm k/\isVal v/\jQ n q
 | .copy d k i q=>xq d/\fm k/\fm i/\jQ n q
 | .op d s k i j q=>xq d/\s∈signs/\fm k/\fm i/\fm j/\jQ n q
 | .out i q=>fm i/\jQ n q
 | .fork i q p=>fm i/\jQ n q/\jQ n p
 | .look i q=>fm i/\jQ n q
 | .mark q=>jQ n q
 | .back i=>fm i
def Row.ig(h:r.ok n):∀q∈r.ways,0<=q/\q<n:=by
 cases r<;>simp only[Row.ok] at h<;>simp only[Row.ways,aI,fX,or_false]<;>intro q hq
 .rw[hq];exact h.2.2.2
 .rw[hq];exact h.2.2.2
 .rw[hq];exact h.2.2.2.2.2
 .rw[hq];exact h.2
 .rcases hq with e|e<;>rw[e]
  .exact h.2.1
  .exact h.2.2
 .rw[hq];exact h.2
 .rw[hq];exact h
 .exact hq.elim
def Row.oS(r:Row):r.ways.length<=2:=by cases r<;>simp[Row.ways]
def My:∀s∈(["num", "copy", "op", "out", "fork", "look", "mark", "back"]:List Str),PyData.strOk s=true:=by decide +kernel
def Row.RQ(r:Row):PyData.strOk r.key=true:=by cases r<;>exact My _ (by simp[Row.key])
def Js:∀s∈signs,PyData.strOk s=true:=by decide +kernel
def Row.Mz(h:r.ok n):Sh 1 r.data:=by
 refine Sh.tup λd hd=>?_;rcases aI.mp hd with e|hd
 .rw[e];exact .str r.RQ
 .cases r<;>simp only[Row.DK,aI,fX,or_false] at hd
  case op d s k i j q =>
   rcases hd with e|e|e|e|e|e<;>rw[e]
   .exact .int _
   .exact .str (Js _ h.2.1)
   all_goals exact .int _
  case mark q=>rw[hd];exact .int _
  case back q=>rw[hd];exact .int _
  case out q=>rcases hd with e|e<;>rw[e]<;>exact .int _
  case look q=>rcases hd with e|e<;>rw[e]<;>exact .int _
  case fork q=>rcases hd with e|e|e<;>rw[e]<;>exact .int _
  all_goals rcases hd with e|e|e|e<;>rw[e]<;>exact .int _
def Row.MA(r:Row):qJ K H r.vals (.str r.key::r.DK):=by refine .cons (.str _) ?_;cases r<;>simp only[Row.rest,Row.DK]<;>repeat (first|exact qJ.nil|refine qJ.cons (by first|exact .int _|exact .str _) ?_)
def tD(H:Hp)(v:V)(r:Row):Prop:=∃a,v=.ref a/\H a=some (.tup r.vals)
abbrev Rows(H:Hp):List V->List Row->Prop:=Paired (tD H)
def tD.same(e:aB H H')(h:tD H v r):tD H' v r:=let⟨a,e1,e2⟩:=h;⟨a,e1,e _ _ e2⟩
def tD.ji(e:gK H H')(h:tD H v r):tD H' v r:=let⟨a,e1,e2⟩:=h;⟨a,e1,e _ _ e2⟩
theorem Rows.same(e:aB H H')(h:Rows H vs rs):Rows H' vs rs:=dG (λ_ _ q=>q.same e) h
theorem Rows.ji(e:gK H H')(h:Rows H vs rs):Rows H' vs rs:=dG (λ_ _ q=>q.ji e) h
theorem br{α β:Type}{F:α->β->Prop}:∀{xs:List α}{ys:List β},Paired F xs ys->∀{i:Nat}{x:α},xs[i]?=some x->∃y,ys[i]?=some y/\F x y
 | _,_,.nil,i,x,h=>by simp at h
 | _,_,.cons a t,0,x,h=>by simp at h;subst h;exact⟨_,rfl,a⟩
 | _,_,.cons a t,i+1,x,h=>by obtain⟨y,h1,h2⟩:=br t (i:=i) (x:=x) (by simpa using h);exact⟨y,by simpa using h1,h2⟩
theorem Rows.rd:∀{vs:List V}{rs:List Row},Rows H vs rs->qJ K H vs (rs.map Row.data)
 | _,_,.nil=>.nil
 | _,_,.cons h t=>by obtain⟨a,rfl,e⟩:=h;exact .cons (.tup (cM.of e) (Row.MA _)) (Rows.rd t)
def xr(h:∀r∈rs,r.ok n):Sh 2 (.list (rs.map Row.data)):=Sh.list λd hd=>by obtain⟨r,hr,rfl⟩:=aF.mp hd;exact Row.Mz (h r hr)
def pY{α:Type}{xs:List α}(hn:xs.Nodup){a:α}(hi:xs[i]?=some a)(hj:xs[j]?=some a):i=j:=by
 obtain⟨h1,e1⟩:=fq hi;obtain⟨h2,e2⟩:=fq hj;have q:=k9.mp hn;rcases lW i j with h|h|h
 .exact absurd (e1.trans e2.symm) (q i j h1 h2 h)
 .exact h
 .exact absurd (e2.trans e1.symm) (q j i h2 h1 h)
section
variable {P:Program}{w:World}{K:aD}{mg:Str->Option Value}{base:Heap}
def RS(K:aD):Sp:=λvs H Q _=>∃(a:Addr)(ns:List Int)(k:Int),vs=[.ref a,.int k]/\bE K H a (ns.map V.int)/\0<=k/\∀c:Int,Q (.int c) H
def gr(T:Txt w K mg):b8 P w K mg base gS 1 T.ie.f T.ie.d ["_law_script", "_law_k"] (RS K):=by
 refine T.ie.F.ok B3 (λvs H Q E h=>?_) (λcdv A outer s H vs Q E hr h=>?_)
 .obtain⟨a,ns,k,rfl,_⟩:=h;rfl
 obtain⟨a,ns,k,rfl,hS,h0,q⟩:=h;refine⟨_,(ak (cN (aG iy (pv 1) (aT bI rfl T.eS BT.eO (aa (pv 0) ai)) (aM _))
 (au (aJ (aS bL (pv 0) (pv 1) (λ_ _=>rfl))))
 bw)
 (au (aJ af))),?_⟩
 have hl:(ns.map V.int).length=ns.length:=av _;sleep 63;walk_at "start";walk_at "go"
 .obtain⟨v0,hv0⟩:=qU (ns:=ns) (i:=k) (by omega) (by omega);refine cF hS hv0 ?_;exact q _
 .exact q _
def MB:Sp:=λvs H Q _=>∃(n k:Int),vs=[.int n,.int k]/\∀c,0<=c->c<2147483587->Q (.int c) H
def oU(T:Txt w K mg):b8 P w K mg base gS 1 T.mixed.f T.mixed.d ["_law_cell", "_law_k"] MB:=by
 refine T.mixed.F.ok zD (λvs H Q E h=>?_) (λcdv A outer s H vs Q E hr h=>?_)
 .obtain⟨n,k,rfl,_⟩:=h;rfl
 obtain⟨n,k,rfl,q⟩:=h;refine⟨_,(ak (aE (i:=2) zD.nd rfl (ao rfl) (ay bh (ay aZ (ay aZ (ay ja (ay bh (pv 0) af) (ay aZ af (ay ja af (pv 1)))) (ay ja af (pv 1))) af) af))
 (au (aJ (ay bh (ay ja (pv 2) (pv 2)) af)))),?_⟩
 sleep 53;sleep 6;exact q _ (bH (by decide)).1 (bH (by decide)).2
def Ju:Sp:=λvs H Q _=>∃(n:Int),vs=[.int n]/\∀c,Q (.int c) H
def vL(T:Txt w K mg):b8 P w K mg base gS 2 T.spread.f T.spread.d ["_law_number"] Ju:=by
 refine T.spread.F.ok mh (λvs H Q E h=>?_) (λcdv A outer s H vs Q E hr h=>?_)
 .obtain⟨n,rfl,_⟩:=h;rfl
 obtain⟨n,rfl,q⟩:=h;refine⟨_,(ak (aE (i:=1) mh.nd rfl (ao rfl) af)
 (ak (eK bY rfl (dj rfl T.eW (aa af ai)) (aX (i:=2) mh.nd rfl (ao rfl))
 (au (aE (i:=1) mh.nd rfl (ao rfl) (ay aZ (ay ja (pv 1) af) (aP T.mixed (oU T) hr (aa (pv 0) (aa (pv 2) ai)))))))
 (au (aJ (pv 1))))),?_⟩
 sleep 53;sleep 6;refine qH (λi σ' H'=>H'=H/\∃(m:Int)(x:Option V),σ'=[some (.int n),some (.int m),x]) ?_ ?_ ?_
 .exact⟨rfl,_,_,rfl⟩
 .rintro i σ' H' hi ⟨rfl,m,x,rfl⟩;walk_at "go";refine⟨n,_,rfl,λc c0 c1=>?_⟩;walk_at "go";exact⟨rfl,_,_,rfl⟩
 .rintro σ' H' ⟨rfl,m,x,rfl⟩;walk_at "go";exact q _
def lM{n:Nat}{k:Int}(h0:0<=k)(h:k<n):EM n k=some k.toNat:=by unfold EM;rw[if_pos h0,if_pos h]
def ints_set(ms:List Int)(j:Nat)(v:Int):(ms.map V.int).set j (.int v)=(ms.set j v).map V.int:=by rw[List.map_set]
def RT(K:aD):Sp:=λvs H Q _=>∃(a:Addr)(ns:List Int)(n:Nat),vs=[.ref a,.int n]/\bE K H a (ns.map V.int)/\ns.length<=63/\0<n/\n<=1000 /\
 ∀q H' (ks:List Int),aB H H'->H' q=some (.lst (ks.map V.int))->ks.length=n->Q (.ref q) H'
def tE(T:Txt w K mg):b8 P w K mg base gS 3 T.numbers.f T.numbers.d ["_law_script", "_law_many"] (RT K):=by
 refine T.numbers.F.ok jg (λvs H Q E h=>?_) (λcdv A outer s H vs Q E hr h=>?_)
 .obtain⟨a,ns,n,rfl,_⟩:=h;rfl
 obtain⟨a,ns,n,rfl,hS,hn,h0,h1,q⟩:=h;refine⟨_,(ak (cN (aG dU (ay bh (aP T.ie (gr T) hr (aa (pv 0) (aa af ai))) af) af (aM _))
 (au (aJ (cP (bD.caps (x := "_law_k") (fr:=["_law_script"]) (ix:=[0]) (nm:=["_law_script"]) rfl rfl (by decide +kernel) rfl (by decide +kernel) rfl (by decide +kernel) ⟨rfl,trivial⟩ rfl (by decide +kernel) rfl ⟨⟨rfl,rfl,rfl⟩,trivial⟩) (dj rfl T.eW (aa (pv 1) ai)) (λ_ _ _ _=>cQ) (λ_ _ _ _=>(aP T.ie (gr T) hr (aa (pv 1) (aa (ay aZ af (pv 0)) ai)))))))
 bw)
 (ak (jx (i:=2) jg.nd rfl (ao rfl) (bD.plain rfl (by decide +kernel) (by decide +kernel) rfl (by decide +kernel) rfl) (dj rfl T.eW (aa (pv 1) ai)) (λ_ _ _ _=>cQ) (λ_ _ _ _=>(ay aZ (ay ja af (pv 0)) af)))
 (ak (eK bY rfl (kB rfl T.fL (aa (c6 kr (pv 0) eV (dW af)) ai)) (ng (n:=2) rfl (bG (aX (i:=3) jg.nd rfl (ao rfl)) (bG (aX (i:=4) jg.nd rfl (ao rfl)) gj)))
 (ak (aE (i:=5) jg.nd rfl (ao rfl) (ay aZ (ay ja (aS bL (pv 2) (ay bh (pv 3) (pv 1)) (λ_ _=>rfl)) af) (ay bh (pv 4) af)))
 (au (i9 (ay bh (ay aZ (pv 5) (ay ja af (pv 3))) af) (ko (pv 2) (ay bh (pv 3) (pv 1)) set_list)))))
 (au (aJ (cP (bD.plain rfl (by decide +kernel) (by decide +kernel) rfl (by decide +kernel) rfl) (cJ (pv 2)) (λ_ _ _ _=>cQ) (λ_ _ _ _=>(aP T.spread (vL T) hr (aa (pv 0) ai))))))))),?_⟩
 sleep 208;sleep 6;refine⟨a,ns,0,rfl,hS,by decide,λc=>?_⟩;walk_at "go"
 .refine ia (λi ys H'=>H'=H/\∃ks:List Int,ys=ks.map V.int/\ks.length=i) ⟨rfl,[],rfl,rfl⟩ ?_ ?_
  .rintro i ys H' hi ⟨rfl,ks,rfl,hk⟩;sleep 266;refine⟨a,ns,_,rfl,hS,by omega,λc3=>?_⟩;exact⟨rfl,ks++[_],by rw[bF];rfl,by simp[hk]⟩
  .rintro ys H' ⟨rfl,ks,rfl,hk⟩ p H4 n4;exact q p H4 ks n4.same n4.self (by omega)
 .refine ia (λi ys H'=>H'=H/\∃ks:List Int,ys=ks.map V.int/\ks.length=i) ⟨rfl,[],rfl,rfl⟩ ?_ ?_
  .rintro i ys H' hi ⟨rfl,ks,rfl,hk⟩;sleep 266;exact⟨rfl,ks++[_],by rw[bF];rfl,by simp[hk]⟩
  rintro ys H' ⟨rfl,ks,rfl,hk⟩ f H4 n4;have hk:ks.length=n:=by omega
  walk_at "go";rename_i c5 H5 n5;have RU:=fF (ns.map V.int) none (some 63);rw[av] at RU;have hci:∃ms:List Int,iO (ns.map V.int) none (some 63)=ms.map V.int:=⟨_,by unfold iO;rw[<- List.map_drop,<- List.map_take]⟩;obtain⟨ms,hms⟩:=hci;rw[hms] at n5 RU ⊢;rw[av] at RU;have hne:c5≠f:=λe=>by have h1:=n5.1;rw[e,n4.self] at h1;cases h1
  refine sF (xs:=ms.map V.int) (λi σ' H6=>aB H' H6/\H6 c5=some (.lst (ms.map V.int))/\∃(ks:List Int)(x y z:Option V),σ'=[some (.ref a),some (.int n),some (.ref f),x,y,z]/\H6 f=some (.lst (ks.map V.int))/\ks.length=n) ?_ ?_ ?_ ?_
  .exact⟨n4.same.trans n5.same,n5.self,ks,_,_,_,rfl,n5.keep n4.self,hk⟩
  .rintro i σ' H6 hi ⟨sm,hc,_⟩;exact bE.of hc
  .rintro i x p σ' H6 H7 hx ⟨sm,hc,ks,x1,y1,z1,rfl,hf,hk⟩ n7;sleep 193;have OG:=n7.keep hf;have b:=bH (a:=(i:Int)) (b:=(n:Int)) (by omega);walk_at "go";obtain⟨v,hv⟩:=qU (ns:=ks) (i:=(i:Int) % (n:Int)) b.1 (by omega);refine cF (bE.of OG) hv ?_;walk_at "go";refine jM OG (lM b.1 (by rw[av];omega)) ?_;intro H8 p8;rw[ints_set] at p8;walk_at "go";exact⟨p8.same (sm.trans n7.same) n4.1,p8.keep hne (n7.keep hc),_,_,_,_,rfl,p8.self,by rw[eE];exact hk⟩
  .rintro σ' H6 ⟨sm,hc,ks,x1,y1,z1,rfl,hf,hk⟩;walk_at "go";refine gH (xs:=ks.map V.int) (λi ys H7=>H7=H6/\∃ks:List Int,ys=ks.map V.int/\ks.length=i) ⟨rfl,[],rfl,rfl⟩ ?_ ?_ ?_
   .rintro i ys H7 hi ⟨rfl,_⟩;exact bE.of hf
   .rintro i x ys H7 hx ⟨rfl,ls,rfl,hl⟩;sleep 193;have hi:i<ks.length:=(fq hz).1;sleep 266;refine⟨z,rfl,λc=>?_⟩;exact⟨rfl,ls++[_],by rw[bF];rfl,by simp[hl]⟩
   .rintro ys H7 ⟨rfl,ls,rfl,hl⟩ p H8 n8;exact q p H8 ls (sm.trans n8.same) n8.self (by rw[hl,av,hk])
def RW(K:aD):Sp:=λvs H Q _=>∃(a:Addr)(ns:List Int)(m:Int),vs=[.ref a,.int m]/\bE K H a (ns.map V.int)/\0<m/\m<=1000 /\
 ∀q H' (ks:List Int),aB H H'->H' q=some (.lst (ks.map V.int))->0<ks.length->ks.length<=1000->(∀k∈ks,fm k)->Q (.ref q) H'
def DL(T:Txt w K mg):b8 P w K mg base gS 2 T.pool.f T.pool.d ["_law_script", "_law_most"] (RW K):=by
 refine T.pool.F.ok wY (λvs H Q E h=>?_) (λcdv A outer s H vs Q E hr h=>?_)
 .obtain⟨a,ns,n,rfl,_⟩:=h;rfl
 obtain⟨a,ns,m,rfl,hS,h0,h1,q⟩:=h;refine⟨_,(ak (aE (i:=2) wY.nd rfl (bQ rfl) (aP T.ie (gr T) hr (aa (pv 0) (aa af ai))))
 (iQ (cN (aG dU (ay bh (aP T.ie (gr T) hr (aa (pv 0) (aa af ai))) af) af (aM _))
 (au (aE (i:=2) wY.nd rfl (bQ rfl) (aP T.mixed (oU T) hr (aa (pv 2) (aa af ai)))))
 bw)
 (au (aJ (cP (bD.caps (x := "_law_k") (fr:=["_law_cell"]) (ix:=[2]) (nm:=["_law_cell"]) rfl rfl (by decide +kernel) rfl (by decide +kernel) rfl (by decide +kernel) ⟨rfl,trivial⟩ rfl (by decide +kernel) rfl ⟨⟨rfl,rfl,rfl⟩,trivial⟩) (dj rfl T.eW (aa (ay aZ af (ay bh (pv 2) (pv 1))) ai)) (λ_ _ _ _=>cQ) (λ_ _ _ _=>(ay bh (ay aZ (ay bU (pv 1) af) (ay ja af (pv 0))) af))))))),?_⟩
 sleep 53;sleep 6;refine⟨a,ns,1,rfl,hS,by decide,λc=>?_⟩;walk_at "go";refine qj (λσ' H'=>H'=H/\∃c:Int,σ'=[some (.ref a),some (.int m),some (.int c)]) ?_ ?_
 .walk_at "go";refine⟨a,ns,0,rfl,hS,by decide,λc0=>?_⟩;walk_at "go"
  .refine⟨c,_,rfl,λc2 _ _=>?_⟩;walk_at "go";exact⟨rfl,_,rfl⟩
  .exact⟨rfl,_,rfl⟩
 rintro _ H' ⟨rfl,c,rfl⟩;have b:=bH (a:=c) h0;walk_at "go";refine ia (λi ys H1=>H1=H'/\∃ks:List Int,ys=ks.map V.int/\ks.length=i/\∀k∈ks,fm k) ⟨rfl,[],rfl,rfl,λk h=>nomatch h⟩ ?_ ?_
 .rintro i ys H1 hi ⟨rfl,ks,rfl,hk,hb⟩;sleep 266;refine⟨rfl,ks++[_],by rw[bF];rfl,by simp[hk],λk h=>?_⟩;rcases aO.mp h with h|h
  .exact hb k h
  .rw[aA.mp h];exact bH (by decide)
 .rintro ys H1 ⟨rfl,ks,rfl,hk,hb⟩ p H4 n4;exact q p H4 ks n4.same n4.self (by omega) (by omega) hb
def Jv(h0:0<=s)(h1:s<9):∃ch,nE ("+-*/<=&|^" : Str).cps.toList s=some ch/\(⟨#[ch]⟩:Str)∈signs:=by
 obtain⟨ch,hch,Wg⟩:=xo (xs:=("+-*/<=&|^" : Str).cps.toList) (i:=s) h0 (by show s<9;omega);have all:∀ch∈("+-*/<=&|^" : Str).cps.toList,(⟨#[ch]⟩:Str)∈signs:=by decide
 exact⟨ch,hch,all ch Wg⟩
def picks(part:Str)(xs:List Str)(ys:List V):List V:=((xs.zip ys).filter λx=>decide (x.1=part)).map (·.2)
def B5{part x:Str}{y:V}{xs:List Str}{ys:List V}(hx:xs[i]?=some x)(hy:ys[i]?=some y):picks part (xs.take (i+1)) (ys.take (i+1))=picks part (xs.take i) (ys.take i)++if x=part then[y] else[]:=by
 have h1:i<xs.length:=(fq hx).1;have h2:i<ys.length:=(fq hy).1;unfold picks;rw[cB,cB,hx,hy,List.zip_append (by rw[cG,cG];omega),jE,bF]
 congr 1
 by_cases e:x=part
 .simp[e]
 .simp[e]
def zO(r:Row):picks "place" r.parts r.rest=r.ways.map V.int:=by cases r<;>rfl
def DM(r:Row):r.rest.length=r.parts.length:=by cases r<;>rfl
def vM(r:Row):r.rest.length<=6:=by cases r<;>simp[Row.rest]
def Wh(x:V)(xs:List V):iO (x::xs) (some 1) none=xs:=by
 unfold iO;have e:HT.dz (x::xs).length 0 (some 1)=1:=by rw[show(some (1:Int))=some ((1:Nat):Int) from rfl,HT.qG];simp
 rw[e,HT.yk];simp
def zP(T:Txt w K mg)(r:Row):∃p,e9 [(.inr "num", .ref T.fS.oB),(.inr "copy", .ref T.fS.oE),(.inr "op", .ref T.fS.oF),(.inr "out", .ref T.fS.oG),(.inr "fork", .ref T.fS.oH),(.inr "look", .ref T.fS.oJ),(.inr "mark", .ref T.fS.oK),(.inr "back", .ref T.fS.oM)] (.inr r.key:Key)=some (V.ref p)/\gW K p (r.parts.map V.str):=by
 cases r
 .exact⟨_,rfl,T.fS.zF⟩
 .exact⟨_,rfl,T.fS.zG⟩
 .exact⟨_,rfl,T.fS.zH⟩
 .exact⟨_,rfl,T.fS.zI⟩
 .exact⟨_,rfl,T.fS.zJ⟩
 .exact⟨_,rfl,T.fS.zK⟩
 .exact⟨_,rfl,T.fS.zL⟩
 .exact⟨_,rfl,T.fS.zM⟩
def Fz(K:aD):Sp:=λvs H Q _=>∃(a:Addr)(r:Row)(part:Str),vs=[.ref a,.str part]/\H a=some (.tup r.vals)/\∀p H',aB H H'->H p=none->H' p=some (.lst (picks part r.parts r.rest))->Q (.ref p) H'
def jR(T:Txt w K mg):b8 P w K mg base gS 1 T.gY.f T.gY.d ["row", "part"] (Fz K):=by
 refine T.gY.F.ok uJ (λvs H Q E h=>?_) (λcdv A outer s H vs Q E hr h=>?_)
 .obtain⟨a,r,part,rfl,_⟩:=h;rfl
 obtain⟨a,r,part,rfl,ha,q⟩:=h;refine⟨_,(au (aJ (yC (iR.of (xs:=["own", "number"]) (bD.caps (x := "own") (fr:=["part"]) (ix:=[1]) (nm:=["part"]) rfl rfl (by decide +kernel) rfl (by decide +kernel) rfl (by decide +kernel) ⟨rfl,trivial⟩ rfl (by decide +kernel) rfl ⟨⟨rfl,rfl,rfl⟩,trivial⟩) (by decide +kernel)) (Br rfl T.Jr (aa (yG T.fS.w6 (gh (v:=.ref T.fS.oA) rfl T.fS.w5 rfl) (aS cO (pv 0) af (λ_ _=>rfl)) (λ_ _=>rfl)) (aa (c6 kq (pv 0) (dW af) eV) ai))) (λ_ _ _ _=>(qK (K:=K) rfl (n:=2) rfl (bG (aX (i:=0) (show(["own", "number", "part"]:List Str).Nodup from by decide +kernel) rfl (ao rfl)) (bG (aX (i:=1) (show(["own", "number", "part"]:List Str).Nodup from by decide +kernel) rfl (ao rfl)) gj)))) (λ_ _ _ _=>(nh (aG dU (pv 0) (pv 2) (aM _)))) (λ_ _ _ _=>(pv 1))))),?_⟩;obtain⟨pp,hpp,cp⟩:=zP T r;sleep 63;sleep 6;refine Q4 hpp ?_;walk_at "go";rename_i t H1 n1;have et:iO r.vals (some 1) none=r.rest:=Wh _ _;rw[et] at n1 ⊢;have hlen:=DM r;have hsm:=vM r;refine HU (λi zs τ H'=>aB H1 H'/\zs=picks part (r.parts.take i) (r.rest.take i)/\∃x y,τ=[x,y,some (.str part)]) ?_ ?_ ?_ ?_ ?_
 .exact⟨aB.refl _,by simp[picks],_,_,rfl⟩
 .sleep 235;refine⟨gW.sq cp,cM.of (sm _ _ n1.self),?_⟩;unfold picks;rw[av];refine bJ (i7 _ _) ?_;rw[List.length_zip,cG];omega
 .rw[av];omega
 .rintro i x y p zs τ H' H2 hx hy ⟨sm,rfl,x0,y0,rfl⟩ n2;rw[bz] at hx;obtain⟨x',hx',rfl⟩:=dg.mp hx;have e:=B5 (part:=part) hx' hy;walk_at "go"
  .rename_i he;rw[if_pos he] at e;exact⟨by walk_at "same", e.symm,_,_,rfl⟩
  .rename_i he;rw[if_neg he,iZ] at e;exact⟨by walk_at "same", e.symm,_,_,rfl⟩
 .rintro zs τ H' ⟨sm,rfl,x,y,rfl⟩ p H2 n2;refine q p H2 (by walk_at "same") (by walk_at "free") ?_;rw[n2.self,av,hlen,Nat.min_self,cH,<- hlen,cH]
def RX(K:aD):Sp:=λvs H Q _=>∃(a:Addr)(r:Row),vs=[.ref a]/\H a=some (.tup r.vals)/\∀p H',aB H H'->H p=none->H' p=some (.lst (r.ways.map V.int))->Q (.ref p) H'
def tF(T:Txt w K mg):b8 P w K mg base gS 2 T.oN.f T.oN.d ["row"] (RX K):=by
 refine T.oN.F.ok BY (λvs H Q E h=>?_) (λcdv A outer s H vs Q E hr h=>?_)
 .obtain⟨a,r,rfl,_⟩:=h;rfl
 obtain⟨a,r,rfl,ha,q⟩:=h;refine⟨_,(au (aJ (aP T.gY (jR T) hr (aa (pv 0) (aa bA ai))))),?_⟩;sleep 198;sleep 6;refine⟨a,r, "place", rfl,ha,λp H' sm hp e=>?_⟩;rw[zO] at e;exact q p H' sm hp e
end
def Row.cU(f:Int->Int):Row->Row
 | .num d k v q=>.num d k v (f q)|.copy d k i q=>.copy d k i (f q)|.op d s k i j q=>.op d s k i j (f q)|.out i q=>.out i (f q)|.fork i q p=>.fork i (f q) (f p)|.look i q=>.look i (f q)|.mark q=>.mark (f q)|.back i=>.back i
def Row.FA(f:Int->Int)(r:Row):(r.cU f).key=r.key:=by cases r<;>rfl
def Row.FD(f:Int->Int)(r:Row):(r.cU f).rest.length=r.rest.length:=by cases r<;>rfl
def FE(f:Int->Int)(r:Row):∀(i:Nat)(x:Str)(y:V),r.parts[i]?=some x->r.rest[i]?=some y->(x = "place" /\ ∃z∈r.ways,y=.int z/\(r.cU f).rest[i]?=some (.int (f z)))\/(x ≠ "place" /\ (r.cU f).rest[i]?=some y):=by
 intro i x y hx hy;cases r<;>rcases i with _|_|_|_|_|_|i<;>simp only[Row.parts,Row.rest,List.getElem?_cons_zero,rN,List.getElem?_nil,Option.some.injEq,reduceCtorEq] at hx hy
 all_goals subst hx hy
 all_goals first
  | exact .inl ⟨rfl,_,by simp[Row.ways],rfl,rfl⟩
  | exact .inr ⟨by decide,rfl⟩
def DN{Q:VK}{te:TE}{τ:L2.St}(f:Row->Row)(hS:bE K H a us)(hrs:Rows H us rs)(hz:us.length<=100000)
  (he:∀r∈rs,∀ra H1,aB H H1->H1 ra=some (.tup (Row.vals r))->∀Q:VK,(∀t H2,aB H1 H2->H2 t=some (.tup (f r).vals)->Q (.ref t) H2)->te (some (.ref ra)::τ) H1 Q)
  (h:∀us' p H1 H',aB H H1->eU H1 p (.lst us') H'->Rows H' us' (rs.map f)->Q (.ref p) H'):Bp (KS K a) Lw te τ Q H:=by
 sleep 212;refine gH (xs:=us) (λi ys H'=>aB H H'/\Rows H' ys ((rs.take i).map f)) ⟨aB.refl _,.nil⟩ ?_ ?_ ?_
 .rintro i ys H' hi ⟨sm,_⟩;exact sm.seq hS
 .rintro i x ys H' hx ⟨sm,hys⟩;sleep 142;refine⟨bV (by rw[hys.length,av,cG];omega),?_⟩;refine HK (Lv ?_);obtain⟨r,hr',⟨ra,rfl,tG⟩⟩:=br hrs hx;refine he r (fz hr') ra H' sm (sm _ _ tG) _ λt H2 s2 ht=>⟨sm.trans s2,?_⟩;rw[cB,hr',bF];exact cI (Rows.same s2 hys) ⟨t,rfl,ht⟩
 .rintro ys H' ⟨sm,hys⟩ p H2 n2;rw[qu,cH] at hys;exact h ys p H' H2 sm n2 (hys.same n2.same)
section
variable {P:Program}{w:World}{K:aD}{mg:Str->Option Value}{base:Heap}
def B6(K:aD):Sp:=λvs H Q _=>∃(a m:Addr)(r:Row)(us:List V)(f:Int->Int),vs=[.ref a,.ref m]/\H a=some (.tup r.vals)/\H m=some (.lst us)/\(∀z∈r.ways,nE us z=some (.int (f z)))/\∀t H',aB H H'->H' t=some (.tup (r.cU f).vals)->Q (.ref t) H'
def oW(T:Txt w K mg):b8 P w K mg base gS 1 T.j3.f T.j3.d ["row", "moved"] (B6 K):=by
 refine T.j3.F.ok oz (λvs H Q E h=>?_) (λcdv A outer s H vs Q E hr h=>?_)
 .obtain⟨a,m,r,us,f,rfl,_⟩:=h;rfl
 obtain⟨a,m,r,us,f,rfl,ha,hm,hf,q⟩:=h;refine⟨_,(ak (yH (i:=2) oz.nd rfl (ao rfl) (iR.of (xs:=["part", "number"]) (bD.caps (x := "part") (fr:=["moved"]) (ix:=[1]) (nm:=["moved"]) rfl rfl (by decide +kernel) rfl (by decide +kernel) rfl (by decide +kernel) ⟨rfl,trivial⟩ rfl (by decide +kernel) rfl ⟨⟨rfl,rfl,rfl⟩,trivial⟩) (by decide +kernel)) (Br rfl T.Jr (aa (yG T.fS.w6 (gh (v:=.ref T.fS.oA) rfl T.fS.w5 rfl) (aS cO (pv 0) af (λ_ _=>rfl)) (λ_ _=>rfl)) (aa (c6 kq (pv 0) (dW af) eV) ai))) (λ_ _ _ _=>(qK (K:=K) rfl (n:=2) rfl (bG (aX (i:=0) (show(["part", "number", "moved"]:List Str).Nodup from by decide +kernel) rfl (ao rfl)) (bG (aX (i:=1) (show(["part", "number", "moved"]:List Str).Nodup from by decide +kernel) rfl (ao rfl)) gj)))) (λ_ _ _ _=>cQ) (λ_ _ _ _=>(f6 (aG dU (pv 0) bA (aM _)) (aS (gI (K:=K) rfl) (pv 2) (pv 1) (λ_ _=>rfl)) (pv 1))))
 (au (aJ (dw u9 rfl T.DI BT.CQ (aa (ay sj (dM (aa (aS cO (pv 0) af (λ_ _=>rfl)) ai)) (pv 2)) ai))))),?_⟩
 obtain⟨pp,hpp,cp⟩:=zP T r;sleep 53;sleep 6;refine Q4 hpp ?_;walk_at "go";rename_i t H3 n3;have et:iO r.vals (some 1) none=r.rest:=Wh _ _;rw[et] at n3 ⊢;have hlen:=DM r;have hsm:=vM r;have hml:=Row.FD f r;have hm3:=n3.keep hm;refine HU (λi zs τ H'=>aB H3 H'/\zs=(r.cU f).rest.take i/\∃x y,τ=[x,y,some (.ref m)]) ?_ ?_ ?_ ?_ ?_
 .exact⟨aB.refl _,rfl,_,_,rfl⟩
 .sleep 235;refine⟨gW.sq cp,cM.of (sm _ _ n3.self),?_⟩;rw[cG];omega
 .rw[av];omega
 .rintro i x y p zs τ H' H4 hx hy ⟨sm,rfl,x0,y0,rfl⟩ n4;rw[bz] at hx;obtain⟨x',hx',rfl⟩:=dg.mp hx;have YC:H4 m=some (.lst us):=n4.keep (sm _ _ hm3);rcases FE f r i x' y hx' hy with⟨rfl,z,hz,rfl,e⟩|⟨hne,e⟩
  .walk_at "go";refine cF (bE.of YC) (hf z hz) ?_;refine⟨sm.trans n4.same,?_,_,_,rfl⟩;rw[cB,e];rfl
  .walk_at "go";refine⟨sm.trans n4.same,?_,_,_,rfl⟩;rw[cB,e];rfl
 .rintro zs τ H' ⟨sm,rfl,x,y,rfl⟩ p H4 n4;rw[av,hlen,Nat.min_self,<- hlen,<- hml,cH] at n4;have Wi:H4 a=some (.tup r.vals):=n4.keep (sm _ _ (n3.keep ha));walk_at "go";rename_i l5 H5 n5 l6 H6 n6 l7 H7 n7;refine q _ _ ((((n3.same.trans sm).trans n4.same).trans n5.same).trans (n6.same.trans n7.same)) ?_;rw[n7.self];show _=some (HO.tup (.str (r.cU f).key::(r.cU f).rest));rw[Row.FA];rfl
end
def Row.mQ:Row->List Int
 | .num _ k _ _=>[k]|.copy _ k i _=>[k,i]|.op _ _ k i j _=>[k,i,j]|.out i _=>[i]|.fork i _ _=>[i]|.look i _=>[i]|.mark _=>[]|.back i=>[i]
def Row.gD:Row->Bool
 | .num ..=>true|.copy ..=>true|.op ..=>true|_=>false
def Row.sd:Row->Int
 | .num d _ _ _=>d|.copy d _ _ _=>d|.op d _ _ _ _ _=>d|_=>2
def vN(r:Row):picks "box" r.parts r.rest=r.mQ.map V.int:=by cases r<;>rfl
def lN(h:r.ok n):∀b∈r.mQ,0<=b/\b<8:=by
 cases r<;>simp only[Row.ok] at h<;>simp only[Row.mQ,aI,fX,or_false]<;>intro b hb
 .rw[hb];exact h.2.1
 .rcases hb with e|e<;>rw[e]
  .exact h.2.1
  .exact h.2.2.1
 .rcases hb with e|e|e<;>rw[e]
  .exact h.2.2.1
  .exact h.2.2.2.1
  .exact h.2.2.2.2.1
 .rw[hb];exact h.1
 .rw[hb];exact h.1
 .rw[hb];exact h.1
 .exact hb.elim
 .rw[hb];exact h
def MC(r:Row):r.mQ.length<=3:=by cases r<;>simp[Row.mQ]
abbrev bR(H:Hp):List V->List (Int×Int)->Prop:=Paired λv p=>∃a,v=.ref a/\H a=some (.tup [.int p.1,.int p.2])
def bR.same(e:aB H H')(h:bR H vs ps):bR H' vs ps:=dG (λ_ _ ⟨a,h1,h2⟩=>⟨a,h1,e _ _ h2⟩) h
def bR.ji(e:gK H H')(h:bR H vs ps):bR H' vs ps:=dG (λ_ _ ⟨a,h1,h2⟩=>⟨a,h1,e _ _ h2⟩) h
def gM(r:Row)(s:Int):Bool:=!r.gD||decide (r.sd=s)||decide (r.sd=2)
def kM(r:Row)(bs:List Int):List (Int×Int):=[0,1].flatMap λs=>if gM r s then(SN.fk bs).map λb=>(s,b) else[]
def qV(r:Row):uz (.str r.key) [.str "num", .str "copy", .str "op"]=r.gD:=by
 have k:∀x∈(["num", "copy", "op"]:List Str),uz (.str x) [.str "num", .str "copy", .str "op"]=true:=by decide +kernel
 have n:∀x∈(["out", "fork", "look", "mark", "back"]:List Str),uz (.str x) [.str "num", .str "copy", .str "op"]=false:=by decide +kernel
 cases r<;>first|exact k _ (by simp[Row.key])|exact n _ (by simp[Row.key])
def MD(h:r.gD=true):nE r.vals 1=some (.int r.sd):=by cases r<;>first|rfl|cases h
def ME(d s:Int):uz (.int d) [.int s,.int 2]=(decide (d=s)||decide (d=2)):=by simp only[uz,jD,List.any_nil,Bool.or_false,Lq];rw[show(s==d)=decide (d=s) from by rw[Bool.beq_comm];rfl,show((2:Int)==d)=decide (d=2) from by rw[Bool.beq_comm];rfl]
def B7(r:Row)(bs:List Int)(h:([0,1]:List Int)[i]?=some s):(([0,1]:List Int).take (i+1)).flatMap (λs=>if gM r s then(SN.fk bs).map λb=>(s,b) else[])=(([0,1]:List Int).take i).flatMap (λs=>if gM r s then(SN.fk bs).map λb=>(s,b) else[])++if gM r s then(SN.fk bs).map λb=>(s,b) else[]:=by rw[cB,h,List.flatMap_append];simp
def j4(ns:List Int):(SN.fk ns).length<=8:=by unfold SN.fk;rw[av];exact bJ (i7 ..) (by simp)
theorem gZ{α β:Type}{F:α->β->Prop}:∀{xs:List α}{ys:List β}{xs':List α}{ys':List β},Paired F xs ys->Paired F xs' ys'->Paired F (xs++xs') (ys++ys')
 | _,_,_,_,.nil,h=>h
 | _,_,_,_,.cons a t,h=>.cons a (gZ t h)
section
variable {P:Program}{w:World}{K:aD}{mg:Str->Option Value}{base:Heap}
def DO:Sp:=λvs H Q _=>∃(a b:Addr)(r:Row)(bs:List Int),vs=[.ref a,.ref b]/\H a=some (.tup r.vals)/\H b=some (.lst (bs.map V.int))/\(∀n∈bs,0<=n/\n<8)/\bs.length<=3 /\
 ∀(l:Addr)(us:List V)(H':Hp),aB H H'->H l=none->H' l=some (.lst us)->bR H' us (kM r bs)->Q (.ref l) H'
def zQ(T:Txt w K mg):b8 P w K mg base gS 1 T.zN.f T.zN.d ["row", "boxes"] DO:=by
 refine T.zN.F.ok sW (λvs H Q E h=>?_) (λcdv A outer s H vs Q E hr h=>?_)
 .obtain⟨a,b,r,bs,rfl,_⟩:=h;rfl
 obtain⟨a,b,r,bs,rfl,ha,hb,K1,Wj,q⟩:=h;refine⟨_,(ak (aE (i:=2) sW.nd rfl (ao rfl) (dM ai))
 (ak (eK bY rfl (GJ (gh (v:=.ref T.vK.a) rfl T.vK.c rfl)) (aX (i:=3) sW.nd rfl (bQ rfl))
 (au (cN (PW.pt (rY (aG nL (aS cO (pv 0) af (λ_ _=>rfl)) (gh (v:=.ref T.jh.a) rfl T.jh.c rfl) (by with_unfolding_all rfl)) (pL (aG gU (aS cO (pv 0) af (λ_ _=>rfl)) (bB (aa (pv 3) (aa (gh (v:=.int 2) rfl T.aaz.c ⟨_,rfl⟩) ai))) (by with_unfolding_all rfl)))))
 (au (fj (jw dR nF nG jW (pv 2) (aa (cP (bD.caps (x := "box") (fr:=["side"]) (ix:=[3]) (nm:=["side"]) rfl rfl (by decide +kernel) rfl (by decide +kernel) rfl (by decide +kernel) ⟨rfl,trivial⟩ rfl (by decide +kernel) rfl ⟨⟨rfl,rfl,rfl⟩,trivial⟩) (cJ (aT (sL rfl) rfl T.oR BT.nU (aa (dw (vm rfl) rfl T.Jq BT.CS (aa (pv 1) ai)) ai))) (λ_ _ _ _=>cQ) (λ_ _ _ _=>(bB (aa (pv 1) (aa (pv 0) ai))))) ai))))
 bw)))
 (au (aJ (pv 2))))),?_⟩
 sleep 125;have cd:=T.jh.q;have cs:=T.vK.q;sleep 6;rename_i fo H1 n1;have ffo:=n1.1;have Wk:=n1.self;have s1:=n1.same;clear n1;refine f_tup (xs:=[.int 0,.int 1]) (λi σ' H'=>∃x us,σ'=[some (.ref a),some (.ref b),some (.ref fo),x]/\aB H H'/\H' fo=some (.lst us)/\bR H' us ((([0,1]:List Int).take i).flatMap λs=>if gM r s then(SN.fk bs).map λb=>(s,b) else[])) ?_ ?_ ?_ ?_
 .exact⟨none,[],rfl,s1,Wk,.nil⟩
 .rintro i σ' H' _ ⟨x,us,rfl,s',_⟩;exact gW.sq cs
 .rintro i x σ' H2 hx ⟨x0,us,rfl,s2,Jw,pQ⟩;obtain⟨s,hs,rfl⟩:∃s,([0,1]:List Int)[i]?=some s/\x=.int s:=by
   match i,hx with
   | 0,hx=>cases hx;exact⟨0,rfl,rfl⟩
   | 1,hx=>cases hx;exact⟨1,rfl,rfl⟩
  have step:=B7 r bs hs;have qu:us.length<=16:=by
   have h1:=pQ.length;rw[h1];have h8:=j4 bs
   match i,hs with
   | 0,_=>exact aH _
   | 1,_ =>
    show(([0]:List Int).flatMap _).length<=16;rw[List.flatMap_singleton];split
    .rw[av];omega
    .exact aH _
  clear Wk s1;refine Vc ?_;refine Oh ?_;intro Wc Wd zo uI;have hK:∀H',aB H2 H'->H' fo=some (.lst us)->gM r s=true->Wc H':=λH3 s3 Jx Wl=>by
   refine zo _ ?_;clear zo uI;rw[Wl,if_pos rfl] at step;have YD:=s3 _ _ (s2 _ _ hb);have FF:=pQ.same s3;walk_at "go";refine Rq (bE.of YD) K1 (by omega) ?_;intro p4 H4 n4;walk_at "go";refine Dc n4.self K1 ?_;intro p5 H5 n5;walk_at "go";refine gH (xs:=(SN.fk bs).map V.int) (λj ys H'=>aB H5 H'/\bR H' ys (((SN.fk bs).take j).map λb=>(s,b))) ⟨aB.refl _,.nil⟩ ?_ ?_ ?_
   .rintro j ys H' _ ⟨s',_⟩;exact bE.of (s' _ _ n5.self)
   .rintro j x ys H6 hx ⟨s6,hys⟩;rw[bz] at hx;obtain⟨y,hy,rfl⟩:=dg.mp hx;sleep 231;have h8:=j4 bs;sleep 66;rename_i t7 H7 n7;refine⟨s6.trans n7.same,?_⟩;rw[cB,hy,bF];exact cI (hys.same n7.same) ⟨t7,rfl,n7.self⟩
   rintro ys H6 ⟨s6,hys⟩ p7 H7 n7;rw[av,cH] at hys;have hyl:=hys.length;rw[av] at hyl;have h8:=j4 bs;have aaA:=n7.keep (s6 _ _ (n5.keep (n4.keep Jx)));have RY:=((n4.same.trans n5.same).trans s6).trans n7.same;have aaB:=FF.same RY;have RZ:=hys.same n7.same;have hp7:=n7.self;have npf:fo≠p7:=aW (s6 _ _ (n5.keep (n4.keep Jx))) n7.1;have s07:=(s2.trans s3).trans RY;clear n4 n5 s6 n7 hys FF Jx YD RY;walk_at "go";rename_i H8 p8;have tt:gK H7 H8:=λb xs e=>p8.keep (rW e aaA (by intro z;cases z)) e;refine⟨_,_,rfl,p8.same s07 ffo,p8.self,?_⟩;rw[step];exact gZ (aaB.ji tt) (RZ.ji tt)
  clear zo;have hN:∀H',aB H2 H'->H' fo=some (.lst us)->gM r s=false->Wd H':=λH3 s3 Jx Wl=>by refine uI _ ?_;clear uI;rw[Wl] at step;walk_at "go";refine⟨_,_,rfl,s2.trans s3,Jx,?_⟩;rw[step];simpa using pQ.same s3
  clear uI pQ step;have ha2:=s2 _ _ ha;have hdi:=qV r;walk_at "go";rw[hdi];cases qo:r.gD with
  | false =>
   sleep 164;exact hK H2 (aB.refl _) Jw (by unfold gM;rw[qo];rfl)
  | true =>
   sleep 54;walk_at "go";refine sD (cM.of ha2) (MD qo) ?_;sleep 172;have esd:uz (.int r.sd) [.int s,.int 2]=gM r s:=by rw[ME];unfold gM;rw[qo];rfl
   rw[esd];cases hsr:gM r s with
   | true=>rw[if_pos rfl];exact hK H4 n4.same (n4.keep Jw) hsr
   | false=>rw[if_neg (by decide)];exact hN H4 n4.same (n4.keep Jw) hsr
 .rintro σ' H2 ⟨x0,us,rfl,s2,Jw,pQ⟩;walk_at "go";exact q fo us H2 s2 ffo Jw pQ
def Row.FG(r:Row):List Int:=if r.gD then r.mQ.drop 1 else r.mQ
def dO(r:Row):List (Int×Int):=kM r r.FG
def bO(r:Row):List (Int×Int):=if r.gD then kM r (r.mQ.take 1) else[]
def qW:∀b∈r.FG,b∈r.mQ:=λb hb=>by
 unfold Row.FG at hb;split at hb
 .exact List.mem_of_mem_drop hb
 .exact hb
def MF(r:Row):r.FG.length<=3:=by
 have:=MC r;unfold Row.FG;split
 .rw[rR];omega
 .exact this
def MG:Sp:=λvs H Q _=>∃(a:Addr)(r:Row)(n:Int),vs=[.ref a]/\H a=some (.tup r.vals)/\r.ok n/\∀(l:Addr)(us:List V)(H':Hp),aB H H'->H l=none->H' l=some (.lst us)->bR H' us (dO r)->Q (.ref l) H'
def zR(T:Txt w K mg):b8 P w K mg base gS 2 T.reads.f T.reads.d ["row"] MG:=by
 refine T.reads.F.ok zA (λvs H Q E h=>?_) (λcdv A outer s H vs Q E hr h=>?_)
 .obtain⟨a,r,n,rfl,_⟩:=h;rfl
 obtain⟨a,r,n,rfl,ha,hok,q⟩:=h;refine⟨_,(ak (aE (i:=1) zA.nd rfl (ao rfl) (aP T.gY (jR T) hr (aa (pv 0) (aa bA ai))))
 (au (aJ (aP T.zN (zQ T) hr (aa (pv 0) (aa (f6 (aG gU (aS cO (pv 0) af (λ_ _=>rfl)) (gh (v:=.ref T.jh.a) rfl T.jh.c rfl) (by with_unfolding_all rfl)) (c6 kr (pv 1) (dW af) eV) (pv 1)) ai)))))),?_⟩
 sleep 63;have cd:=T.jh.q;have hdi:=qV r;sleep 6;sleep 194;have fin:∀(c:Addr)(H2:Hp),aB H H2->H2 a=some (.tup r.vals)->H2 c=some (.lst (r.FG.map V.int))->DO [.ref a,.ref c] H2 Q E0:=λc H2 s2 ha2 hc=>⟨a,c,r,r.FG,rfl,ha2,hc,λb hb=>lN hok b (qW b hb),MF r,λl us H3 s3 fl hl pQ=>q l us H3 (s2.trans s3) (s2.free fl) hl pQ⟩;walk_at "go";rw[hdi];cases qo:r.gD with
 | true =>
  rw[if_pos rfl];walk_at "go";rename_i c H2 n2;have ec:iO (r.mQ.map V.int) (some 1) none=r.FG.map V.int:=by unfold Row.FG;rw[qo,if_pos rfl];cases r<;>first|rfl|cases qo
  rw[ec] at n2;exact fin c H2 (s1.trans n2.same) (n2.keep ha1) n2.self
 | false =>
  sleep 105;walk_at "go";exact fin p H1 s1 ha1 (by unfold Row.FG;rw[qo];exact hp)
def MH:Sp:=λvs H Q _=>∃(a:Addr)(r:Row)(n:Int),vs=[.ref a]/\H a=some (.tup r.vals)/\r.ok n/\∀(l:Addr)(us:List V)(H':Hp),aB H H'->H l=none->H' l=some (.lst us)->bR H' us (bO r)->Q (.ref l) H'
def zS(T:Txt w K mg):b8 P w K mg base gS 2 T.gives.f T.gives.d ["row"] MH:=by
 refine T.gives.F.ok Jm (λvs H Q E h=>?_) (λcdv A outer s H vs Q E hr h=>?_)
 .obtain⟨a,r,n,rfl,_⟩:=h;rfl
 obtain⟨a,r,n,rfl,ha,hok,q⟩:=h;refine⟨_,(au (aJ (f6 (aG gU (aS cO (pv 0) af (λ_ _=>rfl)) (gh (v:=.ref T.jh.a) rfl T.jh.c rfl) (by with_unfolding_all rfl)) (aP T.zN (zQ T) hr (aa (pv 0) (aa (c6 kr (aP T.gY (jR T) hr (aa (pv 0) (aa bA ai))) eV (dW af)) ai))) (dM ai)))),?_⟩;sleep 198;have cd:=T.jh.q;have hdi:=qV r;sleep 6;rw[hdi];cases qo:r.gD with
 | true =>
  rw[if_pos rfl];walk_at "go";sleep 194;walk_at "go";rename_i c H2 n2;have ec:iO (r.mQ.map V.int) none (some 1)=(r.mQ.take 1).map V.int:=by cases r<;>rfl
  rw[ec] at n2;refine⟨a,c,r,r.mQ.take 1,rfl,n2.keep ha1,n2.self,λb hb=>lN hok b (List.mem_of_mem_take hb),by rw[cG];omega,λl us H3 s3 fl hl pQ=>q l us H3 ((s1.trans n2.same).trans s3) ((s1.trans n2.same).free fl) hl ?_⟩;unfold bO;rw[qo];exact pQ
 | false =>
  sleep 105;sleep 216;unfold bO;rw[qo];exact .nil
end
inductive cE (rs:List Row) (p:Int×Int):Nat->Prop
 | here {k:Nat} {r:Row} (h:rs[k]?=some r) (m:p∈dO r):cE rs p k
 | on {k q:Nat} {r:Row} (h:rs[k]?=some r) (m:p∉bO r) (w:((q:Nat):Int)∈r.ways) (l:cE rs p q):cE rs p k
def cE.lt{rs:List Row}{p:Int×Int}{k:Nat}(h:cE rs p k):k<rs.length:=by
 cases h with
 | here h _=>exact(fq h).1
 | on h _ _ _=>exact(fq h).1
def cE.read{p:Int×Int}(h:cE rs p k):∃r∈rs,p∈dO r:=by
 induction h with
 | here h m=>exact⟨_,fz h,m⟩
 | on _ _ _ _ ih=>exact ih
def jz{p:Int×Int}{S:Nat->Prop}(h1:∀k r,rs[k]?=some r->p∈dO r->S k)(h2:∀(k q:Nat) r,rs[k]?=some r->p∉bO r->((q:Nat):Int)∈r.ways->S q->S k):∀k,cE rs p k->S k:=by
 intro k h;induction h with
 | here h m=>exact h1 _ _ h m
 | on h m w _ ih=>exact h2 _ _ _ h m w ih
def isLive(rs:List Row)(k:Nat)(p:Int×Int):Bool:=@decide (cE rs p k) (Classical.propDecidable _)
def g6{p:Int×Int}:isLive rs k p=true↔cE rs p k:=by unfold isLive;exact @decide_eq_true_iff _ (Classical.propDecidable _)
def cR:List (Int×Int):=[(0,0),(0,1),(0,2),(0,3),(0,4),(0,5),(0,6),(0,7),(1,0),(1,1),(1,2),(1,3),(1,4),(1,5),(1,6),(1,7)]
def jA(rs:List Row)(k:Nat):List (Int×Int):=cR.filter (isLive rs k)
def zT:cR.Pairwise (λp q=>SN.rk p<SN.rk q):=by decide
def zU{p:Int×Int}(h1:p.1=0\/p.1=1)(h2:0<=p.2/\p.2<8):p∈cR:=by
 obtain⟨a,b⟩:=p;dsimp only at h1 h2;have hb:b=0\/b=1\/b=2\/b=3\/b=4\/b=5\/b=6\/b=7:=by omega
 rcases h1 with rfl|rfl<;>rcases hb with rfl|rfl|rfl|rfl|rfl|rfl|rfl|rfl<;>decide
def zV{bs:List Int}(hb:∀b∈bs,0<=b/\b<8){p:Int×Int}(h:p∈kM r bs):p∈cR:=by
 unfold kM at h;obtain⟨s,hs,h⟩:=mY.mp h;split at h
 .obtain⟨b,hb1,rfl⟩:=aF.mp h;refine zU ?_ (hb b ((SN.iX hb b).mp hb1));simp only[aI,fX,or_false] at hs;exact hs
 .exact nomatch h
def reads_in{n:Int}(h:r.ok n){p:Int×Int}(hp:p∈dO r):p∈cR:=zV (λb hb=>lN h b (qW b hb)) hp
theorem DP:∀{xs ys:List (Int×Int)},xs.Pairwise (λp q=>SN.rk p<SN.rk q)->ys.Pairwise (λp q=>SN.rk p<SN.rk q)->(∀p,p∈xs↔p∈ys)->xs=ys
 | [],[],_,_,_=>rfl
 | [],y::ys,_,_,h=>absurd ((h y).mpr (by simp)) (by simp)
 | x::xs,[],_,_,h=>absurd ((h x).mp (by simp)) (by simp)
 | x::xs,y::ys,hx,hy,h=>by
  sleep 55;refine DP hx.2 hy.2 λp=>⟨λhp=>?_,λhp=>?_⟩
  .rcases aI.mp ((h p).mp (by simp[hp])) with e|h1
   .have:=hx.1 p hp;rw[e] at this;omega
   .exact h1
  .rcases aI.mp ((h p).mpr (by simp[hp])) with e|h1
   .have:=hy.1 p hp;rw[e] at this;omega
   .exact h1
def MI{n:Int}(hok:∀r∈rs,r.ok n){qs:List (Int×Int)}(hup:qs.Pairwise (λp q=>SN.rk p<SN.rk q))(hm:∀p,p∈qs↔∃r∈rs,p∈dO r)(k:Nat):qs.filter (isLive rs k)=jA rs k:=by refine DP (hup.sublist List.filter_sublist) (zT.sublist List.filter_sublist) λp=>?_;rw[dJ];unfold jA;rw[dJ];refine⟨λ⟨h1,h2⟩=>⟨?_,h2⟩,λ⟨h1,h2⟩=>⟨(hm p).mpr (g6.mp h2).read,h2⟩⟩;obtain⟨r,hr,hp⟩:=(hm p).mp h1;exact reads_in (hok r hr) hp
def lO(rs:List Row)(k:Nat):(jA rs k).length<=16:=bJ (i7 _ _) (by decide)
theorem j5{α:Type}[DecidableEq α]:∀{xs ys:List α},xs.Nodup->(∀x∈xs,x∈ys)->xs.length<=ys.length
 | [],_,_,_=>aH _
 | x::xs,ys,h,q=>by rw[iE] at h;have hx:=q x (by simp);have:=j5 (ys:=ys.erase x) h.2 λy hy=>(List.mem_erase_of_ne (λ(e:y=x)=>h.1 (by rw[<- e];exact hy))).mpr (q y (by simp[hy]));sleep 181
def Wm{p q:Int×Int}(h:SN.rk p<SN.rk q):p≠q:=λe=>by rw[e] at h;omega
def Jy(p:Int×Int):putK (ps.map λp=>(uw p,V.bl true)) (uw p) (.bl true)=(if p∈ps then ps else ps++[p]).map λp=>(uw p,V.bl true):=by
 have hany:((ps.map λp=>(uw p,V.bl true)).any λkv=>decide (kv.1=uw p))=decide (p∈ps):=by
  induction ps with
  | nil=>rfl
  | cons x ps ih =>
   rw[cj,jD,ih];by_cases e:x=p
   .simp[e]
   .have e1:¬uw x=uw p:=λz=>e (L7 z);have e2:¬p=x:=λz=>e z.symm;simp[e1,e2]
 unfold putK;rw[hany];by_cases h:p∈ps
 .rw[if_pos (decide_eq_true h),if_pos h,fU];refine List.map_congr_left λx _=>?_;show(if uw x=uw p then(uw x,V.bl true) else(uw x,V.bl true))=_;split<;>rfl
 .rw[if_neg (by simpa using h),if_neg h,bF];rfl
def cnt(rs:List Row)(j:Nat):Nat:=(rs.map λr=>r.ways.count (j:Int)).sum
def Jz(h:rs[i]?=some r)(j:Nat):cnt (rs.take (i+1)) j=cnt (rs.take i) j+r.ways.count (j:Int):=by unfold cnt;rw[cB,h,bF,List.sum_append];simp
def Led(rs:List Row)(i j:Nat)(x:Int):Prop:=∃k r,k<i/\x=((k:Nat):Int)/\rs[k]?=some r/\((j:Nat):Int)∈r.ways
def Led.succ(h:rs[i]?=some r):Led rs (i+1) j x↔Led rs i j x\/(x=((i:Nat):Int)/\((j:Nat):Int)∈r.ways):=by
 constructor
 .rintro⟨k,r',h1,h2,h3,h4⟩;by_cases e:k=i
  .subst e;rw[h] at h3;sleep 259
  .exact .inl ⟨k,r',by omega,h2,h3,h4⟩
 .rintro(⟨k,r',h1,h2,h3,h4⟩|⟨h1,h2⟩)
  .exact⟨k,r',by omega,h2,h3,h4⟩
  .exact⟨i,r,by omega,h1,h,h2⟩
def tH(H:Hp)(rs:List Row)(as:List Addr):Prop:=∀(j:Nat) a,as[j]?=some a->∃l:List Int,H a=some (.lst (l.map V.int))/\l.length<=2*rs.length/\∀x,x∈l↔Led rs rs.length j x
def Wn(H:Hp)(rs:List Row)(as:List Addr):Prop:=∀(j:Nat) a,as[j]?=some a->∃l:List Int,H a=some (.lst (l.map V.int))/\l.length=cnt rs j
def tH.same{as:List Addr}(e:aB H H')(h:tH H rs as):tH H' rs as:=λj a ha=>by obtain⟨l,h1,h2⟩:=h j a ha;exact⟨l,e _ _ h1,h2⟩
section
variable {P:Program}{w:World}{K:aD}{mg:Str->Option Value}{base:Heap}
def MJ(K:aD):Sp:=λvs H Q _=>∃(p:Addr)(us:List V)(rs:List Row),vs=[.ref p]/\H p=some (.lst us)/\Rows H us rs/\(∀r∈rs,r.ok rs.length)/\rs.length<=1000 /\
 ∀f H' (as:List Addr),aB H H'->H' f=some (.lst (as.map V.ref))->as.length=rs.length->tH H' rs as->Wn H' rs as->Q (.ref f) H'
def qv(T:Txt w K mg):b8 P w K mg base gS 3 T.leading.f T.leading.d ["code"] (MJ K):=by
 refine T.leading.F.ok je (λvs H Q E h=>?_) (λcdv A outer s H vs Q E hr h=>?_)
 .sleep 155
 obtain⟨p,us,rs,rfl,hp,hrs,hok,hl,q⟩:=h;refine⟨_,(ak (jx (i:=1) je.nd rfl (ao rfl) (bD.plain rfl (by decide +kernel) (by decide +kernel) rfl (by decide +kernel) rfl) (cJ (pv 0)) (λ_ _ _ _=>cQ) (λ_ _ _ _=>(dM ai)))
 (ak (eK bY rfl (kB rfl T.fL (aa (pv 0) ai)) (ng (n:=2) rfl (bG (aX (i:=2) je.nd rfl (ao rfl)) (bG (aX (i:=3) je.nd rfl (ao rfl)) gj)))
 (au (eK bY rfl (cJ (aP T.oN (tF T) hr (aa (pv 3) ai))) (aX (i:=4) je.nd rfl (ao rfl))
 (au (fj (jw dR jq jr gw (aS bL (pv 1) (pv 4) (λ_ _=>rfl)) (aa (pv 2) ai)))))))
 (au (aJ (pv 1))))),?_⟩
 sleep 212;sleep 88;sleep 6;refine gH (xs:=us) (λi ys H'=>aB H H'/\∃as:List Addr,ys=as.map V.ref/\as.length=i/\as.Nodup/\∀a∈as,H a=none/\H' a=some (.lst [])) ?_ ?_ ?_ ?_
 .exact⟨aB.refl _,[],rfl,rfl,kg,λa h=>nomatch h⟩
 .rintro i ys H' hi ⟨sm,as,rfl,_⟩;exact bE.of (sm _ _ hp)
 .rintro i x ys H' hx ⟨sm,as,rfl,ha,hn,hh⟩;sleep 142;sleep 266;rename_i b H2 n2;refine⟨sm.trans n2.same,as++[b],by simp,by simp[ha],?_,λa h=>?_⟩
  .rw[gp];refine⟨hn,by simp,λa h c hc=>?_⟩;rw[aA.mp hc];intro e;rw[e] at h;have:=(hh b h).2;rw[n2.1] at this;cases this
  .rcases aO.mp h with h|h
   .exact⟨(hh a h).1,n2.keep (hh a h).2⟩
   .rw[aA.mp h];exact⟨sm.free n2.1,n2.self⟩
 rintro ys H1 ⟨sm1,as,rfl,hal,hnd,has⟩ f H2 n2;walk_at "go";have aaC:f∉as:=λh=>by have:=(has f h).2;rw[n2.1] at this;cases this
 have hHf:H f=none:=sm1.free n2.1;refine sF (xs:=us) (λi σ' H'=>aB H H'/\H' f=some (.lst (as.map V.ref))/\(∃x y z,σ'=[some (.ref p),some (.ref f),x,y,z])/\∀(j:Nat) a,as[j]?=some a->∃l:List Int,H' a=some (.lst (l.map V.int))/\l.length<=2*i/\l.length=cnt (rs.take i) j/\∀x,x∈l↔Led rs i j x) ?_ ?_ ?_ ?_
 .refine⟨sm1.trans n2.same,n2.self,⟨_,_,_,rfl⟩,λj a h=>⟨[],n2.keep (has a (fz h)).2,aH _,rfl,λx=>⟨λh=>(nomatch h),λ⟨k,_,hk,_⟩=>absurd hk (by omega)⟩⟩⟩
 .rintro i σ' H' hi ⟨sm,_⟩;exact bE.of (sm _ _ hp)
 .rintro i x t σ' H' H3 hx ⟨sm,hf,⟨x0,y0,z0,rfl⟩,hL⟩ n3;sleep 142;obtain⟨r,hr',⟨ra,rfl,tG⟩⟩:=br hrs hx;have MK:H3 ra=some (.tup r.vals):=n3.keep (sm _ _ tG);walk_at "go";refine⟨ra,r,rfl,MK,λpw H4 s4 hpw e4=>?_⟩;walk_at "go";have Wo:=Row.ig (hok r (fz hr'));have hwl:=Row.oS r;refine f_list (xs:=r.ways.map V.int) (λk σ' H'=>aB H H'/\H' pw=some (.lst (r.ways.map V.int))/\H' f=some (.lst (as.map V.ref))/\(∃z,σ'=[some (.ref p),some (.ref f),some (.int i),some (.ref ra),z]) /\
   ∀(j:Nat) a,as[j]?=some a->∃l:List Int,H' a=some (.lst (l.map V.int))/\l.length<=2*i+k/\l.length=cnt (rs.take i) j+(r.ways.take k).count ((j:Nat):Int)/\∀x,x∈l↔Led rs i j x\/(x=((i:Nat):Int)/\((j:Nat):Int)∈r.ways.take k)) ?_ ?_ ?_ ?_
  .refine⟨(sm.trans n3.same).trans s4,e4,s4 _ _ (n3.keep hf),⟨_,rfl⟩,λj a h=>?_⟩;obtain⟨l,e,hl,hc,hm⟩:=hL j a h;exact⟨l,s4 _ _ (n3.keep e),by omega,by rw[hc];rfl,λx=>by rw[hm x];simp⟩
  .rintro k σ' H' hk ⟨_,e,_⟩;exact bE.of e
  .rintro k x σ' H5 hx ⟨sm5,hw5,JA,⟨z1,rfl⟩,YE⟩;have hk:k<(r.ways.map V.int).length:=(fq hx).1;rw[av] at hk;rw[bz] at hx;obtain⟨y,hy,rfl⟩:=dg.mp hx;have hyb:=Wo y (fz hy);have ey:y=((y.toNat:Nat):Int):=by omega
   have hj:y.toNat<as.length:=by omega
   have B8:as[y.toNat]?=some as[y.toNat]:=by simp[hj]
   generalize as[y.toNat]'hj=a at B8;obtain⟨l,el,Th,hlc,hm⟩:=YE _ a B8;walk_at "go";refine cF (bE.of JA) (v:=.ref a) (by rw[ey];exact fO (by rw[bz,B8];rfl)) ?_;have hml:(l.map V.int).length=l.length:=av _;walk_at "go";rename_i H6 n6;have aaE:pw≠a:=λe=>by rw[e] at hpw;have h2:H3 a=none:=hpw;obtain⟨l',e',_⟩:=hL _ a B8;rw[n3.keep e'] at h2;cases h2
   have hfa:f≠a:=λe=>aaC (e▸fz B8);refine⟨n6.same sm5 (has a (fz B8)).1,n6.keep aaE hw5,n6.keep hfa JA,⟨_,rfl⟩,λj b hb=>?_⟩;rw[cB,hy];by_cases e:j=y.toNat
   .subst e;rw[B8] at hb;cases hb;refine⟨l++[((i:Nat):Int)],by rw[bF];exact n6.self,by rw[aR];simp;omega,?_,λx=>?_⟩
    .rw[aR,List.count_append,hlc,<- ey];simp;omega
    rw[aO,hm x,aA,aO,<- ey];simp only[lX,aA,or_true,and_true];constructor
    .rintro((h|h)|h)
     .exact .inl h
     .exact .inr h.1
     .exact .inr h
    .rintro(h|h)
     .exact .inl (.inl h)
     .exact .inr h
   .obtain⟨l',e',hl',aaG,hm'⟩:=YE j b hb;have hba:b≠a:=λeb=>by subst eb;exact e (pY hnd hb B8)
    refine⟨l',n6.keep hba e',by omega,?_,λx=>?_⟩
    .have hne:¬y=((j:Nat):Int):=by omega
     rw[List.count_append,aaG];simp[hne]
    have hne:¬((j:Nat):Int)=y:=by omega
    rw[hm' x,aO];simp only[lX,aA,hne,or_false]
  .rintro σ' H5 ⟨sm5,hw5,JA,⟨z1,rfl⟩,YE⟩;refine⟨sm5,JA,⟨_,_,_,rfl⟩,λj a h=>?_⟩;obtain⟨l,e,hl,hc,hm⟩:=YE j a h;rw[av] at hl hc;rw[cH] at hc;refine⟨l,e,by omega,by rw[hc,Jz hr'],λx=>?_⟩;rw[hm x,Led.succ hr',av,cH]
 .rintro σ' H' ⟨sm,hf,⟨x0,y0,z0,rfl⟩,hL⟩;walk_at "go";refine q f H' as sm hf (by omega) (λj a h=>?_) λj a h=>?_
  .obtain⟨l,e,hl,_,hm⟩:=hL j a h;rw[qu] at hl hm;exact⟨l,e,hl,hm⟩
  .obtain⟨l,e,_,hc,_⟩:=hL j a h;rw[qu,cH] at hc;exact⟨l,e,hc⟩
def R1(K:aD):Sp:=λvs H Q _=>∃(p:Addr)(us:List V)(rs:List Row),vs=[.ref p]/\H p=some (.lst us)/\Rows H us rs/\(∀r∈rs,r.ok rs.length)/\rs.length<=1000 /\
 ∀f H' (as:List Addr),aB H H'->H' f=some (.lst (as.map V.ref))->as.length=rs.length->tH H' rs as->Q (.ref f) H'
def B9(T:Txt w K mg):b8 P w K mg base gS 3 T.leading.f T.leading.d ["code"] (R1 K) :=
 (qv T).imp λvs H Q E h=>by obtain⟨p,us,rs,h1,h2,h3,h4,h5,q⟩:=h;exact⟨p,us,rs,h1,h2,h3,h4,h5,λf H' as a b c d _=>q f H' as a b c d⟩
end
abbrev lP(H:Hp):List V->List (List (Int×Int))->Prop:=Paired λv ps=>∃a us,v=.ref a/\H a=some (.lst us)/\bR H us ps
theorem lP.same{K2:List (List (Int×Int))}(e:aB H H')(h:lP H vs K2):lP H' vs K2:=dG (λ_ _ ⟨a,us,h1,h2,h3⟩=>⟨a,us,h1,e _ _ h2,h3.same e⟩) h
section
variable {P:Program}{w:World}{K:aD}{mg:Str->Option Value}{base:Heap}
def R3:Sp:=λvs H Q _=>∃(p:Addr)(zs:List V)(K2:List (List (Int×Int))),vs=[.ref p]/\H p=some (.lst zs)/\lP H zs K2/\(∀ps∈K2,∀q∈ps,q∈cR) /\
 ∀(l:Addr)(us:List V)(qs:List (Int×Int))(H':Hp),aB H H'->H l=none->H' l=some (.lst us)->bR H' us qs->qs.Pairwise (λp q=>SN.rk p<SN.rk q)->(∀q,q∈qs↔∃ps∈K2,q∈ps)->Q (.ref l) H'
def xw(T:Txt w K mg):b8 P w K mg base gS 1 T.mq.f T.mq.d ["lists"] R3:=by
 refine T.mq.F.ok iT (λvs H Q E h=>?_) (λcdv A outer s H vs Q E hr h=>?_)
 .obtain⟨p,zs,K2,rfl,_⟩:=h;rfl
 obtain⟨p,zs,K2,rfl,hp,hzs,hin,q⟩:=h;refine⟨_,(ak (aE (i:=1) iT.nd rfl (ao rfl) Hi)
 (ak (eK bY rfl (cJ (pv 0)) (aX (i:=2) iT.nd rfl (ao rfl))
 (au (eK bY rfl (cJ (pv 2)) (aX (i:=3) iT.nd rfl (ao rfl))
 (au (CO (sy hr) (pv 1) (pv 3) yf rfl)))))
 (au (aJ (aT (BI rfl) rfl T.oR BT.nU (aa (pv 1) ai)))))),?_⟩
 sleep 125;sleep 6;rename_i d H1 n1;have fd:=n1.1;have s1:=n1.same;have hd1:=n1.self;clear n1;refine f_list (xs:=zs) (λi σ' H'=>(∃x y,σ'=[some (.ref p),some (.ref d),x,y])/\aB H H'/\∃ps:List (Int×Int),H' d=some (.dT (ps.map λp=>(uw p,V.bl true)))/\ps.Nodup/\(∀q∈ps,q∈cR)/\∀q,q∈ps↔∃qs∈K2.take i,q∈qs) ?_ ?_ ?_ ?_
 .exact⟨⟨_,_,rfl⟩,s1,[],hd1,kg,(λq h=>nomatch h),λq=>by simp⟩
 .sleep 156;exact bE.of (s' _ _ hp)
 .rintro i x σ' H2 hx ⟨⟨x0,y0,rfl⟩,s2,ps,hd2,nd,hall,hmem⟩;obtain⟨qs,Ti,a,us,rfl,ha,pQ⟩:=br hzs hx;have ha2:=s2 _ _ ha;have Wq:=pQ.same s2;have hqa:=hin qs (fz Ti);walk_at "go";refine f_list (xs:=us) (λj σ' H'=>(∃y,σ'=[some (.ref p),some (.ref d),some (.ref a),y])/\aB H H'/\∃ps:List (Int×Int),H' d=some (.dT (ps.map λp=>(uw p,V.bl true)))/\ps.Nodup/\(∀q∈ps,q∈cR)/\∀q,q∈ps↔(∃qs∈K2.take i,q∈qs)\/q∈qs.take j) ?_ ?_ ?_ ?_
  .exact⟨⟨_,rfl⟩,s2,ps,hd2,nd,hall,λq=>by rw[hmem q];simp⟩
  .rintro j σ' H' _ ⟨_,s',_⟩;exact bE.of (s' _ _ ha)
  .rintro j x σ' H3 hx ⟨⟨y0,rfl⟩,s3,ps,JB,nd,hall,hmem⟩;obtain⟨t,htj,b,rfl,hb⟩:=br pQ hx;have YD:=s3 _ _ hb;have hpl:ps.length<=16:=j5 nd hall;walk_at "go";refine VP (k:=uw t) JB YD (by rw[av];omega) ?_;intro H4 p4;rw[Jy] at p4;walk_at "go";refine⟨⟨_,rfl⟩,p4.same s3 fd,_,p4.self,?_,?_,λq=>?_⟩
   .by_cases h:t∈ps
    .rw[if_pos h];exact nd
    .rw[if_neg h,gp];exact⟨nd,by simp,λx hx y hy e=>h (by rw[<- aA.mp hy,<- e];exact hx)⟩
   .intro q hq;by_cases h:t∈ps
    .rw[if_pos h] at hq;exact hall q hq
    .rw[if_neg h] at hq;rcases aO.mp hq with hq|hq
     .exact hall q hq
     .rw[aA.mp hq];exact hqa t (fz htj)
   .rw[cB,htj,aO];simp only[lX,aA];by_cases h:t∈ps
    .rw[if_pos h,hmem q];constructor
     .rintro(h1|h1)
      .exact .inl h1
      .exact .inr (.inl h1)
     .rintro(h1|h1|h1)
      .exact .inl h1
      .exact .inr h1
      .rw[h1];exact(hmem t).mp h
    .rw[if_neg h,aO,hmem q,aA,or_assoc]
  .rintro σ' H3 ⟨⟨y0,rfl⟩,s3,ps,JB,nd,hall,hmem⟩;refine⟨⟨_,_,rfl⟩,s3,ps,JB,nd,hall,λq=>?_⟩;rw[hmem q,pQ.length,cH,cB,Ti];simp only[aO,lX,aA];constructor
   .rintro(⟨qs',h1,h2⟩|h1)
    .exact⟨qs',.inl h1,h2⟩
    .exact⟨qs,.inr rfl,h1⟩
   .rintro⟨qs',h1|h1,h2⟩
    .exact .inl ⟨qs',h1,h2⟩
    .subst h1;exact .inr h2
 .rintro σ' H2 ⟨⟨x0,y0,rfl⟩,s2,ps,hd2,nd,hall,hmem⟩;have hpl:ps.length<=16:=j5 nd hall;walk_at "go";refine L8 (f:=λ_=>.bl true) hd2 (λq hq=>?_) (by omega) λl us qs H3 n3 pQ C8 hup=>?_
  .have all:∀q∈cR,0<=q.2/\q.2<1000:=by decide
   exact all q (hall q hq)
  .refine q l us qs H3 (s2.trans n3.same) (s2.free n3.1) n3.self (bR.same n3.same pQ) hup λq=>?_;rw[C8.mem_iff,hmem q,hzs.length,cH]
end
def tK(x:Int):∀ss:List Int,(e9 (ss.map λk=>((.inl k:Key),V.bl true)) (.inl x)).isSome=decide (x∈ss):=λss=>by
 rw[<- jX];induction ss with
 | nil=>rfl
 | cons y ss ih =>
  rw[cj,jD,ih];by_cases e:y=x
  .simp[e]
  .have e1:¬(Sum.inl y:Key)=Sum.inl x:=λz=>e (Sum.inl.inj z);have e2:¬x=y:=λz=>e z.symm;simp[e1,e2]
def JC{ss:List Int}(h:x∉ss):putK (ss.map λk=>((.inl k:Key),V.bl true)) (.inl x) (.bl true)=(ss++[x]).map λk=>((.inl k:Key),V.bl true):=by unfold putK;rw[jX,tK,decide_eq_false h,if_neg (by decide),bF];rfl
structure Apart (H5:Hp) (f l cm sn:Addr) (as:List Addr):Prop where
 c5:H5 cm=none
 n5:H5 sn=none
 a5:∀a∈as,H5 a=none
 fc:f≠cm
 fs:f≠sn
 lc:l≠cm
 ls:l≠sn
 cs:cm≠sn
 ca:cm∉as
 sa:sn∉as
 fa:f∉as
 la:l∉as
 nd:as.Nodup
structure xZ (H5 H6:Hp) (f l cm sn:Addr) (as:List Addr) (us:List V) (cs ss:List Int) (g:Nat->List (Int×Int)) (H:Hp):Prop where
 s5:aB H5 H
 t6:gK H6 H
 hf:H f=some (.lst (as.map V.ref))
 hl:H l=some (.lst us)
 hc:H cm=some (.lst (cs.map V.int))
 hs:H sn=some (.dK (ss.map λk=>(.inl k,.bl true)))
 ha:∀(k:Nat) a,as[k]?=some a->∃vs,H a=some (.lst vs)/\bR H vs (g k)
section
variable {H5 H6 H H':Hp}{f l cm sn:Addr}{as:List Addr}{us:List V}{cs cs' ss:List Int}{g g':Nat->List (Int×Int)}
def xZ.new{p:Addr}(x:xZ H5 H6 f l cm sn as us cs ss g H)(n:eU H p o H'):xZ H5 H6 f l cm sn as us cs ss g H' :=
 ⟨x.s5.trans n.same,x.t6.trans (sT n.same),n.keep x.hf,n.keep x.hl,n.keep x.hc,n.keep x.hs,λk a e=>let⟨vs,h1,h2⟩:=x.ha k a e;⟨vs,n.keep h1,h2.same n.same⟩⟩
theorem xZ.same(x:xZ H5 H6 f l cm sn as us cs ss g H)(n:aB H H'):xZ H5 H6 f l cm sn as us cs ss g H' :=
 ⟨x.s5.trans n,x.t6.trans (sT n),n _ _ x.hf,n _ _ x.hl,n _ _ x.hc,n _ _ x.hs,λk a e=>let⟨vs,h1,h2⟩:=x.ha k a e;⟨vs,n _ _ h1,h2.same n⟩⟩
def xZ.Wr(A:Apart H5 f l cm sn as)(x:xZ H5 H6 f l cm sn as us cs ss g H)(p:nj H cm (.lst (cs'.map V.int)) H'):xZ H5 H6 f l cm sn as us cs' ss g H':=by have tt:gK H H':=λb xs e=>p.keep (rW e x.hc (by intro z;cases z)) e;exact⟨p.same x.s5 A.c5,x.t6.trans tt,p.keep A.fc x.hf,p.keep A.lc x.hl,p.self,p.keep A.cs.symm x.hs,λk a e=>let⟨vs,h1,h2⟩:=x.ha k a e;⟨vs,p.keep (λz=>A.ca (by rw[<- z];exact fz e)) h1,h2.ji tt⟩⟩
def xZ.aaI(A:Apart H5 f l cm sn as){ss':List Int}(x:xZ H5 H6 f l cm sn as us cs ss g H)(p:nj H sn (.dK (ss'.map λk=>(.inl k,.bl true))) H'):xZ H5 H6 f l cm sn as us cs ss' g H':=by have tt:gK H H':=λb xs e=>p.keep (rW e x.hs (by intro z;cases z)) e;exact⟨p.same x.s5 A.n5,x.t6.trans tt,p.keep A.fs x.hf,p.keep A.ls x.hl,p.keep A.cs x.hc,p.self,λk a e=>let⟨vs,h1,h2⟩:=x.ha k a e;⟨vs,p.keep (λz=>A.sa (by rw[<- z];exact fz e)) h1,h2.ji tt⟩⟩
def xZ.aaJ(A:Apart H5 f l cm sn as){aj:Addr}{vj:List V}(x:xZ H5 H6 f l cm sn as us cs ss g H)(hj:as[j]?=some aj){w:List V}(hold:H aj=some (.lst w))(p:nj H aj (.lst vj) H')(hv:bR H vj (g' j))(hg:∀k,k≠j->k<as.length->g' k=g k):xZ H5 H6 f l cm sn as us cs ss g' H':=by
 have mj:=fz hj;have tt:gK H H':=λb xs e=>p.keep (rW e hold (by intro z;cases z)) e;refine⟨p.same x.s5 (A.a5 aj mj),x.t6.trans tt,p.keep (λz=>A.fa (by rw[z];exact mj)) x.hf,p.keep (λz=>A.la (by rw[z];exact mj)) x.hl,p.keep (λz=>A.ca (by rw[z];exact mj)) x.hc,p.keep (λz=>A.sa (by rw[z];exact mj)) x.hs,λk a e=>?_⟩;by_cases ek:k=j
 .subst ek;rw[hj] at e;cases e;exact⟨vj,p.self,hv.ji tt⟩
 .obtain⟨vs,h1,h2⟩:=x.ha k a e;refine⟨vs,p.keep (λz=>ek (pY A.nd e (by rw[z];exact hj))) h1,?_⟩;rw[hg k ek (fq e).1];exact h2.ji tt
end
structure DQ (rs:List Row) (t:Int×Int) (cs ss:List Int):Prop where
 c1:∀x∈cs,∃k:Nat,x=((k:Nat):Int)/\cE rs t k
 s1:∀x∈ss,∃k:Nat,x=((k:Nat):Int)/\cE rs t k
 nd:ss.Nodup
 rd:∀(k:Nat) r,rs[k]?=some r->t∈dO r->((k:Nat):Int)∈ss\/((k:Nat):Int)∈cs
 cl:∀(k q:Nat) r,rs[k]?=some r->t∉bO r->((q:Nat):Int)∈r.ways->((q:Nat):Int)∈ss->((k:Nat):Int)∈ss\/((k:Nat):Int)∈cs
 ln:cs.length<=rs.length+ss.length*(2*rs.length)
section
variable {rs:List Row}{t:Int×Int}{cs ss:List Int}
def FH{ss:List Int}(nd:ss.Nodup){n:Nat}(h:∀x∈ss,∃k:Nat,x=((k:Nat):Int)/\k<n):ss.length<=n:=by
 have:=j5 nd (ys:=(List.range n).map λk:Nat=>(k:Int)) λx hx=>by obtain⟨k,rfl,hk⟩:=h x hx;exact aF.mpr ⟨k,fW.mpr hk,rfl⟩
 rw[av,gT] at this;exact this
def DQ.few(d:DQ rs t cs ss):ss.length<=rs.length:=FH d.nd λx hx=>by obtain⟨k,e,h⟩:=d.s1 x hx;exact⟨k,e,h.lt⟩
def DQ.short(d:DQ rs t cs ss)(h:rs.length<=200):cs.length<=81000:=by have h1:=d.few;have h2:=d.ln;have h3:ss.length*(2*rs.length)<=200*400:=Nat.mul_le_mul (by omega) (by omega);omega
def DQ.skip(d:DQ rs t (cs++[x]) ss)(h:x∈ss):DQ rs t cs ss where
 c1:=λy hy=>d.c1 y (by simp[hy])
 s1:=d.s1
 nd:=d.nd
 rd:=λk r h1 h2=>by
  rcases d.rd k r h1 h2 with a|a
  .exact .inl a
  .sleep 213
 cl:=λk q r h1 h2 h3 h4=>by
  rcases d.cl k q r h1 h2 h3 h4 with a|a
  .exact .inl a
  .sleep 213
 ln:=by have:=d.ln;rw[aR] at this;simp at this;omega
def DQ.step{es:List Int}(d:DQ rs t (cs++[x]) ss)(h:x∉ss)(h1:∀y,y∈es↔∃(k j:Nat)(r:Row),y=((k:Nat):Int)/\x=((j:Nat):Int)/\rs[k]?=some r/\((j:Nat):Int)∈r.ways/\t∉bO r)(h2:es.length<=2*rs.length):DQ rs t (cs++es) (ss++[x]) where
 c1:=λy hy=>by
  rcases aO.mp hy with a|a
  .exact d.c1 y (by simp[a])
  .obtain⟨k,j,r,rfl,ej,hr,hw,hg⟩:=(h1 y).mp a;obtain⟨j',ej',hj⟩:=d.c1 x (by simp);have e:j=j':=by omega
   subst e;exact⟨k,rfl,.on hr hg hw hj⟩
 s1:=λy hy=>by
  rcases aO.mp hy with a|a
  .exact d.s1 y a
  .rw[aA.mp a];exact d.c1 x (by simp)
 nd:=by rw[gp];exact⟨d.nd,by simp,λa ha b hb e=>h (by rw[<- aA.mp hb,<- e];exact ha)⟩
 rd:=λk r a b=>by
  rcases d.rd k r a b with c|c
  .exact .inl (by simp[c])
  .rcases aO.mp c with c|c
   .exact .inr (by simp[c])
   .exact .inl (by simp[aA.mp c])
 cl:=λk q r a b c e=>by
  rcases aO.mp e with e|e
  .rcases d.cl k q r a b c e with z|z
   .exact .inl (by simp[z])
   .rcases aO.mp z with z|z
    .exact .inr (by simp[z])
    .exact .inl (by simp[aA.mp z])
  .have e:=aA.mp e;exact .inr (aO.mpr (.inr ((h1 _).mpr ⟨k,q,r,rfl,e.symm,a,c,b⟩)))
 ln:=by have:=d.ln;rw[aR] at this;simp only[aR,jI] at this ⊢;rw[Nat.add_mul];omega
def DQ.done(d:DQ rs t [] ss)(k:Nat):((k:Nat):Int)∈ss↔cE rs t k:=by
 constructor
 .intro h;obtain⟨j,e,hj⟩:=d.s1 _ h;have:k=j:=by omega
  rw[this];exact hj
 .intro h;refine jz (S:=λk=>((k:Nat):Int)∈ss) (λk r a b=>?_) (λk q r a b c e=>?_) k h
  .rcases d.rd k r a b with z|z
   .exact z
   .exact nomatch z
  .rcases d.cl k q r a b c e with z|z
   .exact z
   .exact nomatch z
def Ws(n s c:Nat):Nat:=(n-s)*(2*n+1)+c
def R4{n s c e:Nat}(hs:s<n)(he:e<=2*n):Ws n (s+1) (c+e)<Ws n s (c+1):=by
 unfold Ws;obtain⟨d,hd⟩:∃d,n-s=d+1:=⟨n-s-1,by omega⟩;have h2:n-(s+1)=d:=by omega
 rw[hd,h2,Nat.add_mul];omega
def FI{qs:List (Int×Int)}{t:Int×Int}(hi:qs[i]?=some t){ss:List Int}(h:((k:Nat):Int)∈ss↔cE rs t k):(qs.take (i+1)).filter (isLive rs k)=(qs.take i).filter (isLive rs k)++if((k:Nat):Int)∈ss then[t] else[]:=by
 rw[cB,hi,jE]
 congr 1
 show[t].filter (isLive rs k)=_;by_cases e:cE rs t k
 .rw[if_pos (h.mpr e),rL (g6.mpr e)];rfl
 .rw[if_neg (λz=>e (h.mp z)),rK (λz=>e (g6.mp z))];rfl
end
def vO(H:Hp)(as:List Addr)(rs:List Row):Prop:=∀(k:Nat) a,as[k]?=some a->∃us,H a=some (.lst us)/\bR H us (jA rs k)
theorem lP.at{H:Hp}{vs:List V}{rs:List Row}{f:Row->List (Int×Int)}(h:lP H vs (rs.map f)){k:Nat}{r:Row}(e:rs[k]?=some r):∃a us,vs[k]?=some (.ref a)/\H a=some (.lst us)/\bR H us (f r):=by
 have hl:=h.length;rw[av] at hl;have hk:k<vs.length:=by rw[hl];exact(fq e).1
 have hv:vs[k]?=some vs[k]:=fN hk;obtain⟨ps,h1,a,us,h2,h3,h4⟩:=br h hv;rw[bz,e] at h1;cases h1;exact⟨a,us,by rw[hv,h2],h3,h4⟩
section
variable {P:Program}{w:World}{K:aD}{mg:Str->Option Value}{base:Heap}
def R5:Sp:=λvs H Q _=>∃(p:Addr)(us:List V)(rs:List Row),vs=[.ref p]/\H p=some (.lst us)/\Rows H us rs/\(∀r∈rs,r.ok rs.length)/\rs.length<=200 /\
 ∀(f:Addr)(as:List Addr)(H':Hp),aB H H'->H f=none->H' f=some (.lst (as.map V.ref))->as.length=rs.length->as.Nodup->(∀a∈as,H a=none)->f∉as->vO H' as rs->Q (.ref f) H'
def DR(T:Txt w K mg):b8 P w K mg base gS 4 T.live.f T.live.d ["code"] R5:=by
 refine T.live.F.ok iS (λvs H Q E h=>?_) (λcdv A outer s H vs Q E hr h=>?_)
 .sleep 155
 sleep 219;refine⟨_,(ak (jx (i:=1) iS.nd rfl (ao rfl) (bD.plain rfl (by decide +kernel) (by decide +kernel) rfl (by decide +kernel) rfl) (cJ (pv 0)) (λ_ _ _ _=>cQ) (λ_ _ _ _=>(aP T.reads (zR T) hr (aa (pv 0) ai))))
 (ak (aE (i:=2) iS.nd rfl (bQ rfl) (cP (bD.plain rfl (by decide +kernel) (by decide +kernel) rfl (by decide +kernel) rfl) (cJ (pv 0)) (λ_ _ _ _=>cQ) (λ_ _ _ _=>(aP T.gives (zS T) hr (aa (pv 0) ai)))))
 (ak (aE (i:=3) iS.nd rfl (ao rfl) (aP T.leading (B9 T) hr (aa (pv 0) ai)))
 (ak (jx (i:=4) iS.nd rfl (ao rfl) (bD.plain rfl (by decide +kernel) (by decide +kernel) rfl (by decide +kernel) rfl) (cJ (pv 0)) (λ_ _ _ _=>cQ) (λ_ _ _ _=>(dM ai)))
 (ak (eK bY rfl (cJ (aP T.mq (xw T) hr (aa (pv 1) ai))) (aX (i:=5) iS.nd rfl (bQ rfl))
 (ak (yH (i:=6) iS.nd rfl (ao rfl) (iR.of (xs:=["place", "some"]) (bD.caps (x := "place") (fr:=["spot"]) (ix:=[5]) (nm:=["spot"]) rfl rfl (by decide +kernel) rfl (by decide +kernel) rfl (by decide +kernel) ⟨rfl,trivial⟩ rfl (by decide +kernel) rfl ⟨⟨rfl,rfl,rfl⟩,trivial⟩) (by decide +kernel)) (kB rfl T.fL (aa (pv 1) ai)) (λ_ _ _ _=>(qK (K:=K) rfl (n:=2) rfl (bG (aX (i:=0) (show(["place", "some", "spot"]:List Str).Nodup from by decide +kernel) rfl (ao rfl)) (bG (aX (i:=1) (show(["place", "some", "spot"]:List Str).Nodup from by decide +kernel) rfl (ao rfl)) gj)))) (λ_ _ _ _=>(nh (aG ((Dj (K:=K) rfl) hr.units) (pv 2) (pv 1) (by with_unfolding_all rfl)))) (λ_ _ _ _=>(pv 0)))
 (ak (aE (i:=7) iS.nd rfl (ao rfl) Hh)
 (au (jV bY (vc (pv 6) (λ_=>rfl))
 (ak (aE (i:=8) iS.nd rfl (ao rfl) (Be dR PySem.F.slot_list_pop PySem.F.type_list_pop G1 (pv 6)))
 (au (cN (A1 (ER (sy hr) (pv 8) (pv 7)))
 (ak (CO (sy hr) (pv 7) (pv 8) yf rfl)
 (ak (fj (jw dR jq jr gw (aS bL (pv 4) (pv 8) (λ_ _=>rfl)) (aa (pv 5) ai)))
 (au (fj (jw dR nF nG jW (pv 6) (aa (cP (bD.caps (x := "other") (fr:=["giving", "spot"]) (ix:=[2,5]) (nm:=["spot", "giving"]) rfl rfl (by decide +kernel) rfl (by decide +kernel) rfl (by decide +kernel) ⟨rfl,⟨rfl,trivial⟩⟩ rfl (by decide +kernel) rfl ⟨⟨rfl,rfl,rfl⟩,⟨⟨rfl,rfl,rfl⟩,trivial⟩⟩) (cJ (aS bL (pv 3) (pv 8) (λ_ _=>rfl))) (λ_ _ _ _=>(nh (aG ((BH (K:=K) rfl) hr.units) (pv 2) (aS (gI (K:=K) rfl) (pv 1) (pv 0) (λ_ _=>rfl)) (by with_unfolding_all rfl)))) (λ_ _ _ _=>(pv 0))) ai))))))
 bw))))))))
 (au (aJ (pv 4)))))))),?_⟩
 sleep 212;show(_:TS) (Ends.mk _ _ _ _) [_,_,_,_,_,_,_,_,_] H;sleep 6;refine gH (xs:=us) (λi ys H'=>aB H H'/\lP H' ys ((rs.take i).map dO)) ⟨aB.refl _,.nil⟩ ?_ ?_ ?_
 .sleep 129;exact bE.of (s' _ _ hp)
 .rintro i x ys H1 hx ⟨s1,hys⟩;obtain⟨r,ML,a,rfl,ha⟩:=br hrs hx;sleep 231;sleep 66;refine⟨a,r,rs.length,rfl,s1 _ _ ha,hok r (fz ML),λl ws H2 s2 _ hl hws=>⟨s1.trans s2,?_⟩⟩;rw[cB,ML,bF];exact cI (hys.same s2) ⟨l,ws,rfl,hl,hws⟩
 rintro rzs H1 ⟨s1,hrz⟩ rd H2 n2;rw[qu,cH] at hrz;have Wt:=n2.self;have Wu:=hrz.same n2.same;have s2:=s1.trans n2.same;clear n2 s1 hrz;have hp2:=s2 _ _ hp;have JD:=hrs.same s2;walk_at "go";refine gH (xs:=us) (λi ys H'=>aB H2 H'/\lP H' ys ((rs.take i).map bO)) ⟨aB.refl _,.nil⟩ ?_ ?_ ?_
 .sleep 129;exact bE.of (s' _ _ hp2)
 .rintro i x ys H3 hx ⟨s3,hys⟩;obtain⟨r,ML,a,rfl,ha⟩:=br JD hx;sleep 231;sleep 66;refine⟨a,r,rs.length,rfl,s3 _ _ ha,hok r (fz ML),λl ws H4 s4 _ hl hws=>⟨s3.trans s4,?_⟩⟩;rw[cB,ML,bF];exact cI (hys.same s4) ⟨l,ws,rfl,hl,hws⟩
 rintro gzs H3 ⟨s3,hgz⟩ gv H4 n4;rw[qu,cH] at hgz;have Wv:=n4.self;have Ww:=hgz.same n4.same;have MM:=s3.trans n4.same;clear n4 s3 hgz;have hp4:=MM _ _ hp2;have Wx:=JD.same MM;have Wy:=MM _ _ Wt;have Wz:=Wu.same MM;have s4:=s2.trans MM;clear MM hp2 JD Wt Wu s2;walk_at "go";refine⟨p,us,rs,rfl,hp4,Wx,hok,by omega,λah H5 YF R6 R7 hal aaN=>?_⟩;have hp5:=R6 _ _ hp4;have WA:=R6 _ _ Wy;have WB:=Wz.same R6;have aaO:=R6 _ _ Wv;have aaP:=Ww.same R6;have s5:=s4.trans R6;clear R6 hp4 Wx Wy Wz Wv Ww s4;walk_at "go";refine gH (xs:=us) (λi ys H'=>aB H5 H'/\∃as:List Addr,ys=as.map V.ref/\as.length=i/\as.Nodup/\∀a∈as,H5 a=none/\H' a=some (.lst [])) ⟨aB.refl _,[],rfl,rfl,kg,λa h=>nomatch h⟩ ?_ ?_ ?_
 .sleep 129;exact bE.of (s' _ _ hp5)
 .rintro i x ys H6 hx ⟨s6,as,rfl,ha,nd,hh⟩;sleep 142;sleep 266;rename_i b H7 n7;refine⟨s6.trans n7.same,as++[b],by simp,by simp[ha],?_,λa h=>?_⟩
  .rw[gp];refine⟨nd,by simp,λa h c hc e=>?_⟩;rw[aA.mp hc] at e;subst e;have:=(hh a h).2;rw[n7.1] at this;cases this
  .rcases aO.mp h with h|h
   .exact⟨(hh a h).1,n7.keep (hh a h).2⟩
   .rw[aA.mp h];exact⟨s6.free n7.1,n7.self⟩
 rintro ys H6 ⟨OH,as,rfl,yV,nd,has⟩ f H7 n7;have OG:=n7.self;have f5:H5 f=none:=OH.free n7.1;have fa:f∉as:=λh=>by have:=(has f h).2;rw[n7.1] at this;cases this
 have MN:∀a∈as,H5 a=none/\H7 a=some (.lst []):=λa h=>⟨(has a h).1,n7.keep (has a h).2⟩;have YG:=OH.trans n7.same;clear n7 OH has;have MO:=YG _ _ WA;have WC:=WB.same YG;walk_at "go";refine⟨rd,rzs,rs.map dO,rfl,MO,WC,?_,λl ws qs H8 YH fl YI WD hup hmem=>?_⟩
 .intro ps hps t ht;obtain⟨r,hr,rfl⟩:=aF.mp hps;exact reads_in (hok r hr) ht
 have DS:=YH _ _ OG;have s58:=YG.trans YH;have la:l∉as:=λh=>by have:=(MN l h).2;rw[fl] at this;cases this
 have lf:l≠f:=λe=>by rw[e,OG] at fl;cases fl
 have hql:qs.length<=16:=j5 (hup.imp λh=>Wm h) (ys:=cR) λt ht=>by obtain⟨ps,hps,hq⟩:=(hmem t).mp ht;obtain⟨r,hr,rfl⟩:=aF.mp hps;exact reads_in (hok r hr) hq
 have R8:∀a∈as,H5 a=none/\H8 a=some (.lst []):=λa h=>⟨(MN a h).1,YH _ _ (MN a h).2⟩;clear YH OG MO WC MN fl YG;walk_at "go";refine f_list (xs:=ws) (λi σ' H'=>(∃x y z u,σ'=[some (.ref p),some (.ref rd),some (.ref gv),some (.ref ah),some (.ref f),x,y,z,u])/\aB H5 H'/\gK H8 H'/\H' f=some (.lst (as.map V.ref))/\H' l=some (.lst ws)/\∀(k:Nat) a,as[k]?=some a->∃vs,H' a=some (.lst vs)/\bR H' vs ((qs.take i).filter (isLive rs k))) ?_ ?_ ?_ ?_
 .exact⟨⟨_,_,_,_,rfl⟩,s58,gK.refl _,DS,YI,λk a e=>⟨[],(R8 a (fz e)).2,.nil⟩⟩
 .rintro i σ' H' _ ⟨_,_,_,_,h,_⟩;exact bE.of h
 .rintro i x σ' H9 hx ⟨⟨x5,x6,x7,x8,rfl⟩,s9,t9,JE,WE,R9⟩;obtain⟨t,hti,b,rfl,K1⟩:=br WD hx;have hb9:=t9 _ _ K1;have JF:=s9 _ _ WA;have Sa:=WB.same s9;walk_at "go";have hrl:=Sa.length;rw[av] at hrl;refine C0 (λj zs τ H'=>aB H9 H'/\(∃ns:List Int,zs=ns.map V.int/\ns.length<=j/\∀y,y∈ns↔∃(k:Nat)(r:Row),k<j/\y=((k:Nat):Int)/\rs[k]?=some r/\t∈dO r)/\∃x y,τ=[x,y,some (.ref b)]) ?_ ?_ ?_ ?_ ?_
  .exact⟨aB.refl _,⟨[],rfl,aH _,λy=>⟨λh=>(nomatch h),λ⟨k,_,h,_⟩=>absurd h (by omega)⟩⟩,_,_,rfl⟩
  .rintro j zs τ H' _ ⟨s',⟨ns,rfl,hl,_⟩,_⟩;exact⟨bE.of (s' _ _ JF),by rw[av];exact hl⟩
  .omega
  .rintro j x pp zs τ zW zX hx ⟨iJ,⟨ns,rfl,hnl,hns⟩,x0,y0,rfl⟩ gO;obtain⟨ps,hps,a,vs,rfl,ha,hvs⟩:=br Sa hx;rw[bz] at hps;obtain⟨r,hrj,rfl⟩:=dg.mp hps;have K3:=iJ.trans gO.same;have aaQ:=K3 _ _ ha;have DT:=hvs.same K3;have aaR:=K3 _ _ hb9;have hpp:=gO.self;clear gO iJ;walk_at "go";refine Dk aaR (bE.of aaQ) DT ?_;have split:∀y,(∃(k:Nat)(r:Row),k<j+1/\y=((k:Nat):Int)/\rs[k]?=some r/\t∈dO r)↔(∃(k:Nat)(r:Row),k<j/\y=((k:Nat):Int)/\rs[k]?=some r/\t∈dO r)\/(y=((j:Nat):Int)/\t∈dO r):=λy=>by
    constructor
    .rintro⟨k,r',h1,h2,h3,h4⟩;by_cases e:k=j
     .subst e;rw[hrj] at h3;sleep 259
     .exact .inl ⟨k,r',by omega,h2,h3,h4⟩
    .rintro(⟨k,r',h1,h2,h3,h4⟩|⟨h1,h2⟩)
     .exact⟨k,r',by omega,h2,h3,h4⟩
     .exact⟨j,r,by omega,h1,hrj,h2⟩
   by_cases hm:t∈dO r
   .rw[decide_eq_true hm];walk_at "go";refine⟨K3,⟨ns++[((j:Nat):Int)],by simp,by simp;omega,λy=>?_⟩,_,_,rfl⟩;rw[aO,hns y,aA,split y];simp only[hm,and_true]
   .rw[decide_eq_false hm];walk_at "go";refine⟨K3,⟨ns,rfl,by omega,λy=>?_⟩,_,_,rfl⟩;rw[hns y,split y];simp only[hm,and_false,or_false]
  rintro zs τ zW ⟨iJ,⟨ns,rfl,hnl,hns⟩,x0,y0,rfl⟩ cm zX gO;rw[hrl] at hnl hns;walk_at "go";rename_i sn FJ tL;have qD:∀(k:Nat) a,as[k]?=some a->∃vs,FJ a=some (.lst vs)/\bR FJ vs ((qs.take i).filter (isLive rs k))/\zW a=some (.lst vs)/\zX a=some (.lst vs):=λk a e=>by obtain⟨vs,h1,h2⟩:=R9 k a e;exact⟨vs,tL.keep (gO.keep (iJ _ _ h1)),h2.same ((iJ.trans gO.same).trans tL.same),iJ _ _ h1,gO.keep (iJ _ _ h1)⟩
  have s12:=(iJ.trans gO.same).trans tL.same;have AP:Apart H5 f l cm sn as:=by
   have YJ:∀a∈as,∃vs,zW a=some (HO.lst vs)/\zX a=some (HO.lst vs):=λa h=>by obtain⟨k,hk⟩:=fV.mp h;obtain⟨vs,_,_,h1,h2⟩:=qD k a hk;exact⟨vs,h1,h2⟩
   refine⟨s9.free (iJ.free gO.1),s9.free (iJ.free (gO.same.free tL.1)),λa h=>(R8 a h).1,aW (iJ _ _ JE) gO.1,aW (gO.keep (iJ _ _ JE)) tL.1,aW (iJ _ _ WE) gO.1,aW (gO.keep (iJ _ _ WE)) tL.1,aW gO.self tL.1,λh=>?_,λh=>?_,fa,la,nd⟩
   .obtain⟨vs,h1,_⟩:=YJ cm h;rw[gO.1] at h1;cases h1
   .obtain⟨vs,_,h1⟩:=YJ sn h;rw[tL.1] at h1;cases h1
  have L0:xZ H5 H8 f l cm sn as ws ns [] (λk=>(qs.take i).filter (isLive rs k)++if((k:Nat):Int)∈([]:List Int) then[t] else[]) FJ :=
   ⟨s9.trans s12,t9.trans (sT s12),s12 _ _ JE,s12 _ _ WE,tL.keep gO.self,tL.self,λk a e=>by
    obtain⟨vs,h1,h2,_⟩:=qD k a e;exact⟨vs,h1,by simpa using h2⟩⟩
  have D0:DQ rs t ns []:=by refine⟨λx hx=>?_,(λx h=>nomatch h),kg,λk r h1 h2=>.inr ((hns _).mpr ⟨k,r,(fq h1).1,rfl,h1,h2⟩),(λk q r _ _ _ h=>nomatch h),by simp;omega⟩;obtain⟨k,r,_,rfl,h1,h2⟩:=(hns x).mp hx;exact⟨k,rfl,.here h1 h2⟩
  clear gO tL iJ s12 hns hnl R9 qD JE WE s9 t9 JF Sa hb9;refine lZ (λm σ' H'=>∃(cs ss:List Int)(x:Option V),σ'=[some (.ref p),some (.ref rd),some (.ref gv),some (.ref ah),some (.ref f),some (.ref b),some (.ref cm),some (.ref sn),x]/\xZ H5 H8 f l cm sn as ws cs ss (λk=>(qs.take i).filter (isLive rs k)++if((k:Nat):Int)∈ss then[t] else[]) H'/\DQ rs t cs ss/\m=Ws rs.length ss.length cs.length) ⟨_,ns,[],_,rfl,L0,D0,rfl⟩ ?_;clear L0 D0;rintro m σ' Gz ⟨cs,ss,x,rfl,L,D,rfl⟩;have WG:=L.hc;walk_at "go";rcases List.eq_nil_or_concat cs with e|⟨cs',y,e⟩
  .subst e;sleep 105;walk_at "nxd";refine⟨⟨_,_,_,_,rfl⟩,L.s5,L.t6,L.hf,L.hl,λk a e=>?_⟩;obtain⟨vs,h1,h2⟩:=L.ha k a e;refine⟨vs,h1,?_⟩;rw[FI hti (D.done k)];exact h2
  rw[List.concat_eq_append] at e;subst e;rw[if_pos (by simp)];obtain⟨ky,Tj,lky⟩:=D.c1 y (by simp);have hss:=D.few;have hsh:=D.short hn;rw[aR,jI] at hsh;walk_at "go";refine s_pop WG (y:=.int y) (by simp) ?_;intro Tn xy;have ed:(List.map V.int (cs'++[y])).dropLast=cs'.map V.int:=by simp
  rw[ed] at xy;have WH:=L.Wr AP xy;clear xy WG L ed;have aaS:=WH.hs;by_cases hy:y∈ss
  .have hv:(!(e9 (ss.map λk=>((.inl k:Key),V.bl true)) (.inl y)).isSome)=false:=by rw[tK,decide_eq_true hy];rfl
   walk_at "go";rw[hv,if_neg (by decide)];walk_at "go";refine⟨_,?_,cs',ss,_,rfl,WH,D.skip hy,rfl⟩;rw[aR,jI];unfold Ws;omega
  have hv:(!(e9 (ss.map λk=>((.inl k:Key),V.bl true)) (.inl y)).isSome)=true:=by rw[tK,decide_eq_false hy];rfl
  have hsl:(ss.map λk=>((.inl k:Key),V.bl true)).length<=200:=by rw[av];omega
  have ey:=JC hy;have MP:=WH.hf;have UG:=AP.fs;walk_at "go";rw[hv,if_pos rfl];walk_at "go";rename_i YK MQ;rw[ey] at MQ;have Sb:=WH.aaI AP MQ;clear MQ WH aaS ey hv MP UG;have ya:ky<as.length:=by have:=lky.lt;omega
  have B8:as[ky]?=some as[ky]:=fN ya;generalize as[ky]'ya=a at B8;obtain⟨vs,hvs,hps⟩:=Sb.ha ky a B8;have hyk:¬((ky:Nat):Int)∈ss:=by rw[<- Tj];exact hy
  rw[if_neg hyk,iZ] at hps;have hvl:vs.length<=16:=by rw[hps.length];refine bJ (i7 _ _) ?_;rw[cG];omega
  have aaT:=Sb.hc;have hca:cm≠a:=λz=>AP.ca (by rw[z];exact fz B8);have WI:=Sb.s5 _ _ R7;have haa:ah≠a:=aW R7 (AP.a5 a (fz B8));refine cF (bE.of Sb.hf) (v:=.ref a) (by rw[Tj];exact fO (by rw[bz,B8];rfl)) ?_;walk_at "go";rename_i YL p16;have Sd:xZ H5 H8 f l cm sn as ws cs' (ss++[y]) (λk=>(qs.take i).filter (isLive rs k)++if((k:Nat):Int)∈ss++[y] then[t] else[]) YL:=by
   have x:=Sb.aaJ AP (g':=λk=>(qs.take i).filter (isLive rs k)++if((k:Nat):Int)∈ss++[y] then[t] else[]) B8 hvs p16 ?_ λk hk _=>?_
   .exact x
   .show bR YK _ ((qs.take i).filter (isLive rs ky)++if((ky:Nat):Int)∈ss++[y] then[t] else[]);rw[if_pos (by rw[<- Tj];simp)];exact cI hps ⟨b,rfl,Sb.t6 _ _ K1⟩
   .have hne:¬((k:Nat):Int)=y:=by omega
    simp only[aO,aA,hne,or_false]
  clear p16 Sb hvs hps aaT WI;have OI:=Sd.s5 _ _ R7;have OJ:=Sd.s5 _ _ aaO;have OL:=aaP.same Sd.s5;have WJ:=Sd.t6 _ _ K1;have WK:ky<YF.length:=by have:=lky.lt;omega
  have Se:YF[ky]?=some YF[ky]:=fN WK;generalize YF[ky]'WK=al at Se;obtain⟨le,hle,aes,JG⟩:=aaN.same Sd.s5 ky al Se;refine cF (bE.of OI) (v:=.ref al) (by rw[Tj];exact fO (by rw[bz,Se];rfl)) ?_;walk_at "go";refine gH (xs:=le.map V.int) (λj ys H'=>aB YL H'/\∃es:List Int,ys=es.map V.int/\es.length<=j/\∀z,z∈es↔∃(k:Nat)(r:Row),z=((k:Nat):Int)/\z∈le.take j/\rs[k]?=some r/\t∉bO r) ⟨aB.refl _,[],rfl,aH _,λz=>⟨λh=>(nomatch h),λ⟨k,r,_,h,_⟩=>by simp at h⟩⟩ ?_ ?_ ?_
  .rintro j ys H' _ ⟨s',_⟩;exact bE.of (s' _ _ hle)
  .rintro j x ys H17 hx ⟨JH,es,rfl,hel,hes⟩;have hjl:j<(le.map V.int).length:=(fq hx).1;rw[av] at hjl;sleep 193;obtain⟨k,r,hk,ez,hr,hw⟩:=(JG z).mp (fz hz);obtain⟨ga,gus,hga,hgl,hgp⟩:=(OL.same JH).at hr;sleep 45;have WL:=JH _ _ OJ;have aaW:=JH _ _ WJ;walk_at "go";refine cF (bE.of WL) (v:=.ref ga) (by rw[ez];exact fO hga) ?_;walk_at "go";refine Iv aaW (bE.of hgl) hgp ?_;have split:∀y,(∃(k:Nat)(r:Row),y=((k:Nat):Int)/\y∈le.take (j+1)/\rs[k]?=some r/\t∉bO r)↔(∃(k:Nat)(r:Row),y=((k:Nat):Int)/\y∈le.take j/\rs[k]?=some r/\t∉bO r)\/(y=z/\t∉bO r):=λy=>by
    rw[cB,hz];simp only[lX,aO,aA];constructor
    .rintro⟨k',r',h1,h2|h2,h3,h4⟩
     .exact .inl ⟨k',r',h1,h2,h3,h4⟩
     .have e:k'=k:=by omega
      subst e;rw[hr] at h3;sleep 259
    .rintro(⟨k',r',h1,h2,h3,h4⟩|⟨h1,h2⟩)
     .exact⟨k',r',h1,.inl h2,h3,h4⟩
     .exact⟨k,r,by rw[h1,ez],.inr h1,hr,h2⟩
   by_cases hm:t∈bO r
   .rw[decide_eq_true hm];walk_at "go";refine⟨JH,es,rfl,by omega,λy=>?_⟩;rw[hes y,split y];simp only[hm,not_true,and_false,or_false]
   .rw[decide_eq_false hm];walk_at "go";refine⟨JH,es++[z],by simp,by simp;omega,λy=>?_⟩;rw[aO,hes y,aA,split y];simp only[hm,not_false_eq_true,and_true]
  rintro ys H17 ⟨JH,es,rfl,hel,hes⟩ ex H18 To;rw[av] at hel hes;rw[cH] at hes;have L18:=(Sd.same JH).new To;have hex:=To.self;have aev:=L18.hc;have hcl:(cs'.map V.int).length<=81000:=by rw[av];omega
  have aew:(es.map V.int).length<=400:=by rw[av];omega
  clear To JH Sd OI OJ OL WJ hle;walk_at "go";rename_i H19 p19;rw[<- bF] at p19;have L19:=L18.Wr AP p19;refine⟨_,?_,cs'++es,ss++[y],_,rfl,L19,D.step hy (λz=>?_) (by omega),rfl⟩
  .have hlt:ss.length<rs.length:=by
    have d2:=(D.step (es:=es) hy (λz=>?_) (by omega)).few
    .rw[aR] at d2;simp at d2;omega
    .sleep 33
   rw[aR,aR,aR,jI];exact R4 hlt (by omega)
  .sleep 33
 .rintro σ' H9 ⟨⟨x5,x6,x7,x8,rfl⟩,s9,t9,JE,WE,R9⟩;walk_at "go";refine q f as H9 (s5.trans s9) (s5.free f5) JE (by omega) nd (λa h=>s5.free (R8 a h).1) fa λk a e=>?_;obtain⟨vs,h1,h2⟩:=R9 k a e;refine⟨vs,h1,?_⟩;rw[WD.length,cH,MI hok hup (λq=>?_) k] at h2
  .exact h2
  .rw[hmem q];constructor
   .rintro⟨ps,hps,hq⟩;obtain⟨r,hr,rfl⟩:=aF.mp hps;exact⟨r,hr,hq⟩
   .rintro⟨r,hr,hq⟩;exact⟨_,aF.mpr ⟨r,hr,rfl⟩,hq⟩
def dP(rs:List Row)(j:Nat):Bool:=decide ((if j=0 then 1 else 2)<=cnt rs j)
def fP(rs:List Row):List Int:=((List.range rs.length).filter (dP rs)).map λ(j:Nat)=>(j:Int)
def mz(rs:List Row)(i:Nat):List Int:=((List.range i).filter (dP rs)).map λ(j:Nat)=>(j:Int)
def xA(rs:List Row)(i:Nat):mz rs (i+1)=mz rs i++if dP rs i=true then[(i:Int)] else[]:=by
 unfold mz;rw[mZ,jE,bF]
 congr 1
 by_cases h:dP rs i=true
 .simp[h]
 .simp[h]
def zY(rs:List Row)(i:Nat):(mz rs i).length<=i:=by unfold mz;rw[av];exact bJ (i7 _ _) (by rw[gT];exact az _)
def MR(K:aD):Sp:=λvs H Q _=>∃(p:Addr)(us:List V)(rs:List Row),vs=[.ref p]/\H p=some (.lst us)/\Rows H us rs/\(∀r∈rs,r.ok rs.length)/\rs.length<=1000 /\
 ∀f H',aB H H'->H f=none->H' f=some (.lst ((fP rs).map V.int))->Q (.ref f) H'
def JI(T:Txt w K mg):b8 P w K mg base gS 4 T.meets.f T.meets.d ["code"] (MR K):=by
 refine T.meets.F.ok Jo (λvs H Q E h=>?_) (λcdv A outer s H vs Q E hr h=>?_)
 .sleep 155
 obtain⟨p,us,rs,rfl,hp,hrs,hok,hl,q⟩:=h;refine⟨_,(au (aJ (yC (iR.of (xs:=["place", "some"]) (bD.plain (x := "place") rfl (by decide +kernel) (by decide +kernel) rfl (by decide +kernel) rfl) (by decide +kernel)) (kB rfl T.fL (aa (aP T.leading (qv T) hr (aa (pv 0) ai)) ai)) (λ_ _ _ _=>(qK (K:=K) rfl (n:=2) rfl (bG (aX (i:=0) (show(["place", "some"]:List Str).Nodup from by decide +kernel) rfl (ao rfl)) (bG (aX (i:=1) (show(["place", "some"]:List Str).Nodup from by decide +kernel) rfl (ao rfl)) gj)))) (λ_ _ _ _=>(nh (aG Ue (aT (kD (K:=K) rfl) rfl T.eS BT.eO (aa (pv 1) ai)) (f6 (aG dU (pv 0) af (aM _)) af af) (aM _)))) (λ_ _ _ _=>(pv 0))))),?_⟩;sleep 198;sleep 6;refine⟨p,us,rs,rfl,hp,hrs,hok,hl,λf H1 as s1 hf hal _ hL=>?_⟩;walk_at "go";refine C0 (λi zs τ H'=>aB H1 H'/\zs=(mz rs i).map V.int/\∃x y,τ=[x,y]) ?_ ?_ ?_ ?_ ?_
 .exact⟨aB.refl _,rfl,_,_,rfl⟩
 .sleep 235;exact⟨bE.of (sm _ _ hf),by rw[av];exact zY rs i⟩
 .rw[av];omega
 .rintro i x p zs τ H' H2 hx ⟨sm,rfl,x0,y0,rfl⟩ n2;rw[bz] at hx;obtain⟨a,ha,rfl⟩:=dg.mp hx;obtain⟨l,el,Th⟩:=hL i a ha;have e2:H2 a=some (.lst (l.map V.int)):=n2.keep (sm _ _ el);have e:=xA rs i;have hml:(l.map V.int).length=l.length:=av _;have hm:dP rs i=decide ((if i=0 then 1 else 2)<=l.length):=by rw[Th];rfl
  walk_at "go"
  .sleep 144
  .sleep 121
  .sleep 144
  .sleep 121
 .rintro zs τ H' ⟨sm,rfl,x,y,rfl⟩ g H2 n2;refine q g H2 (by walk_at "same") (by walk_at "free") ?_;rw[n2.self,av,hal];rfl
end
def Row.gv(r:Row)(s:Int):Int:=if r.gD&&(decide (r.sd=s)||decide (r.sd=2)) then r.mQ.headD 0 else -1
def Row.rd(r:Row)(s:Int):List Int:=if r.gD&&!(decide (r.sd=s)||decide (r.sd=2)) then[] else r.FG
def vP{bs:List Int}(hb:∀b∈bs,0<=b/\b<8)(hs:s=0\/s=1):(s,b)∈kM r bs↔gM r s=true/\b∈bs:=by
 unfold kM;rw[mY];constructor
 .rintro⟨s',_,h⟩;split at h
  .rename_i Wl;obtain⟨b',hb1,e⟩:=aF.mp h;cases e;exact⟨Wl,(SN.iX hb b).mp hb1⟩
  .exact nomatch h
 .rintro⟨h1,h2⟩;refine⟨s,by simpa using hs,?_⟩;rw[if_pos h1];exact aF.mpr ⟨b,(SN.iX hb b).mpr h2,rfl⟩
def g7{n:Int}(h:r.ok n)(hs:s=0\/s=1):(s,b)∈dO r↔b∈r.rd s:=by unfold dO Row.rd;rw[vP (λb hb=>lN h b (qW b hb)) hs];unfold gM;cases r.gD<;>cases decide (r.sd=s)<;>cases decide (r.sd=2)<;>simp
def tM(h:r.gD=true):r.mQ.take 1=[r.mQ.headD 0]:=by cases r<;>first|rfl|cases h
def fQ{n:Int}(h:r.ok n)(hs:s=0\/s=1)(hb:0<=b):(s,b)∈bO r↔r.gv s=b:=by
 unfold bO Row.gv;by_cases hd:r.gD=true
 .rw[if_pos hd,vP (λb hb=>lN h b (rV _ _ hb)) hs,tM hd,aA];unfold gM;rw[hd];cases decide (r.sd=s)<;>cases decide (r.sd=2)<;>simp<;>first|omega|exact⟨λe=>e.symm,λe=>e.symm⟩
 .rw[if_neg hd];have:r.gD=false:=by simpa using hd
  rw[this];simp;omega
def OM{n:Int}(h:r.ok n)(s:Int):r.gv s<8:=by
 unfold Row.gv;split
 .rename_i e;have hd:r.gD=true:=by cases hr:r.gD<;>simp[hr] at e ⊢
  exact(lN h (r.mQ.headD 0) (rV 1 _ (by rw[tM hd];simp))).2
 .omega
def ON{n:Int}(h:r.ok n)(s:Int):∀b∈r.rd s,0<=b/\b<8:=λb hb=>by
 unfold Row.rd at hb;split at hb
 .exact nomatch hb
 .exact lN h b (qW b hb)
def WM(ms:List Nat)(r:Row):Nat:=r.ways.foldl (λm q=>m ||| ms.getD q.toNat 0) 0
def Ca(m:Nat)(g:Int):Nat:=if 0<=g then m &&& (255-2 ^ g.toNat) else m
def iK(ms:List Nat)(r:Row)(s:Int):Nat:=(r.rd s).foldl (λm b=>m ||| 2 ^ b.toNat) (Ca (WM ms r) (r.gv s))
theorem qX{α:Type}(f:α->Nat)(b:Nat):∀(l:List α)(m0:Nat),(l.foldl (λm x=>m ||| f x) m0).testBit b=(m0.testBit b||l.any λx=>(f x).testBit b)
 | [],m0=>by simp
 | x::l,m0=>by rw[List.foldl_cons,qX f b l,Nat.testBit_or,jD,Bool.or_assoc]
def DU(ms:List Nat)(r:Row)(b:Nat):(WM ms r).testBit b=r.ways.any λq=>(ms.getD q.toNat 0).testBit b:=by unfold WM;rw[qX];simp
def JJ:∀(g b:Fin 8),(255-2 ^ g.val:Nat).testBit b.val = !decide (b=g):=by decide
def JK{g:Int}(hg:g<8){b:Nat}(hb:b<8):(Ca m g).testBit b=(m.testBit b&&!decide ((b:Int)=g)):=by
 unfold Ca;split
 .rename_i h0;have:=JJ ⟨g.toNat,by omega⟩ ⟨b,hb⟩;rw[Nat.testBit_and];dsimp only at this;rw[this]
  congr 2
  simp only[Fin.mk.injEq,decide_eq_decide];omega
 .rw[decide_eq_false (show ¬(b:Int)=g by omega)];simp
def MS(m:Nat)(g:Int)(b:Nat)(h:(Ca m g).testBit b=true):m.testBit b=true:=by
 unfold Ca at h;split at h
 .rw[Nat.testBit_and] at h;simp only[rF] at h;exact h.1
 .exact h
def iY{ms:List Nat}{n:Int}(h:r.ok n){b:Nat}(hb:b<8):(iK ms r s).testBit b=true↔(b:Int)∈r.rd s\/(¬r.gv s=b/\∃q∈r.ways,(ms.getD q.toNat 0).testBit b=true):=by
 unfold iK;rw[qX,JK (OM h s) hb,DU];simp only[Bool.or_eq_true,rF,List.any_eq_true,Bool.not_eq_true',decide_eq_false_iff_not];constructor
 .rintro(⟨h1,h2⟩|⟨x,hx,h3⟩)
  .exact .inr ⟨λe=>h2 e.symm,h1⟩
  .rw[Nat.testBit_two_pow] at h3;have:=ON h s x hx;have e:(b:Int)=x:=by have:=of_decide_eq_true h3;omega
   rw[e];exact .inl hx
 .rintro(h1|⟨h1,h2⟩)
  .exact .inr ⟨_,h1,by rw[Nat.testBit_two_pow];exact decide_eq_true (by omega)⟩
  .exact .inl ⟨h2,λe=>h1 e.symm⟩
def JL{ms:List Nat}(hm:∀m∈ms,m<256){n:Int}(h:r.ok n)(s:Int):iK ms r s<256:=by
 refine Nat.lt_pow_two_of_testBit (n:=8) _ λi hi=>?_;unfold iK;rw[qX];have e1:(Ca (WM ms r) (r.gv s)).testBit i=false:=by
  cases e:(Ca (WM ms r) (r.gv s)).testBit i with
  | false=>rfl
  | true =>
   have:=MS _ _ _ e;rw[DU,List.any_eq_true] at this;obtain⟨q,_,hq⟩:=this;have hl:ms.getD q.toNat 0<2 ^ 8:=by
    rw[mG];cases e2:ms[q.toNat]? with
    | none=>simp
    | some m=>exact hm m (fz e2)
   rw[Nat.testBit_lt_two_pow (bT hl (Nat.pow_le_pow_right (by decide) hi))] at hq;cases hq
 rw[e1,Bool.false_or,List.any_eq_false];intro x hx;have:=ON h s x hx;rw[Nat.testBit_two_pow];simp;omega
structure tN (rs:List Row) (s:Int) (ms:List Nat):Prop where
 len:ms.length=rs.length
 lt:∀m∈ms,m<256
 snd:∀(k:Nat)(m:Nat)(b:Nat),ms[k]?=some m->b<8->m.testBit b=true->cE rs (s,(b:Int)) k
 inc:∀(k:Nat)(m:Nat)(r:Row),ms[k]?=some m->rs[k]?=some r->∀b,b<8->m.testBit b=true->(iK ms r s).testBit b=true
def tN.zero(rs:List Row)(s:Int):tN rs s (List.replicate rs.length 0) where
 len:=by simp
 lt:=λm hm=>by rw[(List.mem_replicate.mp hm).2];decide
 snd:=λk m b e _ h=>by rw[(List.mem_replicate.mp (fz e)).2] at h;simp at h
 inc:=λk m r e _ b _ h=>by rw[(List.mem_replicate.mp (fz e)).2] at h;simp at h
def getD_at{α:Type}{l:List α}{x d:α}(h:l[k]?=some x):l.getD k d=x:=by rw[mG,h];rfl
section
variable {rs:List Row}{s:Int}{ms:List Nat}(hs:s=0\/s=1)(hok:∀r∈rs,r.ok rs.length)
include hs hok
theorem tN.sound(I:tN rs s ms)(hr:rs[k]?=some r){b:Nat}(hb:b<8)(h:(iK ms r s).testBit b=true):cE rs (s,(b:Int)) k:=by
 have ho:=hok r (fz hr);rcases(iY ho hb).mp h with h1|⟨h1,q,hq,h2⟩
 .exact .here hr ((g7 ho hs).mpr h1)
 .have hqb:=Row.ig ho q hq;have hqn:q.toNat<ms.length:=by rw[I.len];omega
  have e1:ms[q.toNat]?=some ms[q.toNat]:=fN hqn;rw[getD_at e1] at h2;have hl:=I.snd q.toNat _ b e1 hb h2;refine .on (q:=q.toNat) hr (λhg=>h1 ((fQ ho hs (by omega)).mp hg)) ?_ hl;rw[Int.toNat_of_nonneg hqb.1];exact hq
theorem tN.set(I:tN rs s ms){m:Nat}(hm:ms[k]?=some m)(hr:rs[k]?=some r):tN rs s (ms.set k (iK ms r s)):=by
 have hk:k<ms.length:=(fq hm).1;have get:∀(j:Nat)(x:Nat),(ms.set k (iK ms r s))[j]?=some x->(j=k/\x=iK ms r s)\/(j≠k/\ms[j]?=some x):=λj x e=>by
  rw[List.getElem?_set] at e;split at e
  .rename_i e1;exact .inl ⟨e1.symm,(Option.some.inj e).symm⟩
  .rename_i e1;exact .inr ⟨λz=>e1 z.symm,e⟩
 have mono:∀(r':Row),r'∈rs->∀b,b<8->(iK ms r' s).testBit b=true->(iK (ms.set k (iK ms r s)) r' s).testBit b=true:=λr' hr' b hb h=>by
  have ho:=hok r' hr';rcases(iY ho hb).mp h with h1|⟨h1,q,hq,h2⟩
  .exact(iY ho hb).mpr (.inl h1)
  .refine(iY ho hb).mpr (.inr ⟨h1,q,hq,?_⟩);have hqb:=Row.ig ho q hq;by_cases e:k=q.toNat
   .rw[mG,List.getElem?_set,if_pos e,if_pos hk];rw[<- e,getD_at hm] at h2;exact I.inc k m r hm hr b hb h2
   .rw[mG,List.getElem?_set,if_neg e,<- mG];exact h2
 refine⟨by rw[eE];exact I.len,λx hx=>?_,λj x b e hb h=>?_,λj x r' e hr' b hb h=>?_⟩
 .obtain⟨j,hj⟩:=fV.mp hx;rcases get j x hj with⟨_,rfl⟩|⟨_,e⟩
  .exact JL I.lt (hok r (fz hr)) s
  .exact I.lt x (fz e)
 .rcases get j x e with⟨rfl,rfl⟩|⟨_,e⟩
  .exact I.sound hs hok hr hb h
  .exact I.snd j x b e hb h
 .rcases get j x e with⟨rfl,rfl⟩|⟨_,e⟩
  .rw[hr] at hr';cases hr';exact mono r (fz hr) b hb h
  .exact mono r' (fz hr') b hb (I.inc j x r' e hr' b hb h)
theorem tN.up(I:tN rs s ms)(hm:ms[k]?=some m)(hr:rs[k]?=some r):m<=iK ms r s:=by
 have e:m ||| iK ms r s=iK ms r s:=by
  refine Nat.eq_of_testBit_eq λi=>?_;rw[Nat.testBit_or];cases h:m.testBit i with
  | false=>rw[Bool.false_or]
  | true =>
   have hi:i<8:=by
    rcases aY i 8 with hl|hg
    .exact hl
    .rw[Nat.testBit_lt_two_pow (bT (show m<2 ^ 8 from I.lt m (fz hm)) (Nat.pow_le_pow_right (by decide) hg))] at h;cases h
   rw[I.inc k m r hm hr i hi h];rfl
 rw[<- e];exact Nat.left_le_or
theorem tN.done(I:tN rs s ms)(fx:∀(k:Nat)(r:Row)(m:Nat),rs[k]?=some r->ms[k]?=some m->iK ms r s=m){b:Nat}(hm:ms[k]?=some m)(hb:b<8):m.testBit b=true↔cE rs (s,(b:Int)) k:=by
 refine⟨I.snd k m b hm hb,λh=>?_⟩;have all:=jz (rs:=rs) (p:=(s,(b:Int))) (S:=λk=>∀m,ms[k]?=some m->m.testBit b=true) (λk r hr hp m hm=>?_) (λk q r hr hg hw ih m hm=>?_) k h
 .exact all m hm
 .have ho:=hok r (fz hr);rw[<- fx k r m hr hm];exact(iY ho hb).mpr (.inl ((g7 ho hs).mp hp))
 .have ho:=hok r (fz hr);rw[<- fx k r m hr hm];refine(iY ho hb).mpr (.inr ⟨λe=>hg ((fQ ho hs (by omega)).mpr e),_,hw,?_⟩);have hqb:=Row.ig ho _ hw;have hqn:q<ms.length:=by rw[I.len];omega
  have e1:ms[q]?=some ms[q]:=fN hqn;rw[gE,getD_at e1];exact ih _ e1
end
open HM in
def Row.ends(r:Row):fu->Bool
 | none=>uz (.str r.key) [.str "mark", .str "out", .str "back"]
 | some p=>uz (.str r.key) [.str "look", .str "out", .str "back"]&&decide (r.mQ.headD 0=p.2)
open HM in
def LeftOf(r:Row):fu->fu->Prop
 | none,u=>r.ends none=false/\u=none
 | some p,u=>r.ends (some p)=false/\((u=some p/\r.gv p.1≠p.2)\/(u=some (p.1,r.gv p.1)/\0<=r.gv p.1/\p.2∈r.rd p.1))
open HM in
def fu.lv(rs:List Row)(k:Nat):fu->Prop
 | none=>True
 | some p=>p∈jA rs k
open HM in
def DV(rs:List Row)(r:Row)(t:fu)(z:bP):Prop:=z.1∈r.ways/\LeftOf r t z.2/\fu.lv rs z.1.toNat z.2
open HM in
def K4:fu->Prop
 | none=>True
 | some p=>(p.1=0\/p.1=1)/\0<=p.2/\p.2<8
theorem LeftOf.ok{n:Int}(h:r.ok n){u:HM.fu}(ht:K4 t)(l:LeftOf r t u):K4 u/\u.isSome=t.isSome:=by
 cases t with
 | none=>rw[l.2];exact⟨trivial,rfl⟩
 | some p =>
  rcases l.2 with⟨rfl,_⟩|⟨rfl,h0,_⟩
  .exact⟨ht,rfl⟩
  .exact⟨⟨ht.1,h0,OM h _⟩,rfl⟩
theorem DW{α:Type}(f:α->Int):∀{xs ys:List α},xs.Pairwise (λp q=>f p<f q)->ys.Pairwise (λp q=>f p<f q)->(∀p,p∈xs↔p∈ys)->xs=ys
 | [],[],_,_,_=>rfl
 | [],y::ys,_,_,h=>absurd ((h y).mpr (by simp)) (by simp)
 | x::xs,[],_,_,h=>absurd ((h x).mp (by simp)) (by simp)
 | x::xs,y::ys,hx,hy,h=>by
  have h1:=pI.mp hx;have h2:=pI.mp hy;have e:x=y:=by
   rcases aI.mp ((h x).mp (by simp)) with e|e
   .exact e
   .rcases aI.mp ((h y).mpr (by simp)) with e'|e'
    .exact e'.symm
    .have:=h1.1 _ e';have:=h2.1 _ e;omega
  subst e;rw[DW f h1.2 h2.2 λp=>?_];constructor
  .intro hp;rcases aI.mp ((h p).mp (c9 _ hp)) with e|e
   .rw[e] at hp;have:=h1.1 _ hp;omega
   .exact e
  .intro hp;rcases aI.mp ((h p).mpr (c9 _ hp)) with e|e
   .rw[e] at hp;have:=h2.1 _ hp;omega
   .exact e
def d9(r:Row):HM.fu->List HM.fu
 | none=>if r.ends none then[] else[none]
 | some p=>if r.ends (some p) then[] else(if p∈bO r then[] else[some p])++if p∈dO r then((bO r).filter λq=>decide (q.1=p.1)).map some else[]
def FL(b:Int):(SN.fk [b]).length<=1:=by
 have h1:=SN.yQ [b];have h2:∀n∈SN.fk [b],n=b:=λn hn=>by unfold SN.fk at hn;obtain⟨k,hk,rfl⟩:=aF.mp hn;have:=(dJ.mp hk).2;simpa using this
 match h:SN.fk [b] with
 | []=>simp
 | [_]=>simp
 | x::y::l =>
  rw[h] at h1 h2;have e1:=h2 x (by simp);have e2:=h2 y (by simp);have:=(pI.mp h1).1 y (by simp);omega
def Cb(r:Row)(hs:s=0\/s=1):((bO r).filter λq=>decide (q.1=s)).length<=1:=by
 unfold bO;split
 .rename_i hd;have e:=tM hd;rw[e];unfold kM;have l1:=FL (r.mQ.headD 0);generalize r.mQ.headD 0=hd0 at l1 ⊢;have all:∀(s':Int),(((SN.fk [hd0]).map λb=>(s',b)).filter λq=>decide (q.1=s))=if s'=s then(SN.fk [hd0]).map λb=>(s',b) else[]:=λs'=>by
   split
   .rename_i e;rw[List.filter_eq_self];sleep 252
   .rename_i e;rw[List.filter_eq_nil_iff];sleep 252
  simp only[rM,List.flatMap_nil,iZ,jE,aR];rcases hs with rfl|rfl
  .sleep 113
  .sleep 113
 .simp
def FN(r:Row):(bO r).length<=16:=by
 unfold bO;split
 .unfold kM;have h:=j4 (r.mQ.take 1);simp only[rM,List.flatMap_nil,iZ,aR];have e:∀s:Int,(if gM r s=true then(SN.fk (r.mQ.take 1)).map λb=>(s,b) else[]).length<=8:=λs=>by split<;>simp[h]
  have h0:=e 0;have h1:=e 1;omega
 .simp
def tO(r:Row)(ht:K4 t):(d9 r t).length<=2:=by
 cases t with
 | none=>unfold d9;dsimp only;split<;>simp
 | some p =>
  sleep 255;have:=Cb r (s:=p.1) ht.1;split
  .simp
  .rw[aR];have h1:(if p∈bO r then([]:List HM.fu) else[some p]).length<=1:=by split<;>simp
   have h2:(if p∈dO r then((bO r).filter λq=>decide (q.1=p.1)).map some else([]:List HM.fu)).length<=1:=by
    split
    .rw[av];exact this
    .simp
   omega
def FO{n:Int}(h:r.ok n)(hg:(s,b)∈bO r):0<=b:=by
 unfold bO at hg;split at hg
 .have:=zV (λb hb=>lN h b (rV _ _ hb)) hg;have all:∀q∈cR,0<=q.2:=by decide
  exact all _ this
 .exact nomatch hg
def jj{n:Int}(h:r.ok n)(ht:K4 t)(u:HM.fu):u∈d9 r t↔LeftOf r t u:=by
 cases t with
 | none =>
  unfold d9 LeftOf;dsimp only;cases r.ends none<;>simp
 | some p =>
  obtain⟨hs,hb0,K1⟩:=ht;obtain⟨s,b⟩:=p;dsimp only at hs hb0 K1;unfold d9 LeftOf;dsimp only;cases r.ends (some (s,b)) with
  | true=>simp
  | false =>
   simp only[bW,if_false,true_and];rw[aO];have e1:u∈(if(s,b)∈bO r then([]:List HM.fu) else[some (s,b)])↔(u=some (s,b)/\r.gv s≠b):=by
    have mg:=fQ h hs hb0;split
    .rename_i e;simp[mg.mp e]
    .rename_i e;simp[show ¬r.gv s=b from λz=>e (mg.mpr z)]
   have e2:u∈(if(s,b)∈dO r then((bO r).filter λq=>decide (q.1=s)).map some else([]:List HM.fu))↔(u=some (s,r.gv s)/\0<=r.gv s/\b∈r.rd s):=by
    have mr:=g7 h hs (b:=b);split
    .rename_i e
     replace e:=mr.mp e
     rw[aF];constructor
     .rintro⟨⟨s',b'⟩,hq,rfl⟩;obtain⟨hg,hq2⟩:=dJ.mp hq;have hq2:s'=s:=by simpa using hq2
      subst hq2;have hb':0<=b':=FO h hg;have:=(fQ h hs hb').mp hg;rw[this];exact⟨rfl,hb',e⟩
     .rintro⟨rfl,h0,_⟩;exact⟨(s,r.gv s),dJ.mpr ⟨(fQ h hs h0).mpr rfl,by simp⟩,rfl⟩
    .rename_i e;simp[show ¬b∈r.rd s from λz=>e (mr.mpr z)]
   rw[e1,e2]
def lvB(rs:List Row)(k:Nat):HM.fu->Bool
 | none=>true
 | some p=>decide (p∈jA rs k)
def DX:lvB rs k t=true↔fu.lv rs k t:=by cases t<;>simp[lvB,fu.lv]
def MT(h:uz (.str r.key) [.str "look", .str "out", .str "back"]=true):nE r.vals 1=some (.int (r.mQ.headD 0)):=by cases r<;>first|rfl|(exact absurd (show uz (.str "num") [.str "look", .str "out", .str "back"]=true from h) (by decide))|(exact absurd (show uz (.str "copy") [.str "look", .str "out", .str "back"]=true from h) (by decide))|(exact absurd (show uz (.str "op") [.str "look", .str "out", .str "back"]=true from h) (by decide))|(exact absurd (show uz (.str "mark") [.str "look", .str "out", .str "back"]=true from h) (by decide))
abbrev j6(H:Hp):List V->List HM.fu->Prop:=Paired λx t=>eY H t x
theorem j6.same{ts:List HM.fu}(h:j6 H vs ts)(e:aB H H'):j6 H' vs ts:=dG (λ_ _ x=>eY.same x e) h
section
variable {P:Program}{w:World}{K:aD}{mg:Str->Option Value}{base:Heap}
def JM:Sp:=λvs H Q _=>∃(a tk gv:Addr)(x:V)(r:Row)(n:Int)(t:HM.fu)(us ws:List V),vs=[.ref a,x,.ref tk,.ref gv]/\H a=some (.tup r.vals)/\r.ok n/\eY H t x/\K4 t/\H tk=some (.lst us)/\bR H us (dO r)/\H gv=some (.lst ws)/\bR H ws (bO r) /\
 ∀(l:Addr)(xs:List V)(H':Hp),aB H H'->H l=none->H' l=some (.lst xs)->j6 H' xs (d9 r t)->Q (.ref l) H'
def pZ(T:Txt w K mg):b8 P w K mg base gS 1 T.ic.f T.ic.d ["row", "thing", "taken", "given"] JM:=by
 refine T.ic.F.ok j0 (λvs H Q E h=>?_) (λcdv A outer s H vs Q E hr h=>?_)
 .obtain⟨a,tk,gv,x,r,n,t,us,ws,rfl,_⟩:=h;rfl
 obtain⟨a,tk,gv,x,r,n,t,us,ws,rfl,ha,hok,hx,ht,htk,pQ,WN,hws,q⟩:=h;have cm:=T.jO.q;have cs:=T.jP.q;refine⟨_,(ak (cN (aG (Bs hr.units) (pv 1) bA (aM _))
 (au (aJ (f6 (aG gU (aS cO (pv 0) af (λ_ _=>rfl)) (gh (v:=.ref T.jO.a) rfl T.jO.c rfl) (by with_unfolding_all rfl)) (dM ai) (dM (aa bA ai)))))
 bw)
 (ak (cN (PW.pt (kj (aG gU (aS cO (pv 0) af (λ_ _=>rfl)) (gh (v:=.ref T.jP.a) rfl T.jP.c rfl) (by with_unfolding_all rfl)) (ju (aG dU (aS cO (pv 0) af (λ_ _=>rfl)) (aS cO (pv 1) af (λ_ _=>rfl)) (aM _)))))
 (au (aJ (dM ai)))
 bw)
 (ak (aE (i:=4) j0.nd rfl (ao rfl) (f6 (aG (BG hr.units) (pv 1) (pv 3) (by with_unfolding_all rfl)) (dM ai) (dM (aa (pv 1) ai))))
 (ak (cN (aG (BG hr.units) (pv 1) (pv 2) (by with_unfolding_all rfl))
 (au (fj (jw dR nF nG jW (pv 4) (aa (cP (bD.caps (x := "spot") (fr:=["thing"]) (ix:=[1]) (nm:=["thing"]) rfl rfl (by decide +kernel) rfl (by decide +kernel) rfl (by decide +kernel) ⟨rfl,trivial⟩ rfl (by decide +kernel) rfl ⟨⟨rfl,rfl,rfl⟩,trivial⟩) (cJ (pv 3)) (λ_ _ _ _=>(nh (aG dU (aS (nQ (K:=K) rfl) (pv 0) af (λ_ _=>rfl)) (aS (nQ (K:=K) rfl) (pv 1) af (λ_ _=>rfl)) (aM _)))) (λ_ _ _ _=>(pv 0))) ai))))
 bw)
 (au (aJ (pv 4))))))),?_⟩
 sleep 88;sleep 6;refine Oq hx ?_;cases t with
 | none =>
  show wL _ (.bl true) H;walk_at "go";split
  .rename_i he;sleep 216;sleep 255;rw[if_pos (show r.ends none=true from he)];exact .nil
  .rename_i he;walk_at "go";rename_i l H1 n1;refine q l _ H1 n1.same n1.1 n1.self ?_;sleep 255;rw[if_neg (show ¬r.ends none=true from he)];exact .cons rfl .nil
 | some p =>
  show wL _ (.bl false) H;obtain⟨b,rfl,hb⟩:=hx;have hwl:=hws.length;have hgl:(bO r).length<=16:=FN r;walk_at "go";have rest:r.ends (some p)=false->nx0 [some (.ref a),some (.ref b),some (.ref tk),some (.ref gv),none] H:=by
   intro he;have em:d9 r (some p)=(if p∈bO r then[] else[some p])++if p∈dO r then((bO r).filter λq=>decide (q.1=p.1)).map some else[]:=by sleep 255;rw[he];rfl
   refine Jd _ _ ?_;walk_at "go";refine Dk hb (bE.of WN) hws ?_;by_cases hg:p∈bO r
   case' pos =>
    rw[decide_eq_true hg];show wL _ (.bl true) H;walk_at "go";rename_i f H1 n1;have bs:∃vs,H1 f=some (.lst vs)/\j6 H1 vs (if p∈bO r then[] else[some p])/\vs.length<=1:=⟨[],n1.self,by rw[if_pos hg];exact .nil,aH _⟩
   case' neg =>
    rw[decide_eq_false hg];show wL _ (.bl false) H;walk_at "go";rename_i f H1 n1;have bs:∃vs,H1 f=some (.lst vs)/\j6 H1 vs (if p∈bO r then[] else[some p])/\vs.length<=1:=⟨[.ref b],n1.self,by rw[if_neg hg];exact .cons ⟨b,rfl,n1.keep hb⟩ .nil,az _⟩
   all_goals
    have s1:=n1.same;have ff:=n1.1;clear n1;obtain⟨vs,hf1,hvs,hvl⟩:=bs;have hb1:=s1 _ _ hb;have aaZ:=s1 _ _ htk;have aa0:=s1 _ _ WN;have aa1:=bR.same s1 pQ;have aa2:=bR.same s1 hws;refine Dk hb1 (bE.of aaZ) aa1 ?_;by_cases hr:p∈dO r
    .rw[decide_eq_true hr];show wL _ (.bl true) H1;walk_at "go";refine gH (xs:=ws) (λk zs H'=>H'=H1/\j6 H1 zs ((((bO r).take k).filter λq=>decide (q.1=p.1)).map some)) ⟨rfl,.nil⟩ ?_ ?_ ?_
     .rintro k zs H' _ ⟨rfl,_⟩;exact bE.of aa0
     .rintro k y zs H' hy ⟨rfl,hz⟩;obtain⟨t,Sf,c,rfl,hc⟩:=br aa2 hy;have Sg:=hz.length;rw[av] at Sg;have hle:=i7 (λq:Int×Int=>decide (q.1=p.1)) ((bO r).take k);rw[cG] at hle;refine⟨bV (by omega),?_⟩;have et:(bO r).take (k+1)=(bO r).take k++[t]:=by rw[cB,Sf];rfl
      walk_at "go"
      .rename_i e;refine⟨rfl,?_⟩;rw[et,jE,bF,rL (by simpa using e)];exact cI hz ⟨c,rfl,hc⟩
      .rename_i e;refine⟨rfl,?_⟩;rw[et,jE,bF,rK (by simpa using e)];simpa using hz
     .rintro zs H' ⟨rfl,hz⟩ l H2 n2;rw[hwl,cH] at hz;have Sg:=hz.length;rw[av] at Sg;have hle:=i7 (λq:Int×Int=>decide (q.1=p.1)) (bO r);have hf2:=n2.keep hf1;have hl2:=n2.self;have s2:=n2.same;clear n2;walk_at "go";rename_i H3 p3;have s3:=p3.same (s1.trans s2) ff;have kp:∀{ys:List V}{ts:List HM.fu},j6 H' ys ts->j6 H3 ys ts:=λh=>dG (λv t x=>by
       cases t with
       | none=>exact x
       | some u=>obtain⟨c,e1,e2⟩:=x;exact⟨c,e1,p3.keep (by intro z;subst z;rw[hf1] at e2;cases e2) (s2 _ _ e2)⟩) h
      refine q f _ H3 s3 ff p3.self ?_;rw[em,if_pos hr];exact gZ (kp hvs) (kp hz)
    .rw[decide_eq_false hr];show wL _ (.bl false) H1;walk_at "go";refine q f vs H1 s1 ff hf1 ?_;rw[em,if_neg hr,iZ];exact hvs
  clear Jd;cases he:uz (.str r.key) [.str "look", .str "out", .str "back"]
  .rw[if_neg (by decide),if_neg (by decide)];refine uI _ (rest ?_);unfold Row.ends;dsimp only;rw[he];rfl
  .rw[if_pos rfl];walk_at "go";refine sD (cM.of ha) (MT he) ?_;walk_at "go"
   .rename_i e l H1 n1;refine q l [] H1 n1.same n1.1 n1.self ?_;have:r.ends (some p)=true:=by unfold Row.ends;dsimp only;rw[he,decide_eq_true e];rfl
    sleep 255;rw[this];exact .nil
   .rename_i e;refine rest ?_;unfold Row.ends;dsimp only;rw[he,decide_eq_false e];rfl
def iL(rs:List Row)(r:Row)(t:HM.fu)(ks:List HM.bP):Prop:=ks.Pairwise (λx y=>HM.pW x<HM.pW y)/\∀z,z∈ks↔DV rs r t z
def JN:Sp:=λvs H Q _=>∃(o th lv:Addr)(ws:List Int)(xs:List V)(ts:List HM.fu)(as:List Addr)(rs:List Row),vs=[.ref o,.ref th,.ref lv]/\H o=some (.lst (ws.map V.int))/\ws.length<=2/\(∀q∈ws,0<=q/\q<rs.length)/\H th=some (.lst xs)/\j6 H xs ts/\ts.length<=2/\(∀t∈ts,K4 t)/\(∀t∈ts,∀u∈ts,t.isSome=u.isSome)/\H lv=some (.lst (as.map V.ref))/\as.length=rs.length/\vO H as rs /\
 ∀(l:Addr)(vs:List V)(ks:List HM.bP)(H':Hp),aB H H'->H l=none->H' l=some (.lst vs)->bZ H' vs ks->ks.Pairwise (λx y=>HM.pW x<HM.pW y)->(∀z,z∈ks↔z.1∈ws/\z.2∈ts/\fu.lv rs z.1.toNat z.2)->Q (.ref l) H'
def Cc(T:Txt w K mg):b8 P w K mg base gS 1 T.qQ.f T.qQ.d ["onward", "things", "lively"] JN:=by
 refine T.qQ.F.ok ny (λvs H Q E h=>?_) (λcdv A outer s H vs Q E hr h=>?_)
 .obtain⟨o,th,lv,ws,xs,ts,as,rs,rfl,_⟩:=h;rfl
 obtain⟨o,th,lv,ws,xs,ts,as,rs,rfl,ho,hw2,hw,Gy,hxs,K5,htk,hal,za,yV,hL,q⟩:=h;refine⟨_,(ak (aE (i:=3) ny.nd rfl (ao rfl) (dM ai))
 (ak (eK bY rfl (cJ (pv 0)) (aX (i:=4) ny.nd rfl (bQ rfl))
 (au (fj (jw dR nF nG jW (pv 3) (aa (cP (bD.caps (x := "thing") (fr:=["lively", "way"]) (ix:=[2,4]) (nm:=["way", "lively"]) rfl rfl (by decide +kernel) rfl (by decide +kernel) rfl (by decide +kernel) ⟨rfl,⟨rfl,trivial⟩⟩ rfl (by decide +kernel) rfl ⟨⟨rfl,rfl,rfl⟩,⟨⟨rfl,rfl,rfl⟩,trivial⟩⟩) (cJ (pv 1)) (λ_ _ _ _=>(nh (PW.pt (rY (aG ((LR (K:=K) rfl) hr.units) (pv 0) bA (aM _)) (pL (aG ((Dj (K:=K) rfl) hr.units) (pv 0) (aS (gI (K:=K) rfl) (pv 1) (pv 2) (λ_ _=>rfl)) (by with_unfolding_all rfl))))))) (λ_ _ _ _=>(bB (aa (pv 2) (aa (pv 0) ai))))) ai)))))
 (au (aJ (aT (BQ hr.units rfl) rfl T.oR BT.nU (aa (dw (Fo hr.units rfl) rfl T.Jq BT.CS (aa (pv 3) ai)) ai)))))),?_⟩
 sleep 88;sleep 6;sleep 217;refine f_list (xs:=ws.map V.int) (λi σ' H'=>(∃y,σ'=[some (.ref o),some (.ref th),some (.ref lv),some (.ref f),y])/\aB H H'/\∃(vs:List V)(ks:List HM.bP),H' f=some (.lst vs)/\bZ H' vs ks/\ks.length<=2*i/\∀z,z∈ks↔z.1∈ws.take i/\z.2∈ts/\fu.lv rs z.1.toNat z.2) ?_ ?_ ?_ ?_
 .exact⟨⟨_,rfl⟩,s1,[],[],hf1,.nil,aH _,λz=>by simp⟩
 .sleep 156;exact bE.of (s' _ _ ho)
 .rintro i x σ' H2 hx ⟨⟨y0,rfl⟩,s2,vs,ks,hf2,hks,ya,hmem⟩;rw[bz] at hx;obtain⟨q0,Ti,rfl⟩:=dg.mp hx;obtain⟨hq0,hq1⟩:=hw q0 (fz Ti);have hil:=(fq Ti).1;obtain⟨j,rfl⟩:∃j:Nat,q0=(j:Int):=⟨q0.toNat,by omega⟩;obtain⟨a,ha⟩:∃a,as[j]?=some a:=⟨_,fN (by omega)⟩;obtain⟨us,pQ,hps⟩:=hL j a ha;have Wq:=s2 _ _ pQ;have JO:=hps.same s2;have Si:=s2 _ _ Gy;have Sj:=hxs.same s2;have MU:=s2 _ _ za;have Oz:=hxs.length;have hnf:∀{b:Addr}{o:HO},H b=some o->b≠f:=λe z=>by rw[z,ff] at e;cases e
  walk_at "go";refine gH (xs:=xs) (λk zs H'=>aB H2 H'/\∃AX:List HM.bP,bZ H' zs AX/\AX.length<=k/\∀z,z∈AX↔z.1=(j:Int)/\z.2∈ts.take k/\fu.lv rs j z.2) ⟨aB.refl _,[],.nil,aH _,λz=>by simp⟩ ?_ ?_ ?_
  .rintro k zs H' _ ⟨s',_⟩;exact bE.of (s' _ _ Si)
  .rintro k y zs H3 hy ⟨s3,AX,hk2,aa3,hm2⟩;obtain⟨t,Sf,hyt⟩:=br Sj hy;have Sk:=eY.same hyt s3;have hkb:=(fq hy).1;have Sg:=hk2.length;sleep 66;refine Oq Sk ?_;have step:∀b:Bool,lvB rs j t=b->(b=true->∀(u:Addr)(H4:Hp),eU H3 u (.tup [.int (j:Int),y]) H4->aB H2 H4/\∃AX:List HM.bP,bZ H4 (zs++[.ref u]) AX/\AX.length<=k+1/\∀z,z∈AX↔z.1=(j:Int)/\z.2∈ts.take (k+1)/\fu.lv rs j z.2)/\(b=false->aB H2 H3/\∃AX:List HM.bP,bZ H3 zs AX/\AX.length<=k+1/\∀z,z∈AX↔z.1=(j:Int)/\z.2∈ts.take (k+1)/\fu.lv rs j z.2):=by
    intro b hb;have et:ts.take (k+1)=ts.take k++[t]:=by rw[cB,Sf];rfl
    refine⟨λe u H4 n4=>⟨s3.trans n4.same,AX++[((j:Int),t)],cI (bZ.same hk2 n4.same) ⟨u,y,rfl,n4.self,eY.same Sk n4.same⟩,by simp;omega,λz=>?_⟩,λe=>⟨s3,AX,hk2,by omega,λz=>?_⟩⟩
    .rw[e] at hb;rw[aO,hm2 z,et,aO,aA,aA];constructor
     .rintro(⟨h1,h2,h3⟩|rfl)
      .exact⟨h1,.inl h2,h3⟩
      .exact⟨rfl,.inr rfl,DX.mp hb⟩
     .rintro⟨h1,h2|h2,h3⟩
      .exact .inl ⟨h1,h2,h3⟩
      .exact .inr (Prod.ext h1 h2)
    .rw[e] at hb;rw[hm2 z,et,aO,aA];constructor
     .rintro⟨h1,h2,h3⟩;exact⟨h1,.inl h2,h3⟩
     .rintro⟨h1,h2|h2,h3⟩
      .exact⟨h1,h2,h3⟩
      .rw[h2] at h3;rw[DX.mpr h3] at hb;cases hb
   cases t with
   | none =>
    sleep 253;exact(step true rfl).1 rfl u H4 n4
   | some p =>
    show wL _ (.bl false) H3;obtain⟨b,rfl,hb⟩:=Sk;have Sl:=s3 _ _ MU;have FF:=s3 _ _ Wq;walk_at "go";refine cF (bE.of Sl) (v:=.ref a) (fO (by rw[bz,ha];rfl)) ?_;walk_at "go";refine Dk hb (bE.of FF) (bR.same s3 JO) ?_;by_cases hm:p∈jA rs j
    .rw[decide_eq_true hm];sleep 253;exact(step true (decide_eq_true hm)).1 rfl u H4 n4
    .rw[decide_eq_false hm];show wL _ (.bl false) H3;walk_at "go";exact(step false (decide_eq_false hm)).2 rfl
  .rintro zs H3 ⟨s3,AX,hk2,aa3,hm2⟩ l H4 n4;have DY:=n4.keep (s3 _ _ hf2);have aa4:=bZ.same (bZ.same hks s3) n4.same;have Sg:=hk2.length;have hvl:=hks.length;have hl4:=n4.self;have YM:=bZ.same hk2 n4.same;have s04:=(s2.trans s3).trans n4.same;clear n4;walk_at "go";rename_i H5 p5;have s5:=p5.same s04 ff;have sp:∀(v:V)(k:HM.bP),bq H4 v k->bq H5 v k:=λv k ⟨a1,u,e1,e2,e3⟩=>⟨a1,u,e1,p5.keep (by intro z;subst z;rw[DY] at e2;cases e2) e2,by
    revert e3
    generalize k.2=k2;intro e3;cases k2 with
    | none=>exact e3
    | some p=>obtain⟨b,e4,e5⟩:=e3;exact⟨b,e4,p5.keep (by intro z;subst z;rw[DY] at e5;cases e5) e5⟩⟩
   refine⟨⟨_,rfl⟩,s5,_,ks++AX,p5.self,gZ (dG sp aa4) (dG sp YM),by simp;omega,λz=>?_⟩;rw[aO,hmem z,hm2 z,cB,Ti,aO,Oz,cH];simp only[lX,aA];constructor
   .rintro(⟨h1,h2,h3⟩|⟨h1,h2,h3⟩)
    .exact⟨.inl h1,h2,h3⟩
    .exact⟨.inr h1,h2,by rw[h1];exact h3⟩
   .rintro⟨h1|h1,h2,h3⟩
    .exact .inl ⟨h1,h2,h3⟩
    .exact .inr ⟨h1,h2,by rw[h1] at h3;exact h3⟩
 .rintro σ' H2 ⟨⟨y0,rfl⟩,s2,vs,ks,hf2,hks,ya,hmem⟩;rw[av] at ya hmem;walk_at "go";refine RG (bE.of hf2) hks (by omega) ?_;intro p H3 zs n3 hz hzm;walk_at "go";have hin:∀z∈zs,z.1.2∈ts:=λz hz'=>((hmem z.1).mp ((hzm _).mp (aF.mpr ⟨z,hz',rfl⟩))).2.1;refine Mh n3.self (λz hz'=>(hz z hz').same n3.same) (λz hz' p hp=>?_) (λz hz' y hy=>hal _ (hin z hz') _ (hin y hy)) ?_
  .have:=htk _ (hin z hz');rw[hp] at this;obtain⟨h1,h2,h3⟩:=this;omega
  .intro l H4 vs4 ks4 n4 h4 m4 u4;exact q l vs4 ks4 H4 ((s2.trans n3.same).trans n4.same) ((s2.trans n3.same).free n4.1) n4.self (bZ.same h4 n4.same) u4 λz=>by rw[m4,hzm,hmem,cH]
end
def oX{rs:List Row}(h:Rows H us rs)(hr:rs[p]?=some r):∃a,nE us (p:Int)=some (.ref a)/\H a=some (.tup r.vals):=by have hp:p<rs.length:=(fq hr).1;have hl:=h.length;obtain⟨y,hy,a,e,ha⟩:=br h (i:=p) (x:=us[p]'(by omega)) (by simp[show p<us.length by omega]);rw[hr] at hy;cases hy;exact⟨a,fO (by rw[<- e];simp[show p<us.length by omega]),ha⟩
def JP(H0 H:Hp)(rs:List Row)(r:Row)(bs:List Addr)(ts:List HM.fu):Prop:=bs.length=ts.length/\∀(i:Nat)(b:Addr)(t:HM.fu),bs[i]?=some b->ts[i]?=some t->H0 b=none/\∃vs ks,H b=some (.lst vs)/\bZ H vs ks/\iL rs r t ks
section
variable {P:Program}{w:World}{K:aD}{mg:Str->Option Value}{base:Heap}
def FP:Sp:=λvs H Q _=>∃(a th lv:Addr)(r:Row)(xs:List V)(ts:List HM.fu)(as:List Addr)(rs:List Row),vs=[.ref a,.ref th,.ref lv]/\H a=some (.tup r.vals)/\r.ok rs.length/\H th=some (.lst xs)/\j6 H xs ts/\ts.length<=20/\(∀t∈ts,K4 t)/\H lv=some (.lst (as.map V.ref))/\as.length=rs.length/\vO H as rs /\
 ∀(l:Addr)(bs:List Addr)(H':Hp),aB H H'->H l=none->H' l=some (.lst (bs.map V.ref))->JP H H' rs r bs ts->Q (.ref l) H'
def zZ(T:Txt w K mg):b8 P w K mg base gS 4 T.oO.f T.oO.d ["row", "things", "lively"] FP:=by
 refine T.oO.F.ok jy (λvs H Q E h=>?_) (λcdv A outer s H vs Q E hr h=>?_)
 .obtain⟨a,th,lv,r,xs,ts,as,rs,rfl,_⟩:=h;rfl
 obtain⟨a,th,lv,r,xs,ts,as,rs,rfl,ha,hok,Gy,hxs,htl,hts,za,yV,hL,q⟩:=h;refine⟨_,(ak (aE (i:=3) jy.nd rfl (bQ rfl) (aP T.reads (zR T) hr (aa (pv 0) ai)))
 (ak (aE (i:=4) jy.nd rfl (bQ rfl) (aP T.gives (zS T) hr (aa (pv 0) ai)))
 (ak (aE (i:=5) jy.nd rfl (bQ rfl) (aP T.oN (tF T) hr (aa (pv 0) ai)))
 (au (aJ (cP (bD.caps (x := "thing") (fr:=["row", "lively", "taken", "given", "onward"]) (ix:=[0,2,3,4,5]) (nm:=["taken", "row", "onward", "lively", "given"]) rfl rfl (by decide +kernel) rfl (by decide +kernel) rfl (by decide +kernel) ⟨rfl,⟨rfl,⟨rfl,⟨rfl,⟨rfl,trivial⟩⟩⟩⟩⟩ rfl (by decide +kernel) rfl ⟨⟨rfl,rfl,rfl⟩,⟨⟨rfl,rfl,rfl⟩,⟨⟨rfl,rfl,rfl⟩,⟨⟨rfl,rfl,rfl⟩,⟨⟨rfl,rfl,rfl⟩,trivial⟩⟩⟩⟩⟩) (cJ (pv 1)) (λ_ _ _ _=>cQ) (λ_ _ _ _=>(aP T.qQ (Cc T) hr (aa (pv 5) (aa (aP T.ic (pZ T) hr (aa (pv 1) (aa (pv 0) (aa (pv 3) (aa (pv 4) ai))))) (aa (pv 2) ai))))))))))),?_⟩
 sleep 208;sleep 6;refine⟨a,r,rs.length,rfl,ha,hok,λtk us H1 s1 _ htk pQ=>?_⟩;walk_at "go";refine⟨a,r,rs.length,rfl,s1 _ _ ha,hok,λgv ws H2 s2 _ WN hws=>?_⟩;walk_at "go";refine⟨a,r,rfl,s2 _ _ (s1 _ _ ha),λwy H3 s3 _ hwy=>?_⟩;have xB:=s2.trans s3;have JQ:=s1.trans xB;have aa5:=xB _ _ htk;have FF:=pQ.same xB;have aa6:=s3 _ _ WN;have aa7:=hws.same s3;have K6:=JQ _ _ ha;have aa8:=JQ _ _ Gy;have WO:=hxs.same JQ;have Sl:=JQ _ _ za;have hL3:vO H3 as rs:=λk a e=>let⟨vs,h1,h2⟩:=hL k a e;⟨vs,JQ _ _ h1,h2.same JQ⟩;clear s1 s2 s3 xB htk pQ WN hws ha Gy hxs za hL;have Oz:=WO.length;walk_at "go";refine gH (xs:=xs) (λi ys H'=>aB H3 H'/\∃bs:List Addr,ys=bs.map V.ref/\JP H H' rs r bs (ts.take i)) ⟨aB.refl _,[],rfl,by simp,λi b t h=>by simp at h⟩ ?_ ?_ ?_
 .sleep 129;exact bE.of (s' _ _ aa8)
 .rintro i x ys H4 hx ⟨s4,bs,rfl,Wj,Cd⟩;obtain⟨t,hti,hxt⟩:=br WO hx;have hil:=(fq hx).1;rw[cG] at Wj;sleep 45;have AW:=hts t (fz hti);walk_at "go";refine⟨a,tk,gv,x,r,rs.length,t,us,ws,rfl,s4 _ _ K6,hok,eY.same hxt s4,AW,s4 _ _ aa5,FF.same s4,s4 _ _ aa6,aa7.same s4,λVR xs2 H5 s5 _ Si Sj=>?_⟩;walk_at "go";have K7:=s4.trans s5;refine⟨wy,VR,lv,r.ways,xs2,d9 r t,as,rs,rfl,K7 _ _ hwy,Row.oS r,λq hq=>?_,Si,Sj,tO r AW,λu hu=>((jj hok AW u).mp hu |>.ok hok AW).1,λu hu v hv=>?_,K7 _ _ Sl,yV,λk a e=>let⟨vs,h1,h2⟩:=hL3 k a e;⟨vs,K7 _ _ h1,h2.same K7⟩,λl vs6 ks6 H6 s6 fl YN hk6 u6 m6=>?_⟩
  .exact Row.ig hok q hq
  .rw[((jj hok AW u).mp hu |>.ok hok AW).2,((jj hok AW v).mp hv |>.ok hok AW).2]
  .have s36:=K7.trans s6;refine⟨s36,bs++[l],by simp,by simp;omega,λj b t' hb ht'=>?_⟩;rcases aY j bs.length with hlt|hge
   .rw[i6 hlt] at hb;have hj:j<i:=by omega
    rw[rO (by omega)] at ht';obtain⟨h0,vs,ks,h1,h2,h3⟩:=Cd j b t' hb (by rw[rO hj];exact ht');exact⟨h0,vs,ks,(s5.trans s6) _ _ h1,bZ.same h2 (s5.trans s6),h3⟩
   .rw[iD hge] at hb;have hj:j=i:=by have:=(fq hb).1;simp at this;omega
    subst hj;rw[rO (by omega),hti] at ht';cases ht';rw[show j-bs.length=0 by omega] at hb;cases hb;refine⟨(JQ.trans K7).free fl,vs6,ks6,YN,hk6,u6,λz=>?_⟩;rw[m6 z,jj hok AW];rfl
 .rintro ys H4 ⟨s4,bs,rfl,Cd⟩ l H5 n5;rw[Oz,cH] at Cd;refine q l bs H5 ((JQ.trans s4).trans n5.same) ((JQ.trans s4).free n5.1) n5.self ⟨Cd.1,λi b t hb ht=>?_⟩;obtain⟨h0,vs,ks,h1,h2,h3⟩:=Cd.2 i b t hb ht;exact⟨h0,vs,ks,n5.keep h1,bZ.same h2 n5.same,h3⟩
end
def ef(H:Hp)(rs:List Row)(kvs:fZ):Prop:=∀x∈kvs,∃(a:Addr)(vs:List V)(ks:List HM.bP)(k:Nat)(r:Row),x.2.2=.ref a/\H a=some (.lst vs)/\bZ H vs ks/\x.1.1=(k:Int)/\rs[k]?=some r/\iL rs r x.1.2 ks
def cz(rs:List Row)(k:Nat):List HM.fu:=(jA rs k).map some++[none]
def bS(rs:List Row)(n:Nat):List HM.bP:=(List.range n).flatMap λk=>(cz rs k).map λt=>((k:Int),t)
def eY.xC(h:eY H t v)(hf:H f=some (.ext φ))(p:nj H f o H'):eY H' t v:=by
 cases t with
 | none=>exact h
 | some p2=>obtain⟨b,e1,e2⟩:=h;exact⟨b,e1,p.keep (by intro z;subst z;rw[hf] at e2;cases e2) e2⟩
theorem bq.xC{k:HM.bP}(h:bq H v k)(hf:H f=some (.ext φ))(p:nj H f o H'):bq H' v k:=by obtain⟨a,u,e,h1,h2⟩:=h;exact⟨a,u,e,p.keep (by intro z;subst z;rw[hf] at h1;cases h1) h1,eY.xC h2 hf p⟩
theorem ef.same(h:ef H rs kvs)(s:aB H H'):ef H' rs kvs:=λx hx=>by obtain⟨a,vs,ks,k,r,h1,h2,h3,h4⟩:=h x hx;exact⟨a,vs,ks,k,r,h1,s _ _ h2,bZ.same h3 s,h4⟩
theorem ef.xC(h:ef H rs kvs)(hf:H f=some (.ext φ))(p:nj H f o H'):ef H' rs kvs:=λx hx=>by obtain⟨a,vs,ks,k,r,h1,h2,h3,h4⟩:=h x hx;exact⟨a,vs,ks,k,r,h1,p.keep (by intro z;subst z;rw[hf] at h2;cases h2) h2,dG (λ_ _ x=>bq.xC x hf p) h3,h4⟩
def Ce(h:bR H vs ps):j6 H vs (ps.map some):=by
 induction h with
 | nil=>exact .nil
 | cons h _ ih=>exact .cons h ih
def nA(rs:List Row)(k:Nat):(cz rs k).length<=17:=by have:=lO rs k;unfold cz;simp;omega
def vQ(rs:List Row)(k:Nat):∀t∈cz rs k,K4 t:=λt ht=>by
 unfold cz at ht;rcases aO.mp ht with ht|ht
 .obtain⟨p,hp,rfl⟩:=aF.mp ht;sleep 246;exact all p (dJ.mp hp).1
 .rw[aA.mp ht];trivial
def nB(rs:List Row)(n:Nat):bS rs (n+1)=bS rs n++(cz rs n).map λt=>((n:Int),t):=by unfold bS;rw[mZ,List.flatMap_append];simp
theorem oY(rs:List Row):∀n,(bS rs n).length<=17*n
 | 0=>by simp[bS]
 | n+1=>by have:=oY rs n;have h:=nA rs n;rw[nB,aR,av];omega
def vR(rs:List Row)(k:Nat):(cz rs k).Nodup:=by
 unfold cz;rw[gp];refine⟨?_,by simp,λx hx y hy e=>?_⟩
 .have h:(jA rs k).Nodup:=(List.Pairwise.filter _ (show cR.Pairwise (· ≠ ·) by decide));exact lg.mpr (h.imp λh e=>h (Option.some.inj e))
 .obtain⟨p,_,rfl⟩:=aF.mp hx;rw[aA.mp hy] at e;cases e
def JR(h:(cz rs i)[j]?=some t):((i:Int),t)∉bS rs i++((cz rs i).take j).map (λt=>((i:Int),t)):=by
 intro hm;rcases aO.mp hm with hm|hm
 .unfold bS at hm;obtain⟨k,hk,hz⟩:=mY.mp hm;obtain⟨u,_,e⟩:=aF.mp hz;have e1:(k:Int)=(i:Int):=congrArg Prod.fst e;have:=fW.mp hk;omega
 .obtain⟨u,hu,e⟩:=aF.mp hm;have e2:u=t:=congrArg Prod.snd e;subst e2;obtain⟨m,hm,e3⟩:=List.mem_take_iff_getElem.mp hu;have hj:=(fq h);obtain⟨hjl,hje⟩:=hj;have:=(rP (vR rs i)).mp (e3.trans hje.symm);omega
section
variable {P:Program}{w:World}{K:aD}{mg:Str->Option Value}{base:Heap}
def FQ(P:Program)(w:World):Sp:=λvs H Q _=>∃(c:Addr)(us:List V)(rs:List Row),vs=[.ref c]/\H c=some (.lst us)/\Rows H us rs/\(∀r∈rs,r.ok rs.length)/\rs.length<=200 /\
 ∀(d:Addr)(ep:Nat)(kvs:fZ)(H':Hp),aB H H'->H d=none->H' d=some (.ext (dN P w d ep kvs))->cK H' kvs->kvs.map (·.1)=bS rs rs.length->ef H' rs kvs->Q (.ref d) H'
def Cf(T:Txt w K mg):b8 P w K mg base gS 5 T.qR.f T.qR.d ["code"] (FQ P w):=by
 refine T.qR.F.ok fK (λvs H Q E h=>?_) (λcdv A outer s H vs Q E hr h=>?_)
 .obtain⟨c,us,rs,rfl,_⟩:=h;rfl
 obtain⟨c,us,rs,rfl,hc,hrs,hok,hn,q⟩:=h;refine⟨_,(ak (aE (i:=1) fK.nd rfl (ao rfl) (aP T.live (DR T) hr (aa (pv 0) ai)))
 (ak (aE (i:=2) fK.nd rfl (ao rfl) zg)
 (ak (eK bY rfl (kB rfl T.fL (aa (pv 0) ai)) (ng (n:=2) rfl (bG (aX (i:=3) fK.nd rfl (ao rfl)) (bG (aX (i:=4) fK.nd rfl (ao rfl)) gj)))
 (ak (aE (i:=5) fK.nd rfl (ao rfl) (ay sj (aS bL (pv 1) (pv 3) (λ_ _=>rfl)) (dM (aa bA ai))))
 (au (eK bY rfl (Br rfl T.Jr (aa (pv 5) (aa (aP T.oO (zZ T) hr (aa (pv 4) (aa (pv 5) (aa (pv 1) ai)))) ai))) (ng (n:=2) rfl (bG (aX (i:=6) fK.nd rfl (ao rfl)) (bG (aX (i:=7) fK.nd rfl (ao rfl)) gj)))
 (au (zh hr.units (pv 2) (bB (aa (pv 3) (aa (pv 6) ai))) (pv 7) rfl))))))
 (au (aJ (pv 2)))))),?_⟩
 show(_:TS) (Ends.mk _ _ _ _) [_,_,_,_,_,_,_,_] H;sleep 6;refine⟨c,us,rs,rfl,hc,hrs,hok,hn,λlv as H1 s1 _ za yV _ _ _ hL=>?_⟩;walk_at "go";rename_i d ep H2 n2;have fd:=(show H d=none from s1.free n2.1);have s2:=s1.trans n2.same;have hd2:=n2.self;have MU:=n2.keep za;have N7:vO H2 as rs:=λk a e=>let⟨vs,h1,h2⟩:=hL k a e;⟨vs,n2.keep h1,h2.same n2.same⟩;have fd1:=n2.1;have s12:=n2.same;clear n2;sleep 212;refine sF (xs:=us) (λi σ' H'=>(∃y3 y4 y5 y6 y7,σ'=[some (.ref c),some (.ref lv),some (.ref d),y3,y4,y5,y6,y7])/\aB H1 H'/\∃ep kvs,H' d=some (.ext (dN P w d ep kvs))/\cK H' kvs/\kvs.map (·.1)=bS rs i/\ef H' rs kvs) ?_ ?_ ?_ ?_
 .exact⟨⟨_,_,_,_,_,rfl⟩,s12,ep,[],hd2,(λx hx=>nomatch hx),rfl,λx hx=>nomatch hx⟩
 .sleep 156;exact bE.of (s' _ _ (s1 _ _ hc))
 .rintro i x p σ' H3 H4 hx ⟨⟨y3,y4,y5,y6,y7,rfl⟩,s3,ep3,kvs,JB,Tf,em,hla⟩ n4;obtain⟨r,ML,a,rfl,ha⟩:=br hrs hx;have MV:=hok r (fz ML);have MW:aB H1 H4:=s3.trans n4.same;have YO:=n4.keep JB;have YM:=Tf.same n4.same;have WQ:=ef.same hla n4.same;walk_at "go";have hil:=(fq ML).1;obtain⟨al,hal⟩:∃a,as[i]?=some a:=⟨_,fN (by omega)⟩;obtain⟨ws,hws,hps⟩:=hL i al hal;have abd:=MW _ _ hws;have hwl:=hps.length;have Th:=lO rs i;clear n4 JB Tf hla;refine cF (bE.of (MW _ _ za)) (v:=.ref al) (fO (by rw[bz,hal];rfl)) ?_;walk_at "go";rename_i mk H5 n5 tg H6 n6;have K8:=n5.same.trans n6.same;have MY:=MW.trans K8;have YQ:=n6.self;have hts:j6 H6 (ws++[.str "mark"]) (cz rs i):=gZ (Ce (hps.same MY)) (.cons rfl .nil);have OO:=K8 _ _ YO;have hk6:=YM.same K8;have abe:=ef.same WQ K8;clear n5 n6 K8 YO YM WQ abd;refine⟨a,tg,lv,r,_,cz rs i,as,rs,rfl,MY _ _ (s1 _ _ ha),MV,YQ,hts,bJ (nA rs i) (by decide),vQ rs i,MY _ _ za,yV,λk a e=>let⟨vs,h1,h2⟩:=hL k a e;⟨vs,MY _ _ h1,h2.same MY⟩,λl bs H7 s7 _ hl Cd=>?_⟩;walk_at "go";have JS:=s7 _ _ OO;have hk7:=hk6.same s7;have JT:=ef.same abe s7;have abf:=hts.same s7;have abg:=s7 _ _ YQ;have Wj:=Cd.1;have htl:=hts.length;have ya:kvs.length<=17*rs.length:=by have h1:=congrArg List.length em;rw[av] at h1;have h2:=oY rs i;have h3:17*i<=17*rs.length:=Nat.mul_le_mul_left _ (by omega);omega
  have hld:l≠d:=λz=>by rw[z,JS] at hl;cases hl
  have htd:tg≠d:=λz=>by rw[z,OO] at YQ;cases YQ
  have WR:=nA rs i;refine Vu (t1:=false) (t2:=false) (λj σ' H'=>(∃y6 y7,σ'=[some (.ref c),some (.ref lv),some (.ref d),some (.int (i:Int)),some (.ref a),some (.ref tg),y6,y7])/\(∀b o,b≠d->H7 b=some o->H' b=some o)/\∃ep kvs',H' d=some (.ext (dN P w d ep kvs'))/\cK H' kvs'/\kvs'.map (·.1)=bS rs i++((cz rs i).take j).map (λt=>((i:Int),t))/\ef H' rs kvs') ?_ ?_ ?_ ?_
  .exact⟨⟨_,_,rfl⟩,λb o _ e=>e,ep3,kvs,JS,hk7,by simpa using em,JT⟩
  .rintro j σ' H' _ ⟨_,k',_⟩;exact⟨bE.of (k' _ _ htd abg),bE.of (k' _ _ hld hl)⟩
  .rintro j x y p σ' H8 H9 hx hy ⟨⟨y6,y7,rfl⟩,k8,ep8,MZ,GA,YR,Tp,Sm⟩ n9;obtain⟨t,htj,hxt⟩:=br abf hx;rw[bz] at hy;obtain⟨b,hbj,rfl⟩:=dg.mp hy;obtain⟨h0b,bvs,bks,hb7,abh,abi⟩:=Cd.2 j b t hbj htj;walk_at "go";rename_i tu zW DZ;have hbd:b≠d:=λz=>by rw[z,OO] at h0b;cases h0b
   have nd7:∀{c:Addr}{zs:List V},H7 c=some (.tup zs)->c≠d:=λe z=>by rw[z,JS] at e;cases e
   have t8:∀{v:V}{u:HM.fu},eY H7 u v->eY H8 u v:=λ{v u} h=>by
    cases u with
    | none=>exact h
    | some q=>obtain⟨c,e1,e2⟩:=h;exact⟨c,e1,k8 _ _ (nd7 e2) e2⟩
   have h8:∀(v:V)(k:HM.bP),bq H7 v k->bq H8 v k:=λv k ⟨c,u,e1,e2,e3⟩=>⟨c,u,e1,k8 _ _ (nd7 e2) e2,t8 e3⟩;have z6:=n9.same.trans DZ.same;have tP:=z6 _ _ GA;have hkey:bq zW (.ref tu) ((i:Int),t):=⟨tu,x,rfl,DZ.self,eY.same (t8 hxt) z6⟩;have acW:MZ.length<=17*i+17:=by have h1:=congrArg List.length Tp;rw[av,aR,av,cG] at h1;have h2:=oY rs i;omega
   refine IY tP (YR.same z6) hkey (by omega) ?_;intro qi zX yc;have hnew:((i:Int),t)∉MZ.map (·.1):=by rw[Tp];exact JR htj
   rw[sR hnew] at yc;refine⟨⟨_,_,rfl⟩,λb o hb e=>yc.keep hb (z6 _ _ (k8 b o hb e)),qi,_,yc.self,λz hz=>?_,?_,λz hz=>?_⟩
   .rcases aO.mp hz with hz|hz
    .exact bq.xC ((YR.same z6) z hz) tP yc
    .rw[aA.mp hz];exact bq.xC hkey tP yc
   .rw[bF,Tp,cB,htj,bF,mV];rfl
   .rcases aO.mp hz with hz|hz
    .exact ef.xC (ef.same Sm z6) tP yc z hz
    .rw[aA.mp hz];exact⟨b,bvs,bks,i,r,rfl,yc.keep hbd (z6 _ _ (k8 _ _ hbd hb7)),dG (λv k h=>bq.xC (bq.same (h8 v k h) z6) tP yc) abh,rfl,ML,abi⟩
  .rintro σ' H8 ⟨⟨y6,y7,rfl⟩,k8,ep8,MZ,GA,YR,Tp,Sm⟩;rw[av,Wj,htl,Nat.min_self,cH,<- nB] at Tp;refine Mu _ _ ?_;exact⟨⟨_,_,_,_,_,rfl⟩,λb o e=>k8 b o (λz=>by subst z;rw[fd1] at e;cases e) (s7 _ _ (MY _ _ e)),ep8,MZ,GA,YR,Tp,Sm⟩
 .rintro σ' H3 ⟨⟨y3,y4,y5,y6,y7,rfl⟩,s3,ep3,kvs,JB,Tf,em,hla⟩;rw[qu] at em;walk_at "go";exact q d ep3 kvs H3 (s1.trans s3) fd JB Tf em hla
end
section
variable {α:Type} [DecidableEq α]
def dB(L:α->List α)(ks:List α)(o:α):List α:=ks.flatMap λx=>((L x).filter λz=>decide (z=o)).map λ_=>x
def OP(L:α->List α)(F:List (α×Int)):Prop:=∀x∈F,1<=x.2/\(∀o∈L x.1,∃m,(o,m)∈F/\m<x.2)/\(x.2=1/\L x.1=[]\/∃o∈L x.1,(o,x.2-1)∈F)
structure vS (ks:List α) (L:α->List α) (F:List (α×Int)):Prop where
 nd:(F.map (·.1)).Nodup
 sub:∀x∈F,x.1∈ks
 fin:OP L F
 out:∀h∈ks,h∉F.map (·.1)->∃o∈L h,o∉F.map (·.1)
def mR(L:α->List α)(G:List α)(h:α):Nat:=((L h).filter λo=>decide (o∉G)).length
structure ir (ks:List α) (L:α->List α) (F:List (α×Int)) (w:α->Int) (R:List α):Prop where
 nd:(F.map (·.1)).Nodup
 sub:∀x∈F,x.1∈ks
 fin:OP L F
 cnt:∀h∈ks,w h=mR L (F.map (·.1)) h
 Sn:R.Nodup
 K9:∀h,h∈R↔h∈ks/\h∉F.map (·.1)/\w h=0
def FT{L:α->List α}{G:List α}{h:α}(e:mR L G h=0):∀o∈L h,o∈G:=λo ho=>rH λn=>by have:o∈(L h).filter λo=>decide (o∉G):=dJ.mpr ⟨ho,decide_eq_true n⟩;rw[mR] at e;rw[List.length_eq_zero_iff.mp e] at this;exact nomatch this
def ir.done{ks:List α}{L:α->List α}{F:List (α×Int)}{w:α->Int}(v:ir ks L F w []):vS ks L F:=by
 refine⟨v.nd,v.sub,v.fin,λh hk hf=>rH λn=>?_⟩;have:h∈([]:List α):=(v.K9 h).mpr ⟨hk,hf,by
  rw[v.cnt h hk];have:(L h).filter (λo=>decide (o∉F.map (·.1)))=[]:=List.filter_eq_nil_iff.mpr λo ho e=>n ⟨o,ho,of_decide_eq_true e⟩;rw[mR,this];rfl⟩
 exact nomatch this
def ir.start{ks:List α}{L:α->List α}(nd:ks.Nodup):ir ks L [] (λh=>((L h).length:Int)) (ks.filter λh=>decide (((L h).length:Int)=0)):=by
 refine⟨.nil,(λx hx=>nomatch hx),(λx hx=>nomatch hx),λh _=>?_,List.Pairwise.filter _ nd,λh=>?_⟩
 .have:(L h).filter (λo=>decide (o∉List.map (·.1) ([]:List (α×Int))))=L h:=List.filter_eq_self.mpr λo _=>by simp
  rw[mR,this]
 .rw[dJ];simp
def JU{L:α->List α}{o x:α}:∀{ks:List α},ks.Nodup->x∈ks->(dB L ks o).count x=(L x).count o:=by
 intro ks;have each:∀y,(((L y).filter λz=>decide (z=o)).map λ_=>y).count x=if y=x then(L x).count o else 0:=λy=>by
  generalize hn:((L y).filter λz=>decide (z=o))=l;have e:l.map (λ_=>y)=List.replicate l.length y:=List.map_const';rw[e,List.count_replicate];by_cases hy:y=x
  .subst hy;simp only[BEq.rfl,if_true];rw[<- hn,List.count_eq_length_filter];exact congrArg List.length (List.filter_congr λz _=>by by_cases hz:z=o<;>simp[hz])
  .rw[if_neg hy,if_neg (by simpa using hy)]
 induction ks with
 | nil=>intro _ h;exact nomatch h
 | cons y ks ih =>
  intro nd hx;have XS:=iE.mp nd;rw[dB,rM,List.count_append,each];by_cases hy:y=x
  .subst hy;rw[if_pos rfl];have z:(ks.flatMap λx=>((L x).filter λz=>decide (z=o)).map λ_=>x).count y=0:=by rw[List.count_eq_zero];intro hm;obtain⟨a,ha,hb⟩:=mY.mp hm;obtain⟨_,_,rfl⟩:=aF.mp hb;exact XS.1 ha
   rw[z];rfl
  .rw[if_neg hy,Nat.zero_add];exact ih XS.2 ((aI.mp hx).resolve_left λe=>hy e.symm)
def JV{L:α->List α}{ks:List α}{o x:α}:x∈dB L ks o↔x∈ks/\o∈L x:=by
 unfold dB;rw[mY];constructor
 .rintro⟨y,hy,hx⟩;obtain⟨z,hz,rfl⟩:=aF.mp hx;obtain⟨h1,h2⟩:=dJ.mp hz;rw[of_decide_eq_true h2] at h1;exact⟨hy,h1⟩
 .rintro⟨hx,ho⟩;exact⟨x,hx,aF.mpr ⟨o,dJ.mpr ⟨ho,by simp⟩,rfl⟩⟩
def FU{L:α->List α}{G:List α}{h x:α}(hG:h∉G):mR L G x=mR L (G++[h]) x+(L x).count h:=by
 unfold mR;induction L x with
 | nil=>rfl
 | cons o l ih =>
  by_cases e:o=h
  .subst e;rw[rL (by simpa using hG),rK (by simp),List.count_cons_self,eB,ih];omega
  .rw[List.count_cons_of_ne e];by_cases g:o∈G
   .rw[rK (by simp[g]),rK (by simp[g]),ih]
   .rw[rL (by simp[g]),rL (by simp[g,e]),eB,eB,ih];omega
structure oZ (ks:List α) (L:α->List α) (G:List α) (E:List α) (j:Nat) (w:α->Int) (R:List α):Prop where
 cnt:∀x∈ks,w x=mR L G x+((E.drop j).count x:Nat)
 Sn:R.Nodup
 K9:∀x,x∈R↔x∈ks/\x∉G/\w x=0
def ir.pop{ks:List α}{L:α->List α}{F:List (α×Int)}{w:α->Int}{R:List α}{h:α}(nd:ks.Nodup)(v:ir ks L F w (R++[h])):
  h∈ks/\h∉F.map (·.1)/\(∀o∈L h,o∈F.map (·.1))/\oZ ks L (F.map (·.1)++[h]) (dB L ks h) 0 w R:=by
 obtain⟨h1,h2,h3⟩:=(v.K9 h).mp (by simp);have h4:=v.cnt h h1;refine⟨h1,h2,FT (by omega),λx hx=>?_,(gp.mp v.Sn).1,λx=>?_⟩
 .rw[v.cnt x hx,List.drop_zero,JU nd hx,FU h2];simp
 .have hR:h∉R:=λz=>(gp.mp v.Sn).2.2 h z h (by simp) rfl;have:=v.K9 x;rw[aO,aA] at this ⊢;constructor
  .intro hx;obtain⟨a,b,c⟩:=this.mp (.inl hx);exact⟨a,λz=>z.elim b λe=>hR (e▸hx),c⟩
  .rintro⟨a,b,c⟩;exact(this.mpr ⟨a,λz=>b (.inl z),c⟩).resolve_right λe=>b (.inr e)
def tQ(w:α->β)(x:α)(n:β):α->β:=λy=>if y=x then n else w y
def oZ.next{ks:List α}{L:α->List α}{G:List α}{h:α}{w:α->Int}{R:List α}{x:α}(v:oZ ks L (G++[h]) (dB L ks h) j w R)
  (cl:∀y∈ks,y∈G->∀o∈L y,o∈G)(hG:h∉G)(hL:∀o∈L h,o∈G)(hx:(dB L ks h)[j]?=some x):
  1<=w x/\x∈ks/\(w x-1=0->oZ ks L (G++[h]) (dB L ks h) (j+1) (tQ w x (w x-1)) (R++[x]))/\(w x-1≠0->oZ ks L (G++[h]) (dB L ks h) (j+1) (tQ w x (w x-1)) R):=by
 obtain⟨hk,hh⟩:=JV.mp (fz hx);obtain⟨hj,ej⟩:=fq hx;have c:=v.cnt x hk;have ed:∀y,((dB L ks h).drop j).count y=((dB L ks h).drop (j+1)).count y+if x=y then 1 else 0:=λy=>by rw[List.drop_eq_getElem_cons hj,ej,List.count_cons];by_cases e:x=y<;>simp[e]
 have hw:1<=w x:=by have:=ed x;rw[if_pos rfl] at this;omega
 have xG:x∉G++[h]:=λz=>by
  rcases aO.mp z with z|z
  .exact hG (cl x hk z h hh)
  .rw[aA.mp z] at hh;exact hG (hL h hh)
 have cnt:∀y∈ks,tQ w x (w x-1) y=mR L (G++[h]) y+(((dB L ks h).drop (j+1)).count y:Nat):=λy hy=>by
  have c:=v.cnt y hy;have e:=ed y;unfold tQ;by_cases hyx:y=x
  .subst hyx;rw[if_pos rfl] at e ⊢;omega
  .rw[if_neg λz=>hyx z.symm] at e;rw[if_neg hyx];omega
 have xR:x∉R:=λz=>by have:=((v.K9 x).mp z).2.2;omega
 refine⟨hw,hk,λe0=>⟨cnt,?_,λy=>?_⟩,λe0=>⟨cnt,v.Sn,λy=>?_⟩⟩
 .rw[gp];exact⟨v.Sn,by simp,λa ha b hb e=>xR (by rw[aA.mp hb] at e;exact e▸ha)⟩
 .rw[aO,aA];unfold tQ;by_cases hyx:y=x
  .subst hyx;rw[if_pos rfl];exact⟨λ_=>⟨hk,xG,e0⟩,λ_=>.inr rfl⟩
  .rw[if_neg hyx];exact⟨λz=>(v.K9 y).mp (z.resolve_right hyx),λz=>.inl ((v.K9 y).mpr z)⟩
 .unfold tQ;by_cases hyx:y=x
  .subst hyx;rw[if_pos rfl];exact⟨λz=>absurd z xR,λz=>absurd z.2.2 e0⟩
  .rw[if_neg hyx];exact v.K9 y
def oZ.end{ks:List α}{L:α->List α}{F:List (α×Int)}{h:α}{m:Int}{w0 w:α->Int}{R0 R E:List α}(v0:ir ks L F w0 R0)(v:oZ ks L (F.map (·.1)++[h]) E E.length w R)(hk:h∈ks)(hF:h∉F.map (·.1))(hL:∀o∈L h,o∈F.map (·.1))(e:n=1+m)
  (h0:L h=[]->m=0)(h1:L h≠[]->(∃o∈L h,(o,m)∈F)/\∀o∈L h,∀k,(o,k)∈F->k<=m):ir ks L (F++[(h,n)]) w R:=by
 have em:(F++[(h,n)]).map (·.1)=F.map (·.1)++[h]:=by simp
 have up:∀o k,(o,k)∈F->(o,k)∈F++[(h,n)]:=λo k z=>mX _ z;refine⟨?_,λx hx=>?_,λx hx=>?_,λx hx=>?_,v.Sn,?_⟩
 .rw[em,gp];exact⟨v0.nd,by simp,λa ha b hb z=>hF (by rw[aA.mp hb] at z;exact z▸ha)⟩
 .rcases aO.mp hx with z|z
  .exact v0.sub x z
  .rw[aA.mp z];exact hk
 .rcases aO.mp hx with z|z
  .obtain⟨a,b,c⟩:=v0.fin x z;refine⟨a,λo ho=>let⟨k,c,d⟩:=b o ho;⟨k,up _ _ c,d⟩,c.imp_right λ⟨o,ho,c⟩=>⟨o,ho,up _ _ c⟩⟩
  .rw[aA.mp z];dsimp only;by_cases hn:L h=[]
   .have:=h0 hn;rw[hn];exact⟨by omega,(λo ho=>nomatch ho),.inl ⟨by omega,rfl⟩⟩
   .obtain⟨⟨o,ho,hm⟩,hle⟩:=h1 hn;have:=(v0.fin _ hm).1;dsimp only at this;refine⟨by omega,λo ho=>?_,.inr ⟨o,ho,?_⟩⟩
    .obtain⟨⟨_,k⟩,hx,rfl⟩:=aF.mp (hL o ho);have:=hle _ ho k hx;exact⟨k,up _ _ hx,by omega⟩
    .rw[show n-1=m by omega];exact up _ _ hm
 .rw[em,v.cnt x hx,List.drop_length];simp
 .rw[em];exact v.K9
theorem o4{β:Type}:∀{F:List (α×β)}{o:α}{a b:β},(F.map (·.1)).Nodup->(o,a)∈F->(o,b)∈F->a=b
 | [],_,_,_,_,h,_=>nomatch h
 | x::F,o,a,b,nd,ha,hb=>by
  rw[cj,iE] at nd;rcases aI.mp ha with e1|h1<;>rcases aI.mp hb with e2|h2
  .exact congrArg Prod.snd (e1.trans e2.symm)
  .exact absurd (by rw[<- e1];exact aF.mpr ⟨_,h2,rfl⟩) nd.1
  .exact absurd (by rw[<- e2];exact aF.mpr ⟨_,h1,rfl⟩) nd.1
  .exact o4 nd.2 h1 h2
end
def uL(H H':Hp):Prop:=∀b vs,H b=some (.tup vs)->H' b=some (.tup vs)
def uL.trans{H1 H2:Hp}(a:uL H H1)(b:uL H1 H2):uL H H2:=λc vs h=>b c vs (a c vs h)
def tR{xs:List V}(hf:H f=some (.lst xs))(p:nj H f o H'):uL H H':=λb vs h=>p.keep (by intro z;subst z;rw[hf] at h;cases h) h
def tS(hf:H f=some (.ext φ))(p:nj H f o H'):uL H H':=λb vs h=>p.keep (by intro z;subst z;rw[hf] at h;cases h) h
def eY.tups(h:eY H t v)(s:uL H H'):eY H' t v:=by
 cases t with
 | none=>exact h
 | some p2=>obtain⟨b,e1,e2⟩:=h;exact⟨b,e1,s _ _ e2⟩
theorem bq.tups{k:HM.bP}(h:bq H v k)(s:uL H H'):bq H' v k:=by obtain⟨a,u,e,h1,h2⟩:=h;exact⟨a,u,e,s _ _ h1,eY.tups h2 s⟩
theorem bZ.tups(h:bZ H vs ks)(s:uL H H'):bZ H' vs ks:=dG (λ_ _ x=>bq.tups x s) h
theorem cK.tups(h:cK H kvs)(s:uL H H'):cK H' kvs:=λx hx=>bq.tups (h x hx) s
def gm(H:Hp)(kvs:fZ)(L:HM.bP->List HM.bP):Prop:=∀x∈kvs,∃a vs,x.2.2=V.ref a/\H a=some (.lst vs)/\bZ H vs (L x.1)
theorem gm.same(h:gm H kvs L)(s:aB H H'):gm H' kvs L:=λx hx=>let⟨a,vs,h1,h2,h3⟩:=h x hx;⟨a,vs,h1,s _ _ h2,bZ.same h3 s⟩
def gm.xC(h:gm H kvs L)(hf:H f=some (.ext φ))(p:nj H f o H'):gm H' kvs L:=λx hx=>let⟨a,vs,h1,h2,h3⟩:=h x hx;⟨a,vs,h1,p.keep (by intro z;subst z;rw[hf] at h2;cases h2) h2,bZ.tups h3 (tS hf p)⟩
theorem tU:∀{kvs:fZ}{x:HM.bP×Addr×V},(kvs.map (·.1)).Nodup->x∈kvs->kH kvs x.1=some x.2.2
 | [],_,_,hx=>nomatch hx
 | y::kvs,x,nd,hx=>by
  rw[cj,iE] at nd;unfold kH;rw[i0];rcases aI.mp hx with rfl|hx
  .simp
  .have ne:¬y.1=x.1:=λe=>nd.1 (e▸k7 hx);rw[decide_eq_false ne];exact tU nd.2 hx
def xD{k:HM.bP}(nd:(kvs.map (·.1)).Nodup)(hk:k∈kvs.map (·.1)):∃x∈kvs,x.1=k/\kH kvs k=some x.2.2:=by obtain⟨x,hx,rfl⟩:=aF.mp hk;exact⟨x,hx,rfl,tU nd hx⟩
def iV(ks:List HM.bP)(L:HM.bP->List HM.bP):Prop:=ks.Nodup/\ks.length<=4000/\∀k∈ks,(L k).length<=4/\∀o∈L k,o∈ks
theorem z7(L:HM.bP->List HM.bP)(o:HM.bP):∀ks:List HM.bP,(∀k∈ks,(L k).length<=4)->(dB L ks o).length<=4*ks.length
 | [],_=>by simp[dB]
 | k::ks,h=>by have h1:=z7 L o ks λk hk=>h k (c9 _ hk);have h2:=h k (by simp);have h3:=i7 (λz=>decide (z=o)) (L k);unfold dB at h1 ⊢;rw[rM,aR,av,eB];omega
def Cg(H0 H:Hp)(kvs:fZ)(L:HM.bP->List HM.bP):Prop:=(kvs.map (·.2.2)).Nodup/\∀x∈kvs,∃a vs,x.2.2=V.ref a/\H0 a=none/\H a=some (.lst vs)/\bZ H vs (L x.1)
theorem Cg.same{H0:Hp}(h:Cg H0 H kvs L)(s:aB H H'):Cg H0 H' kvs L:=⟨h.1,λx hx=>let⟨a,vs,h1,h0,h2,h3⟩:=h.2 x hx;⟨a,vs,h1,h0,s _ _ h2,bZ.same h3 s⟩⟩
theorem Ci:∀{kvs:fZ}{x y:HM.bP×Addr×V},(kvs.map (·.2.2)).Nodup->x∈kvs->y∈kvs->x.2.2=y.2.2->x=y
 | [],_,_,_,hx,_,_=>nomatch hx
 | z::kvs,x,y,nd,hx,hy,e=>by
  rw[cj,iE] at nd;rcases aI.mp hx with e1|h1<;>rcases aI.mp hy with e2|h2
  .rw[e1,e2]
  .exact absurd (by rw[<- e1,e];exact k7 h2) nd.1
  .exact absurd (by rw[<- e2,<- e];exact k7 h1) nd.1
  .exact Ci nd.2 h1 h2 e
section
variable {P:Program}{w:World}{K:aD}{mg:Str->Option Value}{base:Heap}
def JW(P:Program)(w:World):Sp:=λvs H Q _=>∃(d:Addr)(ep:Nat)(kvs:fZ)(L:HM.bP->List HM.bP),vs=[.ref d]/\H d=some (.ext (dN P w d ep kvs))/\cK H kvs/\gm H kvs L/\iV (kvs.map (·.1)) L /\
 ∀(d':Addr)(qi:Nat)(kvs':fZ)(H':Hp),aB H H'->H d'=none->H' d'=some (.ext (dN P w d' qi kvs'))->cK H' kvs'->kvs'.map (·.1)=kvs.map (·.1)->gm H' kvs' (dB L (kvs.map (·.1)))->Q (.ref d') H'
def FW(T:Txt w K mg):b8 P w K mg base gS 1 T.turned.f T.turned.d ["later"] (JW P w):=by
 refine T.turned.F.ok l8 (λvs H Q E h=>?_) (λcdv A outer s H vs Q E hr h=>?_)
 .sleep 256
 obtain⟨d,ep,kvs,L,rfl,hd,hk,hl,⟨nd,hn,hL⟩,q⟩:=h;rw[av] at hn;refine⟨_,(ak (aE (i:=1) l8.nd rfl (ao rfl) (dw (sU hr.units rfl) rfl T.B4 BT.Bg (aa (cP (bD.plain rfl (by decide +kernel) (by decide +kernel) rfl (by decide +kernel) rfl) (nZ (pv 0)) (λ_ _ _ _=>cQ) (λ_ _ _ _=>(bB (aa (pv 0) (aa (dM ai) ai))))) ai)))
 (ak (eK bY rfl (nZ (pv 0)) (aX (i:=2) l8.nd rfl (ao rfl))
 (au (eK bY rfl (cJ (jZ hr.units (pv 0) (pv 2) (λ_ _=>rfl))) (aX (i:=3) l8.nd rfl (ao rfl))
 (au (fj (jw dR jq jr gw (jZ hr.units (pv 1) (pv 3) (λ_ _=>rfl)) (aa (pv 2) ai)))))))
 (au (aJ (pv 1))))),?_⟩
 sleep 125;sleep 6;refine wW (kvs:=kvs) (λi ys H'=>aB H H'/\∃ps:fZ,ps.map (·.1)=(kvs.take i).map (·.1)/\oh H' ys ps/\Cg H H' ps λ_=>[]) ⟨aB.refl _,[],by simp,.nil,.nil,λx hx=>nomatch hx⟩ ?_ ?_ ?_
 .sleep 129;exact s' _ _ hd
 .rintro i e ys H1 he ⟨s1,ps,OQ,hps,own⟩;have hil:=(fq he).1;have hpl:=hps.length;have h2:=congrArg List.length OQ;rw[av,av,cG] at h2;sleep 66;rename_i a H2 n2 t H3 n3;have s3:=n2.same.trans n3.same;refine⟨s1.trans s3,ps++[(e.1,e.2.1,.ref a)],?_,cI (dG (λu p ⟨t,h1,h2,h3⟩=>⟨t,h1,s3 _ _ h2,bq.same h3 s3⟩) hps) ⟨t,rfl,n3.self,bq.same (hk e (fz he)) (s1.trans s3)⟩,?_,λx hx=>?_⟩
  .rw[bF,OQ,cB,he,bF];rfl
  .rw[bF,gp];refine⟨own.1,by simp,λx hx y hy e=>?_⟩;obtain⟨z,hz,rfl⟩:=aF.mp hx;obtain⟨b,vs,h1,_,h3,_⟩:=own.2 z hz;rw[List.map_singleton,aA] at hy;subst hy;rw[h1] at e;cases e;rw[n2.1] at h3;cases h3
  .rcases aO.mp hx with hx|hx
   .exact(Cg.same own s3).2 x hx
   .rw[aA.mp hx];exact⟨a,[],rfl,s1.free n2.1,n3.keep n2.self,.nil⟩
 rintro ys H1 ⟨s1,ps,OQ,hps,own⟩ l H2 n2;rw[cH] at OQ;walk_at "go";refine Ds (bE.of n2.self) (dG (λu p ⟨t,h1,h2,h3⟩=>⟨t,h1,n2.keep h2,bq.same h3 n2.same⟩) hps) (by rw[OQ];exact nd) ?_;intro f E8 H3 n3;have YS:=n2.same.trans n3.same;have s3:=s1.trans YS;have ff:H f=none:=(s1.trans n2.same).free n3.1;have hf:=n3.self;have abj:=own.same YS;have hpk:cK H3 ps:=λx hx=>by obtain⟨i,hi,rfl⟩:=pH.mp hx;obtain⟨t,_,_,h⟩:=sS hps hi;rw[mG,fN hi] at h;exact bq.same h YS
 clear n2 n3 YS own hps s1;have ndp:(ps.map (·.1)).Nodup:=by rw[OQ];exact nd
 have e0:∀o,dB L [] o=[]:=λo=>rfl;walk_at "go";refine Mi (λi σ' H'=>(∃y z,σ'=[some (.ref d),some (.ref f),y,z])/\aB H H'/\H' f=some (.ext (dN P w f E8 ps))/\cK H' ps/\Cg H H' ps (dB L ((kvs.map (·.1)).take i))) ?_ ?_ ?_ ?_
 .exact⟨⟨_,_,rfl⟩,s3,hf,hpk,by rw[List.take_zero];exact abj⟩
 .sleep 156;exact s' _ _ hd
 .rintro i e σ' H4 he ⟨⟨y,z,rfl⟩,s4,DY,So,M0⟩;have hem:=fz he;obtain⟨a,vs,ea,ha,hvs⟩:=hl e hem;have hil:=(fq he).1;have hLe:=hL e.1 (k7 hem);have hvl:=hvs.length;walk_at "go";refine oj (s4 _ _ hd) (hk.same s4) (bq.same (hk e hem) s4) ((tU nd hem).trans (congrArg some ea)) ?_;walk_at "go";refine f_list (xs:=vs) (λj σ' H'=>(∃z,σ'=[some (.ref d),some (.ref f),some (.ref e.2.1),z])/\aB H H'/\H' f=some (.ext (dN P w f E8 ps))/\cK H' ps/\Cg H H' ps (λo=>dB L ((kvs.map (·.1)).take i) o++(((L e.1).take j).filter λz=>decide (z=o)).map λ_=>e.1)) ?_ ?_ ?_ ?_
  .refine⟨⟨_,rfl⟩,s4,DY,So,?_⟩;simpa using M0
  .rintro j σ' H' _ ⟨_,s',_⟩;exact bE.of (s' _ _ ha)
  .rintro j x σ' H5 hx ⟨⟨z,rfl⟩,s5,JA,M1,Cj⟩;obtain⟨o,ho,hxo⟩:=br hvs hx;have hom:=hLe.2 o (fz ho);obtain⟨p,hp,rfl,YT⟩:=xD ndp (by rw[OQ];exact hom);obtain⟨b,bs,eb,fb,hb,Cd⟩:=Cj.2 p hp;have abk:=bq.same hxo s5;obtain⟨xa,xu,rfl,hxa,hxu⟩:=hxo;have Wj:bs.length<1000000:=by have h1:=Cd.length;have h2:=z7 L p.1 ((kvs.map (·.1)).take i) λk hk=>(hL k (rV _ _ hk)).1;have h3:=i7 (λz=>decide (z=p.1)) ((L e.1).take j);rw[aR,av] at h1;rw[cG,av] at h2;rw[cG] at h3;omega
   walk_at "go";refine oj JA M1 abk (YT.trans (congrArg some eb)) ?_;walk_at "go";rename_i H6 p6;have hfb:f≠b:=λz=>by rw[z,hb] at JA;cases JA
   have t6:=tR hb p6;refine⟨⟨_,rfl⟩,p6.same s5 fb,p6.keep hfb JA,cK.tups M1 t6,Cj.1,λx hx=>?_⟩;by_cases hxp:x=p
   .subst hxp;refine⟨b,_,eb,fb,p6.self,?_⟩;dsimp only;rw[cB,ho,jE,bF,<- mV];have e1:List.filter (λz=>decide (z=x.1)) (some x.1).toList=[x.1]:=by simp
    rw[e1];exact cI (bZ.tups Cd t6) (bq.tups (bq.same (hk e hem) s5) t6)
   .obtain⟨c,cs,ec,fc,hc,hcs⟩:=Cj.2 x hx;refine⟨c,cs,ec,fc,p6.keep (λz=>hxp (Ci Cj.1 hx hp (by rw[ec,eb,z]))) hc,?_⟩;have hne:¬p.1=x.1:=λz=>by have h1:=tU ndp hx;rw[<- z,YT] at h1;exact hxp (Ci Cj.1 hx hp (Option.some.inj h1).symm)
    dsimp only;rw[cB,ho,jE,bF];have e1:List.filter (λz=>decide (z=x.1)) (some p.1).toList=[]:=by simp[hne]
    rw[e1,List.map_nil,iZ];exact bZ.tups hcs t6
  .rintro σ' H5 ⟨⟨z,rfl⟩,s5,JA,M1,Cj⟩;refine⟨⟨_,_,rfl⟩,s5,JA,M1,?_⟩;have e1:(λo=>dB L ((kvs.map (·.1)).take i) o++(((L e.1).take vs.length).filter λz=>decide (z=o)).map λ_=>e.1)=dB L ((kvs.map (·.1)).take (i+1)):=by
    funext o
    rw[hvl,cH,cB,bz,he];unfold dB;rw[List.flatMap_append];simp
   rw[<- e1];exact Cj
 .rintro σ' H4 ⟨⟨y,z,rfl⟩,s4,DY,So,M0⟩;rw[<- av (f:=λx:HM.bP×Addr×V=>x.1),cH] at M0;walk_at "go";exact q f E8 ps H4 s4 ff DY So OQ λx hx=>let⟨a,vs,h1,_,h2,h3⟩:=M0.2 x hx;⟨a,vs,h1,h2,h3⟩
end
def jk(kvs:fZ)(F:List (HM.bP×Int)):Prop:=kvs.map (λx=>(x.1,x.2.2))=F.map λp=>(p.1,V.int p.2)
def jk.keys(e:jk kvs F):kvs.map (·.1)=F.map (·.1):=by have h:=congrArg (List.map (·.1)) e;rw[fU,fU] at h;exact h
theorem z8:∀{kvs:fZ}{F:List (HM.bP×Int)},jk kvs F->∀{o:HM.bP},o∈F.map (·.1)->∃n,(o,n)∈F/\kH kvs o=some (.int n)
 | [],[],_,_,ho=>nomatch ho
 | [],_::_,e,_,_=>nomatch e
 | _::_,[],e,_,_=>nomatch e
 | x::kvs,y::F,e,o,ho=>by
  unfold jk at e;rw[cj,cj] at e;obtain⟨e1,e2⟩:=List.cons.inj e;have a1:x.1=y.1:=congrArg Prod.fst e1;have a2:x.2.2=V.int y.2:=congrArg Prod.snd e1;unfold kH;rw[i0];by_cases h:x.1=o
  .rw[decide_eq_true h];exact⟨y.2,by rw[<- h,a1];simp,congrArg some a2⟩
  .rw[decide_eq_false h];rw[cj] at ho;obtain⟨n,h1,h2⟩:=z8 (kvs:=kvs) (F:=F) e2 ((aI.mp ho).resolve_left λz=>h (a1.trans z.symm));exact⟨n,c9 _ h1,h2⟩
def JX{k:HM.bP}(e:jk kvs F)(hk:k∉F.map (·.1)):jY kvs k a (.int n)=kvs++[(k,a,.int n)]/\jk (kvs++[(k,a,.int n)]) (F++[(k,n)]):=by refine⟨sR (by rw[e.keys];exact hk),?_⟩;unfold jk at e ⊢;rw[bF,bF,e];rfl
theorem o5:∀{kvs:fZ}{k:HM.bP},k∈kvs.map (·.1)->(kH kvs k).isSome=true
 | [],_,h=>nomatch h
 | x::kvs,k,h=>by
  unfold kH;rw[i0];by_cases e:x.1=k
  .rw[decide_eq_true e];rfl
  .rw[decide_eq_false e];exact o5 (kvs:=kvs) ((aI.mp h).resolve_left λz=>e z.symm)
def FnAt(kvs:fZ)(ks:List HM.bP)(g:HM.bP->Int):Prop:=kvs.map (·.1)=ks/\∀x∈kvs,x.2.2=V.int (g x.1)
def FnAt.val{g:HM.bP->Int}(h:FnAt kvs ks g){k:HM.bP}(hk:k∈ks):kH kvs k=some (.int (g k)):=by
 have:=o5 (kvs:=kvs) (k:=k) (by rw[h.1];exact hk);unfold kH at this ⊢;cases e:kvs.find? (λx=>decide (x.1=k)) with
 | none=>rw[e] at this;cases this
 | some x =>
  have h1:=h.2 x (List.mem_of_find?_eq_some e);have h2:=List.find?_some e;rw[of_decide_eq_true h2] at h1;exact congrArg some h1
def FnAt.put{g:HM.bP->Int}(h:FnAt kvs ks g){k:HM.bP}(hk:k∈ks):FnAt (jY kvs k a (.int n)) ks (tQ g k n):=by
 unfold jY;rw[if_pos (o5 (by rw[h.1];exact hk))];constructor
 .rw[fU,<- h.1];apply List.map_congr_left;intro x _;show(if x.1=k then(x.1,x.2.1,V.int n) else x).1=x.1;split<;>rfl
 .intro y hy;obtain⟨x,hx,rfl⟩:=aF.mp hy;unfold tQ;split
  .rfl
  .exact h.2 x hx
def JY{k:HM.bP}(h:cK H kvs)(hk:k∈kvs.map (·.1)):cK H (jY kvs k a v):=by
 unfold jY;rw[if_pos (o5 hk)];intro y hy;obtain⟨x,hx,rfl⟩:=aF.mp hy;split
 .exact h x hx
 .exact h x hx
theorem qw{α β:Type}{F:α->β->Prop}:∀{xs:List α}{ys:List β},Paired F xs ys->∀{i:Nat}{y:β},ys[i]?=some y->∃x,xs[i]?=some x/\F x y
 | _,_,.nil,i,x,h=>by simp at h
 | _,_,.cons a t,0,x,h=>by simp at h;subst h;exact⟨_,rfl,a⟩
 | _,_,.cons a t,i+1,x,h=>qw t (by simpa using h)
theorem qx{α β:Type}{F:α->β->Prop}:∀{xs:List α}{x:α}{ys:List β},Paired F (xs++[x]) ys->∃YU y,ys=YU++[y]/\Paired F xs YU/\F x y
 | [],_,_,.cons h .nil=>⟨[],_,rfl,.nil,h⟩
 | _::_,_,_,.cons h t=>by obtain⟨YU,y,rfl,h1,h2⟩:=qx t;exact⟨_::YU,y,rfl,.cons h h1,h2⟩
section
variable {P:Program}{w:World}{K:aD}{mg:Str->Option Value}{base:Heap}
def M3(P:Program)(w:World):Sp:=λvs H Q _=>∃(d:Addr)(ep:Nat)(kvs:fZ)(L:HM.bP->List HM.bP),vs=[.ref d]/\H d=some (.ext (dN P w d ep kvs))/\cK H kvs/\gm H kvs L/\iV (kvs.map (·.1)) L /\
 ∀(d':Addr)(qi:Nat)(kvs':fZ)(F:List (HM.bP×Int))(H':Hp),aB H H'->H d'=none->H' d'=some (.ext (dN P w d' qi kvs'))->cK H' kvs'->jk kvs' F->vS (kvs.map (·.1)) L F->Q (.ref d') H'
def JZ(T:Txt w K mg):b8 P w K mg base gS 2 T.ended.f T.ended.d ["later"] (M3 P w):=by
 refine T.ended.F.ok jf (λvs H Q E h=>?_) (λcdv A outer s H vs Q E hr h=>?_)
 .sleep 256
 obtain⟨d,ep,kvs,L,rfl,hd,hk,hl,hok,q⟩:=h;refine⟨_,(ak (aE (i:=1) jf.nd rfl (ao rfl) (aP T.turned (FW T) hr (aa (pv 0) ai)))
 (ak (aE (i:=2) jf.nd rfl (bQ rfl) (dw (sU hr.units rfl) rfl T.B4 BT.Bg (aa (cP (bD.caps (x := "harm") (fr:=["later"]) (ix:=[0]) (nm:=["later"]) rfl rfl (by decide +kernel) rfl (by decide +kernel) rfl (by decide +kernel) ⟨rfl,trivial⟩ rfl (by decide +kernel) rfl ⟨⟨rfl,rfl,rfl⟩,trivial⟩) (nZ (pv 0)) (λ_ _ _ _=>cQ) (λ_ _ _ _=>(bB (aa (pv 0) (aa (aT (kD (K:=K) rfl) rfl T.eS BT.eO (aa (pX (P:=P) (w:=w) rfl rfl hr.units (pv 1) (pv 0) (λ_ _=>rfl)) ai)) ai))))) ai)))
 (ak (jx (i:=3) jf.nd rfl (ao rfl) (bD.caps (x := "harm") (fr:=["waiting"]) (ix:=[2]) (nm:=["waiting"]) rfl rfl (by decide +kernel) rfl (by decide +kernel) rfl (by decide +kernel) ⟨rfl,trivial⟩ rfl (by decide +kernel) rfl ⟨⟨rfl,rfl,rfl⟩,trivial⟩) (nZ (pv 0)) (λ_ _ _ _=>(nh (aG dU (pX (P:=P) (w:=w) rfl rfl hr.units (pv 1) (pv 0) (λ_ _=>rfl)) af (aM _)))) (λ_ _ _ _=>(pv 0)))
 (ak (aE (i:=4) jf.nd rfl (bQ rfl) zg)
 (ak (jV bY (vc (pv 3) (λ_=>rfl))
 (ak (aE (i:=5) jf.nd rfl (ao rfl) (Be dR PySem.F.slot_list_pop PySem.F.type_list_pop G1 (pv 3)))
 (ak (zh hr.units (pv 4) (pv 5) (ay aZ af (Ms rfl rfl T.OE (aa (cP (bD.caps (x := "other") (fr:=["found"]) (ix:=[4]) (nm:=["found"]) rfl rfl (by decide +kernel) rfl (by decide +kernel) rfl (by decide +kernel) ⟨rfl,trivial⟩ rfl (by decide +kernel) rfl ⟨⟨rfl,rfl,rfl⟩,trivial⟩) (cJ (jZ hr.units (pv 0) (pv 5) (λ_ _=>rfl))) (λ_ _ _ _=>cQ) (λ_ _ _ _=>(pX (P:=P) (w:=w) rfl rfl hr.units (pv 1) (pv 0) (λ_ _=>rfl)))) ai) af)) rfl)
 (au (eK bY rfl (cJ (jZ hr.units (pv 1) (pv 5) (λ_ _=>rfl))) (aX (i:=6) jf.nd rfl (ao rfl))
 (ak (IT hr.units (pv 2) (pv 6) af PM (λ_ _ _=>rfl))
 (au (cN (aG dU (jZ hr.units (pv 2) (pv 6) (λ_ _=>rfl)) af (aM _))
 (au (fj (jw dR jq jr gw (pv 3) (aa (pv 6) ai))))
 bw))))))))
 (au (aJ (pv 4)))))))),?_⟩
 sleep 145;sleep 6;refine⟨d,ep,kvs,L,rfl,hd,hk,hl,hok,λe epE abm H1 s1 fe he hke eke hle=>?_⟩;obtain⟨nd,hn,hL⟩:=hok;generalize M4:kvs.map (·.1)=ks at *;have hkn:kvs.length<=4000:=by rw[<- M4,av] at hn;exact hn
 have hd1:=s1 _ _ hd;have hk1:=hk.same s1;have hl1:=gm.same hl s1;clear hd hk hl;walk_at "go";refine wW (kvs:=kvs) (λi ys H'=>aB H1 H'/\oh H' ys ((kvs.take i).map λx=>(x.1,x.2.1,V.int (L x.1).length))) ⟨aB.refl _,by rw[List.take_zero];exact .nil⟩ ?_ ?_ ?_
 .sleep 129;exact s' _ _ hd1
 .rintro i x ys H2 hx ⟨s2,hps⟩;have hil:=(fq hx).1;have hpl:=hps.length;rw[av,cG] at hpl;have M5:=fz hx;obtain⟨a,vs,ea,ha,hvs⟩:=hl1 x M5;have hvl:=hvs.length;sleep 66;refine oj (s2 _ _ hd1) (hk1.same s2) (bq.same (hk1 x M5) s2) ((tU (by rw[M4];exact nd) M5).trans (congrArg some ea)) ?_;have ha2:=s2 _ _ ha;walk_at "go";rename_i t H3 n3;refine⟨s2.trans n3.same,?_⟩;rw[cB,hx,bF];exact cI (dG (λu p ⟨t,h1,h2,h3⟩=>⟨t,h1,n3.keep h2,bq.same h3 n3.same⟩) hps) ⟨t,rfl,by have z:=n3.self;rw[hvl] at z;exact z,bq.same (hk1 x M5) (s2.trans n3.same)⟩
 rintro ys H2 ⟨s2,hps⟩ l H3 n3;rw[cH] at hps;walk_at "go";refine Ds (bE.of n3.self) (dG (λu p ⟨t,h1,h2,h3⟩=>⟨t,h1,n3.keep h2,bq.same h3 n3.same⟩) hps) (by rw[fU];exact(show(kvs.map (·.1)).Nodup by rw[M4];exact nd)) ?_;intro wt WS H4 n4;have s4:aB H1 H4:=(s2.trans n3.same).trans n4.same;have fwt:H1 wt=none:=(s2.trans n3.same).free n4.1;have YV:=n4.self;have fn4:FnAt (kvs.map λx=>(x.1,x.2.1,V.int (L x.1).length)) ks λh=>((L h).length:Int):=⟨by rw[fU];exact M4,λx hx=>by obtain⟨y,_,rfl⟩:=aF.mp hx;rfl⟩;have hwk:cK H4 (kvs.map λx=>(x.1,x.2.1,V.int (L x.1).length)):=λx hx=>by obtain⟨y,hy,rfl⟩:=aF.mp hx;exact bq.same (hk1 y hy) s4
 generalize (kvs.map λx=>(x.1,x.2.1,V.int (L x.1).length))=D3 at *;clear n3 n4 hps s2;walk_at "go";refine wW (kvs:=kvs) (λi ys H'=>aB H4 H'/\bZ H' ys ((ks.take i).filter λh=>decide (((L h).length:Int)=0))) ⟨aB.refl _,.nil⟩ ?_ ?_ ?_
 .sleep 129;exact s' _ _ (s4 _ _ hd1)
 .rintro i x ys H5 hx ⟨s5,hys⟩;have hil:=(fq hx).1;have hyl:=hys.length;have hfl:=i7 (λh=>decide (((L h).length:Int)=0)) (ks.take i);rw[cG] at hfl;have M5:=fz hx;have hxk:x.1∈ks:=by rw[<- M4];exact k7 M5
  have hxi:ks[i]?=some x.1:=by rw[<- M4,bz,hx];rfl
  have hkx:=bq.same (hk1 x M5) (s4.trans s5);sleep 66;refine oj (s5 _ _ YV) (hwk.same s5) hkx (fn4.val hxk) ?_;walk_at "go"
  .rename_i h0;refine⟨s5,?_⟩;rw[cB,hxi,jE];have e1:List.filter (λh=>decide (((L h).length:Int)=0)) (some x.1).toList=[x.1]:=by simpa using h0
   rw[e1];exact cI hys hkx
  .rename_i h0;refine⟨s5,?_⟩;rw[cB,hxi,jE];have e1:List.filter (λh=>decide (((L h).length:Int)=0)) (some x.1).toList=[]:=by simpa using h0
   rw[e1,iZ];exact hys
 rintro ys H5 ⟨s5,hys⟩ rd H6 n6;have ekl:kvs.length=ks.length:=by rw[<- M4,av]
 rw[ekl,cH] at hys;have OH:=s5.trans n6.same;have s6:=s4.trans OH;have frd:H1 rd=none:=(s4.trans s5).free n6.1;have hrd:=n6.self;have WT:=bZ.same hys n6.same;have M6:=OH _ _ YV;have WU:=hwk.same OH;have Sq:rd≠wt:=λz=>by rw[z] at n6;have:=s5 _ _ YV;rw[n6.1] at this;cases this
 clear n6 hys YV hwk OH s5 s4;walk_at "go";rename_i f OR H7 n7;have s7:=s6.trans n7.same;have ff:H1 f=none:=s6.free n7.1;have OG:=n7.self;have MO:=n7.keep hrd;have abo:=n7.keep M6;have RZ:=bZ.same WT n7.same;have abp:=WU.same n7.same;have WV:f≠wt:=λz=>by rw[z] at n7;rw[n7.1] at M6;cases M6
 have Ss:f≠rd:=λz=>by rw[z] at n7;rw[n7.1] at hrd;cases hrd
 clear n7 hrd M6 WT WU s6;refine lZ (λm σ' H'=>(∃y5 y6,σ'=[some (.ref d),some (.ref e),some (.ref wt),some (.ref rd),some (.ref f),y5,y6])/\aB H1 H'/\∃vs R WS D3 g OR AY F,H' rd=some (.lst vs)/\bZ H' vs R/\H' wt=some (.ext (dN P w wt WS D3))/\cK H' D3/\FnAt D3 ks g/\H' f=some (.ext (dN P w f OR AY))/\cK H' AY/\jk AY F/\ir ks L F g R/\m=ks.length-F.length) ?_ ?_
 .exact⟨_,⟨_,_,rfl⟩,s7,ys,_,WS,D3,_,OR,[],[],MO,RZ,abo,abp,fn4,OG,(λx hx=>nomatch hx),rfl,ir.start nd,rfl⟩
 rintro m σ' H8 ⟨⟨y5,y6,rfl⟩,s8,vs,R,abq,abr,g,abt,AY,F,M7,z9,WW,WX,fn8,DS,Su,YW,inv,rfl⟩;walk_at "go";have hFl:F.length<=ks.length:=by
  have:=j5 inv.nd (ys:=ks) λx hx=>by obtain⟨y,hy,rfl⟩:=aF.mp hx;exact inv.sub y hy
  rw[av] at this;exact this
 rcases List.eq_nil_or_concat vs with rfl|⟨vs0,v,rfl⟩
 .cases z9;refine Hz rfl ?_;walk_at "go";exact q f abt AY F H8 (s1.trans s8) (s1.free ff) DS Su YW inv.done
 rw[List.concat_eq_append] at M7 z9 ⊢;obtain⟨R0,h,rfl,WY,hvh⟩:=qx z9;obtain⟨WZ,YX,hhL,YJ⟩:=inv.pop nd;refine Hy (by simp) ⟨_,λ_ _ x=>x,?_⟩;walk_at "go";refine s_pop M7 (y:=v) (by simp) ?_;rw[List.dropLast_concat];intro H9 p9;have t9:=tR M7 p9;have s9:=p9.same s8 frd;have JF:=p9.self;have J0:=bZ.tups WY t9;have M8:=bq.tups hvh t9;have W2:=p9.keep (bu Sq) WW;have W3:=cK.tups WX t9;have JE:=p9.keep Ss DS;have Sv:=cK.tups Su t9;clear p9 t9 M7 z9 WY hvh WW WX DS Su s8;obtain⟨x,M5,rfl,hxv⟩:=xD (kvs:=kvs) (k:=h) (by rw[M4];exact nd) (by rw[M4];exact WZ);obtain⟨a,as,ea,ha,has⟩:=hl1 x M5;have hL4:=hL x.1 WZ;have yV:=has.length;have hv:=M8;obtain⟨vb,vu,rfl,_,_⟩:=hv;walk_at "go";refine oj (s9 _ _ hd1) (hk1.same s9) M8 (hxv.trans (congrArg some ea)) ?_;have R9:=s9 _ _ ha;have W4:=bZ.same has s9;have hkF:=YW.keys;walk_at "go";refine gH (xs:=as) (λj ys H'=>aB H9 H'/\∃ns:List Int,ys=ns.map V.int/\Paired (λn o=>(o,n)∈F) ns ((L x.1).take j)) ⟨aB.refl _,[],rfl,.nil⟩ ?_ ?_ ?_
 .rintro j ys H' _ ⟨s',_⟩;exact bE.of (s' _ _ R9)
 .rintro j y ys zW hy ⟨iJ,ns,rfl,hns⟩;obtain⟨o,ho,W5⟩:=br W4 hy;have hjl:=(fq hy).1;have hnl:=hns.length;rw[cG] at hnl;sleep 45;obtain⟨n,hn1,hn2⟩:=z8 YW (hhL o (fz ho));have abv:=bq.same W5 iJ;obtain⟨yb,yu,rfl,_,_⟩:=W5;walk_at "go";refine oj (iJ _ _ JE) (Sv.same iJ) abv hn2 ?_;refine⟨iJ,ns++[n],by simp,?_⟩;rw[cB,ho];exact cI hns hn1
 rintro ys zW ⟨iJ,ns,rfl,hns⟩ ml zX gO;rw[yV,cH] at hns;have xE:=iJ.trans gO.same;have hml:=gO.self;have K3:=s9.trans xE;have OS:=xE _ _ JF;have DT:=bZ.same J0 xE;have D4:=bq.same M8 xE;have OT:=xE _ _ W2;have OU:=W3.same xE;have J1:=xE _ _ JE;have J2:=Sv.same xE;clear gO iJ xE JF J0 M8 W2 W3 JE Sv s9 R9 W4;walk_at "go";refine RL (bE.of hml) λm hm0 hm1=>?_;walk_at "go";have aeW:AY.length=F.length:=by have:=congrArg List.length hkF;rw[av,av] at this;exact this
 refine IY J1 J2 D4 (by omega) ?_;intro W6 FJ qy;obtain⟨ep1,abw⟩:=JX (a:=vb) (n:=1+m) YW YX;rw[ep1] at qy;have Tq:=tS J1 qy;have s12:=qy.same K3 ff;have W7:=qy.self;have OV:cK FJ (AY++[(x.1,vb,.int (1+m))]):=λy hy=>by
  rcases aO.mp hy with hy|hy
  .exact bq.tups (J2 y hy) Tq
  .rw[aA.mp hy];exact bq.tups D4 Tq
 have OW:=qy.keep (bu Ss) OS;have OX:=bZ.tups DT Tq;have W8:=bq.tups D4 Tq;have OY:=qy.keep (bu WV) OT;have OZ:=cK.tups OU Tq;clear qy Tq hml OS DT D4 OT OU J1 J2 K3;obtain⟨pe,hpe,epx,YT⟩:=xD (kvs:=abm) (k:=x.1) (by rw[eke];exact nd) (by rw[eke];exact WZ);obtain⟨b,bs,eb,hb,Cd⟩:=hle pe hpe;rw[epx] at Cd;walk_at "go";refine oj (s12 _ _ he) (hke.same s12) W8 (YT.trans (congrArg some eb)) ?_;have abx:=s12 _ _ hb;walk_at "go";have cl:∀y∈ks,y∈F.map (·.1)->∀o∈L y,o∈F.map (·.1):=λy _ hy o ho=>by obtain⟨z,hz,rfl⟩:=aF.mp hy;obtain⟨n,hn,_⟩:=(inv.fin z hz).2.1 o ho;exact aF.mpr ⟨_,hn,rfl⟩
 refine f_list (xs:=bs) (λj σ' H'=>(∃z,σ'=[some (.ref d),some (.ref e),some (.ref wt),some (.ref rd),some (.ref f),some (.ref vb),z])/\aB H1 H'/\∃vs R WS D3 g,H' rd=some (.lst vs)/\bZ H' vs R/\H' wt=some (.ext (dN P w wt WS D3))/\cK H' D3/\FnAt D3 ks g/\H' f=some (.ext (dN P w f W6 (AY++[(x.1,vb,.int (1+m))])))/\cK H' (AY++[(x.1,vb,.int (1+m))])/\oZ ks L (F.map (·.1)++[x.1]) (dB L ks x.1) j g R) ?_ ?_ ?_ ?_
 .exact⟨⟨_,rfl⟩,s12,vs0,R0,abq,abr,g,OW,OX,OY,OZ,fn8,W7,OV,YJ⟩
 .rintro j σ' H' _ ⟨_,s',_⟩;exact bE.of (s' _ _ hb)
 .rintro j y σ' Gz hy ⟨⟨z0,rfl⟩,xB,vs,R,O0,D3,g,D5,D6,vU,vV,FY,M9,D7,FZ⟩;clear OW OX OY OZ W7 OV s12 abx;obtain⟨o,ho,W5⟩:=br Cd hy;obtain⟨hw1,hok,hyes,hno⟩:=FZ.next cl YX hhL ho;have D8:=bq.same W5 xB;obtain⟨yb,yu,rfl,_,_⟩:=W5;have hWl:D3.length=ks.length:=by rw[<- FY.1,av]
  walk_at "go";refine oj vU vV D8 (FY.val hok) ?_;walk_at "go";refine Rf ?_;refine IY vU vV D8 (by omega) ?_;intro O1 Tn xy;have W9:=tS vU xy;have MW:=xy.same xB fwt;have J3:=xy.self;have J4:=cK.tups (JY (a:=yb) (v:=.int (g o-1)) vV (by rw[FY.1];exact hok)) W9;have Sw:FnAt (jY D3 o yb (.int (g o-1))) ks (tQ g o (g o-1)):=FY.put hok;have O2:=xy.keep Sq D5;have J5:=bZ.tups D6 W9;have MP:=xy.keep WV M9;have O3:=cK.tups D7 W9;have O4:=bq.tups D8 W9;clear xy W9 xB D5 D6 vU vV M9 D7 D8;have hvl:=J5.length;have hRl:=j5 FZ.Sn (ys:=ks) λy hy=>((FZ.K9 y).mp hy).1;walk_at "go";refine oj J3 J4 O4 (Sw.val hok) ?_;have eg:tQ g o (g o-1) o=g o-1:=by unfold tQ;rw[if_pos rfl]
  rw[eg];walk_at "go"
  .rename_i h0 YK MQ;have YY:=tR O2 MQ;exact⟨⟨_,rfl⟩,MQ.same MW frd,_,_,O1,_,_,MQ.self,cI (bZ.tups J5 YY) (bq.tups O4 YY),MQ.keep (bu Sq) J3,cK.tups J4 YY,Sw,MQ.keep Ss MP,cK.tups O3 YY,hyes h0⟩
  .rename_i h0;exact⟨⟨_,rfl⟩,MW,_,_,O1,_,_,O2,J5,J3,J4,Sw,MP,O3,hno h0⟩
 .rintro σ' Gz ⟨⟨z0,rfl⟩,xB,vs,R,O0,D3,g,D5,D6,vU,vV,FY,M9,D7,FZ⟩;rw[Cd.length] at FZ;refine Mu _ _ ?_;have hlt:F.length+1<=ks.length:=by
   have h1:(F.map (·.1)++[x.1]).Nodup:=by rw[gp];exact⟨inv.nd,by simp,λa ha b hb z=>YX (by rw[aA.mp hb] at z;exact z▸ha)⟩
   have:=j5 h1 (ys:=ks) λy hy=>by
    rcases aO.mp hy with hy|hy
    .obtain⟨z,hz,rfl⟩:=aF.mp hy;exact inv.sub z hz
    .rw[aA.mp hy];exact WZ
   rw[aR,av] at this;exact this
  refine⟨ks.length-(F++[(x.1,1+m)]).length,by rw[aR];simp;omega,⟨_,_,rfl⟩,xB,vs,R,O0,D3,g,W6,_,_,D5,D6,vU,vV,FY,M9,D7,abw,oZ.end inv FZ WZ YX hhL rfl (λe0=>?_) (λe0=>?_),rfl⟩
  .rw[e0] at hns;cases hns;exact hm0 rfl
  .have hne:ns≠[]:=λz=>by rw[z] at hns;cases hL0:L x.1 with
    | nil=>exact e0 hL0
    | cons _ _=>rw[hL0] at hns;cases hns
   obtain⟨h1,h2⟩:=hm1 hne;obtain⟨i,hi,ei⟩:=pH.mp h1;obtain⟨o,ho,hoF⟩:=br hns (i:=i) (x:=m) (by rw[fN hi,ei]);refine⟨⟨o,fz ho,hoF⟩,λo ho k hk=>?_⟩;obtain⟨j,hj,ej⟩:=pH.mp ho;obtain⟨n,hn,hnF⟩:=qw hns (i:=j) (y:=o) (by rw[fN hj,ej]);rw[o4 inv.nd hk hnF];exact h2 n (fz hn)
end
section
variable {α:Type} [DecidableEq α]
theorem o6{ks:List α}{L:α->List α}{F G:List (α×Int)}(hF:vS ks L F)(hG:vS ks L G):∀(n:Nat)(h:α)(m:Int),m.toNat<=n->(h,m)∈F->(h,m)∈G
 | 0,h,m,hn,hm=>by have:=(hF.fin _ hm).1;dsimp only at this;omega
 | n+1,h,m,hn,hm=>by
  obtain⟨h1,h2,h3⟩:=hF.fin _ hm;dsimp only at h1 h2 h3;have ih:∀o∈L h,∀k,(o,k)∈F->(o,k)∈G:=λo ho k hk=>by obtain⟨k',hk',hlt⟩:=h2 o ho;have e:=o4 hF.nd hk hk';subst e;have:=(hF.fin _ hk).1;dsimp only at this;exact o6 hF hG n o k (by omega) hk
  have hin:h∈G.map (·.1):=rH λno=>by obtain⟨o,ho,hno⟩:=hG.out h (hF.sub _ hm) no;obtain⟨k,hk,_⟩:=h2 o ho;exact hno (aF.mpr ⟨_,ih o ho k hk,rfl⟩)
  obtain⟨⟨_,m'⟩,hm',rfl⟩:=aF.mp hin;obtain⟨g1,g2,g3⟩:=hG.fin _ hm';dsimp only at g1 g2 g3 h1 h2 h3 ih hm;have e:m'=m:=by
   rcases h3 with⟨e1,e2⟩|⟨o,ho,Ru⟩
   .rcases g3 with⟨e3,_⟩|⟨o,ho,_⟩
    .omega
    .rw[e2] at ho;exact nomatch ho
   .rcases g3 with⟨_,e3⟩|⟨o',ho',ho2⟩
    .rw[e3] at ho;exact nomatch ho
    .obtain⟨k,hk,hlt⟩:=g2 o ho;have a:=o4 hG.nd hk (ih o ho _ Ru);obtain⟨k',hk',hlt'⟩:=h2 o' ho';have b:=o4 hG.nd (ih o' ho' _ hk') ho2;omega
  rw[<- e];exact hm'
def gP(ks:List α)(L:α->List α)(F:List (α×Int)):Prop:=vS ks L F/\F.length=ks.length
def Na{ks:List α}{L:α->List α}{F G:List (α×Int)}(nd:ks.Nodup)(hF:gP ks L F)(hG:vS ks L G):G.length=ks.length:=by
 have h1:F.length<=G.length:=by
  have:=j5 hF.1.nd (ys:=G.map (·.1)) λx hx=>by obtain⟨⟨h,m⟩,hm,rfl⟩:=aF.mp hx;exact aF.mpr ⟨_,o6 hF.1 hG _ h m (az _) hm,rfl⟩
  rwa [av,av] at this
 have h2:G.length<=ks.length:=by
  have:=j5 hG.nd (ys:=ks) λx hx=>by obtain⟨y,hy,rfl⟩:=aF.mp hx;exact hG.sub y hy
  rwa [av] at this
 have:=hF.2;omega
def gP.mem{ks:List α}{L:α->List α}{F:List (α×Int)}(nd:ks.Nodup)(h:gP ks L F){x:α}(hx:x∈ks):∃n,(x,n)∈F:=by
 have:x∈F.map (·.1):=rH λno=>by
  have h1:(F.map (·.1)++[x]).Nodup:=by rw[gp];exact⟨h.1.nd,by simp,λa ha b hb z=>no (by rw[aA.mp hb] at z;exact z▸ha)⟩
  have:=j5 h1 (ys:=ks) λy hy=>by
   rcases aO.mp hy with hy|hy
   .obtain⟨z,hz,rfl⟩:=aF.mp hy;exact h.1.sub z hz
   .rw[aA.mp hy];exact hx
  rw[aR,av,h.2,jI] at this;omega
 obtain⟨⟨_,n⟩,hn,rfl⟩:=aF.mp this;exact⟨n,hn⟩
def mD(ks:List α)(L:α->List α)(m:Int):Prop:=∃F,gP ks L F/\(∃x∈F,x.2=m)/\∀x∈F,x.2<=m
def F0{ks:List α}{L:α->List α}{m:Int}(h:mD ks L m)(g:mD ks L n):m=n:=by obtain⟨F,hF,⟨x,hx,rfl⟩,h1⟩:=h;obtain⟨G,hG,⟨y,hy,rfl⟩,g1⟩:=g;have a:=h1 _ (o6 hG.1 hF.1 _ y.1 y.2 (az _) hy);have b:=g1 _ (o6 hF.1 hG.1 _ x.1 x.2 (az _) hx);dsimp only at a b;omega
end
def Nb{ls:List HM.bP}(h:iL rs r t ks)(g:iL rs r t ls):ks=ls:=DW HM.pW h.1 g.1 λz=>(h.2 z).trans (g.2 z).symm
def J6{n:Int}(hok:r.ok n)(ht:K4 t)(h:iL rs r t ks):ks.length<=4:=by
 have nd:ks.Nodup:=h.1.imp λh e=>by rw[e] at h;omega
 have h1:ks.length<=(r.ways.flatMap λq=>(d9 r t).map λu=>(q,u)).length:=j5 nd λz hz=>by obtain⟨a1,a2,_⟩:=(h.2 z).mp hz;exact mY.mpr ⟨z.1,a1,aF.mpr ⟨z.2,(jj hok ht _).mpr a2,rfl⟩⟩
 have h2:=Row.oS r;have h3:=tO r ht;have h4:∀ws:List Int,(ws.flatMap λq=>(d9 r t).map λu=>(q,u)).length=ws.length*(d9 r t).length:=λws=>by
  induction ws with
  | nil=>simp
  | cons w ws ih=>rw[rM,aR,ih,av,eB,Nat.succ_mul,Nat.add_comm]
 rw[h4] at h1;exact bJ h1 (Nat.mul_le_mul h2 h3)
open Classical in
def dH(rs:List Row)(h:HM.bP):List HM.bP:=if e:∃(ks:List HM.bP)(r:Row),rs[h.1.toNat]?=some r/\iL rs r h.2 ks then e.choose else[]
def D9{h:HM.bP}(hr:rs[h.1.toNat]?=some r)(hl:iL rs r h.2 ks):dH rs h=ks:=by have e:∃(ks:List HM.bP)(r:Row),rs[h.1.toNat]?=some r/\iL rs r h.2 ks:=⟨ks,r,hr,hl⟩;unfold dH;rw[dif_pos e];obtain⟨r',hr',hl'⟩:=e.choose_spec;rw[hr] at hr';cases hr';exact Nb hl' hl
def J7(h:ef H rs kvs):gm H kvs (dH rs):=λx hx=>by obtain⟨a,vs,ks,k,r,h1,h2,h3,h4,h5,h6⟩:=h x hx;refine⟨a,vs,h1,h2,?_⟩;rw[D9 (r:=r) (by rw[h4];exact h5) h6];exact h3
def iA{n:Nat}{z:HM.bP}:z∈bS rs n↔∃k:Nat,k<n/\z.1=(k:Int)/\z.2∈cz rs k:=by
 unfold bS;rw[mY];constructor
 .rintro⟨k,hk,hz⟩;obtain⟨t,ht,rfl⟩:=aF.mp hz;exact⟨k,fW.mp hk,rfl,ht⟩
 .rintro⟨k,hk,e,ht⟩;exact⟨k,fW.mpr hk,aF.mpr ⟨z.2,ht,Prod.ext e.symm rfl⟩⟩
def qa:t∈cz rs k↔fu.lv rs k t:=by
 unfold cz;cases t with
 | none=>simp[fu.lv]
 | some p=>simp[fu.lv]
theorem Aa(rs:List Row):∀n,(bS rs n).Nodup
 | 0=>.nil
 | n+1=>by rw[nB,gp];refine⟨Aa rs n,lg.mpr ((vR rs n).imp λh e=>h (congrArg Prod.snd e)),λx hx y hy e=>?_⟩;obtain⟨k,hk,e1,_⟩:=iA.mp hx;obtain⟨t,_,rfl⟩:=aF.mp hy;rw[e] at e1;have e1:(n:Int)=(k:Int):=e1;omega
def J8(hok:∀r∈rs,r.ok rs.length)(hn:rs.length<=200)(em:kvs.map (·.1)=bS rs rs.length)(h:ef H rs kvs):
  iV (bS rs rs.length) (dH rs)/\∀k r t,rs[k]?=some r->t∈cz rs k->iL rs r t (dH rs ((k:Int),t)):=by
 have each:∀z∈bS rs rs.length,∃(k:Nat)(r:Row),z.1=(k:Int)/\rs[k]?=some r/\iL rs r z.2 (dH rs z)/\K4 z.2:=λz hz=>by rw[<- em] at hz;obtain⟨x,hx,rfl⟩:=aF.mp hz;obtain⟨a,vs,ks,k,r,h1,h2,h3,h4,h5,h6⟩:=h x hx;obtain⟨k',_,e',ht⟩:=iA.mp (by rw[<- em];exact hz);refine⟨k,r,h4,h5,?_,vQ rs k' _ ht⟩;rw[D9 (r:=r) (by rw[h4];exact h5) h6];exact h6
 refine⟨⟨Aa rs _,bJ (oY rs _) (by omega),λz hz=>?_⟩,λk r t hr ht=>?_⟩
 .obtain⟨k,r,e,hr,hl,AW⟩:=each z hz;have MV:=hok r (fz hr);refine⟨J6 MV AW hl,λo ho=>?_⟩;obtain⟨a1,a2,a3⟩:=(hl.2 o).mp ho;obtain⟨b1,b2⟩:=Row.ig MV o.1 a1;exact iA.mpr ⟨o.1.toNat,by omega,by omega,qa.mpr a3⟩
 .have hk:=(fq hr).1;obtain⟨k',r',e,hr',hl,_⟩:=each ((k:Int),t) (iA.mpr ⟨k,hk,rfl,ht⟩);have e:(k:Int)=(k':Int):=e;have:k=k':=by omega
  subst this;rw[hr] at hr';cases hr';exact hl
section
variable {P:Program}{w:World}{K:aD}{mg:Str->Option Value}{base:Heap}
def F1(P:Program)(w:World):Sp:=λvs H Q _=>∃(d:Addr)(ep:Nat)(kvs:fZ)(L:HM.bP->List HM.bP),vs=[.ref d]/\H d=some (.ext (dN P w d ep kvs))/\cK H kvs/\gm H kvs L/\iV (kvs.map (·.1)) L /\
 (∀H',aB H H'->(∀F,¬gP (kvs.map (·.1)) L F)->Q .cX H')/\∀(d':Addr)(qi:Nat)(kvs':fZ)(F:List (HM.bP×Int))(H':Hp),aB H H'->H d'=none->H' d'=some (.ext (dN P w d' qi kvs'))->cK H' kvs'->jk kvs' F->gP (kvs.map (·.1)) L F->Q (.ref d') H'
def Ck(T:Txt w K mg):b8 P w K mg base gS 3 T.qS.f T.qS.d ["later"] (F1 P w):=by
 refine T.qS.F.ok sX (λvs H Q E h=>?_) (λcdv A outer s H vs Q E hr h=>?_)
 .sleep 256
 obtain⟨d,ep,kvs,L,rfl,hd,hk,hl,hok,q0,q⟩:=h;refine⟨_,(ak (aE (i:=1) sX.nd rfl (ao rfl) (aP T.ended (JZ T) hr (aa (pv 0) ai)))
 (au (aJ (f6 (aG dU (aT (vp) rfl T.eS BT.eO (aa (pv 1) ai)) (aT (vp) rfl T.eS BT.eO (aa (pv 0) ai)) (aM _)) (pv 1) nc)))),?_⟩
 sleep 63;sleep 6;refine⟨d,ep,kvs,L,rfl,hd,hk,hl,hok,λf OR AY F H1 s1 ff hf YZ hF Xa=>?_⟩;have hd1:=s1 _ _ hd;have hkF:AY.length=F.length:=by have:=congrArg List.length hF.keys;rw[av,av] at this;exact this
 walk_at "go"
 .rename_i e;exact q f OR AY F H1 s1 ff hf YZ hF ⟨Xa,by rw[av];omega⟩
 .rename_i e;refine q0 H1 s1 λG hG=>e ?_;have:=Na hok.1 hG Xa;rw[av] at this;omega
def J9(P:Program)(w:World):Sp:=λvs H Q _=>∃(c:Addr)(us:List V)(rs:List Row),vs=[.ref c]/\H c=some (.lst us)/\Rows H us rs/\(∀r∈rs,r.ok rs.length)/\rs.length<=200 /\
 (iV (bS rs rs.length) (dH rs)->(∀k r t,rs[k]?=some r->t∈cz rs k->iL rs r t (dH rs ((k:Int),t)))->(∀H',aB H H'->(∀F,¬gP (bS rs rs.length) (dH rs) F)->Q .cX H')/\∀(d':Addr)(qi:Nat)(kvs':fZ)(F:List (HM.bP×Int))(H':Hp),aB H H'->H d'=none->H' d'=some (.ext (dN P w d' qi kvs'))->cK H' kvs'->jk kvs' F->gP (bS rs rs.length) (dH rs) F->Q (.ref d') H')
def F2(T:Txt w K mg):b8 P w K mg base gS 6 T.xg.f T.xg.d ["code"] (J9 P w):=by
 refine T.xg.F.ok Fy (λvs H Q E h=>?_) (λcdv A outer s H vs Q E hr h=>?_)
 .obtain⟨c,us,rs,rfl,_⟩:=h;rfl
 obtain⟨c,us,rs,rfl,hc,hrs,hok,hn,q⟩:=h;refine⟨_,(au (aJ (aP T.qS (Ck T) hr (aa (aP T.qR (Cf T) hr (aa (pv 0) ai)) ai)))),?_⟩;sleep 198;sleep 6;refine⟨c,us,rs,rfl,hc,hrs,hok,hn,λd ep kvs H1 s1 fd hd hk em hla=>?_⟩;obtain⟨AZ,o7⟩:=J8 hok hn em hla;obtain⟨q0,q1⟩:=q AZ o7;walk_at "go";refine⟨d,ep,kvs,dH rs,rfl,hd,hk,J7 hla,by rw[em];exact AZ,λH2 s2 no=>?_,λf OR AY F H2 s2 ff hf YZ hF e=>?_⟩
 .walk_at "go";rw[em] at no;exact q0 H2 (s1.trans s2) no
 .walk_at "go";rw[em] at e;exact q1 f OR AY F H2 (s1.trans s2) (s1.free ff) hf YZ hF e
def Nc:Sp:=λvs H Q _=>∃(c:Addr)(us:List V)(rs:List Row),vs=[.ref c]/\H c=some (.lst us)/\Rows H us rs/\(∀r∈rs,r.ok rs.length)/\rs.length<=200/\rs≠[] /\
 (iV (bS rs rs.length) (dH rs)->(∀k r t,rs[k]?=some r->t∈cz rs k->iL rs r t (dH rs ((k:Int),t)))->(∀H',aB H H'->(∀F,¬gP (bS rs rs.length) (dH rs) F)->Q .cX H')/\∀(m:Int)(H':Hp),aB H H'->mD (bS rs rs.length) (dH rs) m->Q (.int m) H')
def Ab(T:Txt w K mg):b8 P w K mg base gS 7 T.delay.f T.delay.d ["code"] Nc:=by
 refine T.delay.F.ok zB (λvs H Q E h=>?_) (λcdv A outer s H vs Q E hr h=>?_)
 .obtain⟨c,us,rs,rfl,_⟩:=h;rfl
 obtain⟨c,us,rs,rfl,hc,hrs,hok,hn,hne,q⟩:=h;refine⟨_,(ak (aE (i:=1) zB.nd rfl (ao rfl) (aP T.xg (F2 T) hr (aa (pv 0) ai)))
 (au (aJ (f6 (aG CY (pv 1) nc (aM _)) nc (aT (Fv rfl) rfl T.OE BT.Oc (aa (I9 (pv 1)) ai)))))),?_⟩
 sleep 63;sleep 6;refine⟨c,us,rs,rfl,hc,hrs,hok,hn,λAZ o7=>⟨λH1 s1 no=>?_,λf OR AY F H1 s1 ff hf YZ hF e=>?_⟩⟩
 .walk_at "go";exact(q AZ o7).1 H1 s1 no
 .walk_at "go";rename_i v H2 n2;have ev:AY.map (·.2.2)=(F.map (·.2)).map V.int:=by have:=congrArg (List.map (·.2)) hF;rw[fU,fU] at this;rw[fU];exact this
  have aby:F.map (·.2)≠[]:=λz=>by
   have h0:F.length=0:=by rw[<- av (f:=(·.2)),z];rfl
   have h1:=e.2;cases rs with
   | nil=>exact hne rfl
   | cons r rs =>
    have:((0:Int),none)∈bS (r::rs) (r::rs).length:=iA.mpr ⟨0,by simp,rfl,qa.mpr trivial⟩;rw[h0] at h1;rw[List.length_eq_zero_iff.mp h1.symm] at this;exact nomatch this
  refine RK n2.self (n2.keep hf) ev aby λm hm hle=>?_;walk_at "go";obtain⟨x,hx,rfl⟩:=aF.mp hm;exact(q AZ o7).2 _ H2 (s1.trans n2.same) ⟨F,e,⟨x,hx,rfl⟩,λy hy=>hle _ (k7 hy)⟩
end
section
variable {α:Type} [DecidableEq α]
def A0:List Int->Int
 | []=>0
 | x::l=>if x<=A0 l then A0 l else x
theorem Cm:∀{l:List Int}{x:Int},x∈l->x<=A0 l
 | y::l,x,h=>by
  unfold A0;rcases aI.mp h with rfl|h
  .split<;>omega
  .have:=Cm h;split<;>omega
theorem xF:∀l:List Int,(A0 l=0\/A0 l∈l)/\0<=A0 l\/(A0 l∈l)
 | []=>.inl ⟨.inl rfl,Int.le_refl _⟩
 | y::l=>by
  unfold A0;split
  .rcases xF l with⟨h|h,h0⟩|h
   .exact .inl ⟨.inl h,h0⟩
   .exact .inr (c9 _ h)
   .exact .inr (c9 _ h)
  .exact .inr (aI.mpr (.inl rfl))
def tV(L:α->List α):Nat->α->Int
 | 0,_=>1
 | n+1,h=>1+A0 ((L h).map (tV L n))
theorem vW{ks:List α}{L:α->List α}{rk:α->Nat}(hL:∀k∈ks,∀o∈L k,o∈ks)(hr:∀k∈ks,∀o∈L k,rk o<rk k):∀(n m:Nat)(h:α),h∈ks->rk h<n->rk h<m->tV L n h=tV L m h
 | 0,_,_,_,h1,_=>absurd h1 (gF _)
 | _,0,_,_,_,h2=>absurd h2 (gF _)
 | n+1,m+1,h,hk,h1,h2=>by
  unfold tV
  congr 2
  refine List.map_congr_left λo ho=>vW hL hr n m o (hL h hk o ho) ?_ ?_
  .have:=hr h hk o ho;omega
  .have:=hr h hk o ho;omega
def Ka{ks:List α}{L:α->List α}{rk:α->Nat}(nd:ks.Nodup)(hL:∀k∈ks,∀o∈L k,o∈ks)(hr:∀k∈ks,∀o∈L k,rk o<rk k):∃F,gP ks L F:=by
 let G:α->Int:=λh=>tV L (rk h+1) h;have hG:∀h∈ks,G h=1+A0 ((L h).map G):=λh hk=>by
  show 1+A0 ((L h).map (tV L (rk h)))=_
  congr 2
  refine List.map_congr_left λo ho=>vW hL hr _ _ o (hL h hk o ho) (hr h hk o ho) (g8 _)
 have pos:∀h,1<=G h:=λh=>by
  show 1<=1+A0 _;have:0<=A0 ((L h).map (tV L (rk h))):=by
   rcases xF ((L h).map (tV L (rk h))) with⟨_,h0⟩|hm
   .exact h0
   .have:∀(n:Nat)(x:α),0<=tV L n x:=λn=>by
     induction n with
     | zero=>intro x;show(0:Int)<=1;decide
     | succ n ih =>
      intro x;show 0<=1+A0 ((L x).map (tV L n));rcases xF ((L x).map (tV L n)) with⟨_,h0⟩|hm
      .omega
      .obtain⟨o,_,e⟩:=aF.mp hm;have:=ih o;omega
    obtain⟨o,_,e⟩:=aF.mp hm;rw[<- e];exact this _ _
  omega
 have em:(ks.map λh=>(h,G h)).map (·.1)=ks:=by rw[fU];exact List.map_id' _
 refine⟨ks.map λh=>(h,G h),⟨by rw[em];exact nd,λx hx=>?_,λx hx=>?_,λh hh no=>absurd (by rw[em];exact hh) no⟩,av _⟩
 .obtain⟨h,hh,rfl⟩:=aF.mp hx;exact hh
 .obtain⟨h,hh,rfl⟩:=aF.mp hx;dsimp only;have e:=hG h hh;refine⟨pos h,λo ho=>⟨G o,aF.mpr ⟨o,hL h hh o ho,rfl⟩,?_⟩,?_⟩
  .have:=Cm (k7 (f:=G) ho);omega
  .by_cases hn:L h=[]
   .left;rw[hn] at e;exact⟨e,hn⟩
   .right;have hm:A0 ((L h).map G)∈(L h).map G:=by
     rcases xF ((L h).map G) with⟨h0|h0,_⟩|h0
     .exfalso;obtain⟨o,ho⟩:=List.exists_mem_of_ne_nil _ hn;have h1:=Cm (k7 (f:=G) ho);have:=pos o;omega
     .exact h0
     .exact h0
    obtain⟨o,ho,eo⟩:=aF.mp hm;exact⟨o,ho,aF.mpr ⟨o,hL h hh o ho,by rw[eo,e];congr 1;omega⟩⟩
end
open Classical in
def dD(rs:List Row):Option Int:=if e:∃m,mD (bS rs rs.length) (dH rs) m then some e.choose else none
def qb{m:Int}(h:mD (bS rs rs.length) (dH rs) m):dD rs=some m:=by unfold dD;rw[dif_pos ⟨m,h⟩];exact congrArg some (F0 (Exists.choose_spec (⟨m,h⟩:∃m,mD (bS rs rs.length) (dH rs) m)) h)
def vX(h:∀F,¬gP (bS rs rs.length) (dH rs) F):dD rs=none:=by unfold dD;rw[dif_neg];rintro⟨m,F,hF,_⟩;exact h F hF
def qz(hne:rs≠[])(h:gP (bS rs rs.length) (dH rs) F):∃m,dD rs=some m/\1<=m:=by
 have hin:((0:Int),none)∈bS rs rs.length:=iA.mpr ⟨0,List.length_pos_iff.mpr hne,rfl,qa.mpr trivial⟩;have hF:F≠[]:=λz=>by have h1:=h.2;rw[z] at h1;rw[List.length_eq_zero_iff.mp h1.symm] at hin;exact nomatch hin
 have ex:∀l:List (HM.bP×Int),l≠[]->∃x∈l,∀y∈l,y.2<=x.2:=λl=>by
  induction l with
  | nil=>intro z;exact absurd rfl z
  | cons x l ih =>
   intro _;by_cases hl:l=[]
   .subst hl;exact⟨x,by simp,λy hy=>by rw[aA.mp hy];exact Int.le_refl _⟩
   .obtain⟨z,hz,hm⟩:=ih hl;by_cases hx:z.2<=x.2
    .exact⟨x,by simp,λy hy=>by
      rcases aI.mp hy with rfl|hy
      .exact Int.le_refl _
      .have:=hm y hy;omega⟩
    .exact⟨z,c9 _ hz,λy hy=>by
      rcases aI.mp hy with rfl|hy
      .omega
      .exact hm y hy⟩
 obtain⟨x,hx,hm⟩:=ex F hF;exact⟨x.2,qb ⟨F,h,⟨x,hx,rfl⟩,hm⟩,(h.1.fin x hx).1⟩
def Ea(o7:∀k r t,rs[k]?=some r->t∈cz rs k->iL rs r t (dH rs ((k:Int),t))){z:HM.bP}(hz:z∈bS rs rs.length){o:HM.bP}(ho:o∈dH rs z):∃(p:Nat)(r:Row),z.1=(p:Int)/\p<rs.length/\rs[p]?=some r/\z.2∈cz rs p/\DV rs r z.2 o:=by obtain⟨p,hp,e,ht⟩:=iA.mp hz;obtain⟨zp,zt⟩:=z;dsimp only at e ht;subst e;exact⟨p,rs[p],rfl,hp,fN hp,ht,((o7 p _ zt (fN hp) ht).2 o).mp ho⟩
def Nd(AZ:iV (bS rs rs.length) (dH rs))(o7:∀k r t,rs[k]?=some r->t∈cz rs k->iL rs r t (dH rs ((k:Int),t)))(hf:∀(p:Nat)(r:Row),rs[p]?=some r->∀q∈r.ways,(p:Int)<q):∃F,gP (bS rs rs.length) (dH rs) F:=by refine Ka (rk:=λz=>rs.length-z.1.toNat) AZ.1 (λk hk o ho=>(AZ.2.2 k hk).2 o ho) λz hz o ho=>?_;obtain⟨p,r,e,hp,hr,_,hl⟩:=Ea o7 hz ho;have h1:=hf p r hr _ hl.1;have h2:=(AZ.2.2 z hz).2 o ho;obtain⟨q,hq,e2,_⟩:=iA.mp h2;show rs.length-o.1.toNat<rs.length-z.1.toNat;rw[e2] at h1;rw[e,e2];omega
def cL(rs:List Row)(p:Nat):List Int:=SN.fk ((jA rs p).map (·.2))
def c7(rs:List Row)(p:Nat):Nat:=if dP rs p=true then(cL rs p).length+1 else 0
def Row.own(r:Row):Nat:=if r.gD=true then 2 else 1
def f9(rs:List Row)(p:Nat):Nat:=c7 rs p+(rs[p]?.map Row.own).getD 0
def firstM(rs:List Row):Nat->Nat
 | 0=>0
 | p+1=>firstM rs p+f9 rs p
def gQ(rs:List Row)(q:Int):Int:=(firstM rs q.toNat:Int)
def Row.dbl(at_:Int):Row->List Row
 | .num _ k v q=>[.num 0 k v (at_+1),.num 1 k v q]
 | .copy _ k i q=>[.copy 0 k i (at_+1),.copy 1 k i q]
 | .op _ s k i j q=>[.op 0 s k i j (at_+1),.op 1 s k i j q]
 | r=>[r]
def cu(f:Int):List Int->List Row
 | []=>[]
 | b::bs=>.look b (f+1)::cu (f+1) bs
theorem d7(f:Int):∀bs,(cu f bs).length=bs.length
 | []=>rfl
 | b::bs=>by rw[cu,eB,d7 (f+1) bs,eB]
theorem lQ(b:Int):∀(f:Int)(bs:List Int),cu f (bs++[b])=cu f bs++[.look b (f+bs.length+1)]
 | f,[]=>by simp[cu]
 | f,c::bs=>by
  rw[List.cons_append,cu,lQ b (f+1) bs,cu,List.cons_append,eB];have:f+1+(bs.length:Int)+1=f+((bs.length+1:Nat):Int)+1:=by omega
  rw[this]
def Ac(rs:List Row)(p:Nat):List Row:=if dP rs p=true then cu (firstM rs p) (cL rs p)++[.mark ((firstM rs p:Int)+(cL rs p).length+1)] else[]
def putAt(rs:List Row)(p:Nat)(r:Row):List Row:=Ac rs p++(r.cU (gQ rs)).dbl ((firstM rs p:Int)+c7 rs p)
def bX(rs:List Row):Nat->List Row
 | 0=>[]
 | p+1=>bX rs p++(rs[p]?.map (putAt rs p)).getD []
def tW(rs:List Row)(p:Nat):(Ac rs p).length=c7 rs p:=by
 unfold Ac c7;split
 .rw[aR,d7];rfl
 .rfl
def Eb(f:Int->Int)(a:Int)(r:Row):((r.cU f).dbl a).length=r.own:=by cases r<;>rfl
theorem d8{rs:List Row}:∀{p},p<=rs.length->(bX rs p).length=firstM rs p
 | 0,_=>rfl
 | p+1,h=>by have e:rs[p]?=some rs[p]:=fN h;rw[bX,firstM,aR,d8 (Nat.le_of_succ_le h)];unfold f9;rw[e];show _+(putAt rs p rs[p]).length=_;unfold putAt;rw[aR,tW,Eb];rfl
def F3(rs:List Row)(p:Nat):∀b∈cL rs p,0<=b/\b<8:=λb hb=>by unfold cL SN.fk at hb;obtain⟨k,hk,rfl⟩:=aF.mp hb;have:=fW.mp (dJ.mp hk).1;omega
def tX(rs:List Row)(p:Nat):(cL rs p).length<=8:=j4 _
def xH(rs:List Row)(p:Nat):c7 rs p<=9:=by have:=tX rs p;unfold c7;split<;>omega
def qc(r:Row):r.own<=2:=by unfold Row.own;split<;>omega
def Nf(rs:List Row)(p:Nat):f9 rs p<=11:=by
 have:=xH rs p;unfold f9;cases rs[p]? with
 | none=>simp;omega
 | some r=>have:=qc r;simp;omega
theorem qd(rs:List Row):∀p,firstM rs p<=11*p
 | 0=>az _
 | p+1=>by have:=qd rs p;have:=Nf rs p;rw[firstM];omega
theorem tY{ks:Nat->Key}{vs:Nat->V}:∀{n:Nat},(∀i j,i<n->j<n->ks i=ks j->i=j)->∀i,i<n->e9 (gq ks vs n) (ks i)=some (vs i)
 | 0,_,i,h=>absurd h (gF _)
 | n+1,hn,i,h=>by
  rw[gq,yo];by_cases e:ks i=ks n
  .have:i=n:=hn i n h (g8 _) e;rw[if_pos e,this]
  .rw[if_neg e];refine tY (λa b ha hb=>hn a b (by omega) (by omega)) i ?_;rcases aY i n with hl|hg
   .exact hl
   .exact absurd (by rw[show i=n by omega]) e
theorem kR{ks:Nat->Key}{vs:Nat->V}{k:Key}:∀{n:Nat},(∀i,i<n->ks i≠k)->e9 (gq ks vs n) k=none
 | 0,_=>rfl
 | n+1,h=>by rw[gq,yo,if_neg (λe=>h n (g8 _) e.symm)];exact kR λi hi=>h i (by omega)
def o8(H:Hp)(rs:List Row)(kvs:List (Key×V)):Prop:=∀j:Nat,j<rs.length->(dP rs j=true->∃a,e9 kvs (.inl (j:Int))=some (.ref a)/\H a=some (.lst ((cL rs j).map V.int)))/\(¬dP rs j=true->e9 kvs (.inl (j:Int))=none)
def o8.same{kvs:List (Key×V)}(e:aB H H')(h:o8 H rs kvs):o8 H' rs kvs:=λj hj=>⟨λhm=>let⟨a,h1,h2⟩:=(h j hj).1 hm;⟨a,h1,e _ _ h2⟩,(h j hj).2⟩
def Row.pl:Row->Prop
 | .num d _ _ _=>d=2|.copy d _ _ _=>d=2|.op d _ _ _ _ _=>d=2|.look _ _=>False|.mark _=>False|_=>True
inductive La (rs:List Row):Nat->Prop
 | zero:La rs 0
 | step {p q:Nat} {r:Row} (h:La rs p) (hr:rs[p]?=some r) (w:((q:Nat):Int)∈r.ways):La rs q
def cnt_cons(r:Row)(rs:List Row)(j:Nat):cnt (r::rs) j=r.ways.count (j:Int)+cnt rs j:=by unfold cnt;rw[cj,List.sum_cons]
theorem xJ:∀{rs:List Row}{p j:Nat}{r:Row},rs[p]?=some r->((j:Nat):Int)∈r.ways->1<=cnt rs j
 | [],_,_,_,h,_=>by simp at h
 | x::rs,0,j,r,h,w=>by
  simp at h;subst h;have:=List.count_pos_iff.mpr w;rw[cnt_cons];omega
 | x::rs,p+1,j,r,h,w=>by have:=xJ (rs:=rs) (p:=p) (by simpa using h) w;rw[cnt_cons];omega
def Ec{r':Row}(w:((j:Nat):Int)∈r.ways)(w':((j:Nat):Int)∈r'.ways)(rs:List Row):∀(p q:Nat),p<q->rs[p]?=some r->rs[q]?=some r'->2<=cnt rs j:=by
 induction rs with
 | nil=>intro p q _ h;simp at h
 | cons x rs ih =>
  intro p q hl h h';rw[cnt_cons];obtain⟨q,rfl⟩:∃i,q=i+1:=⟨q-1,by omega⟩;rw[rN] at h';rcases Nat.eq_zero_or_pos p with e|hp
  .subst e;rw[List.getElem?_cons_zero] at h;cases h;have h1:=List.count_pos_iff.mpr w;have h2:=xJ h' w';omega
  .obtain⟨p,rfl⟩:∃i,p=i+1:=⟨p-1,by omega⟩;rw[rN] at h;have:=ih p q (by omega) h h';omega
def xK(hn:¬dP rs j=true)(hr:rs[p]?=some r)(w:((j:Nat):Int)∈r.ways):j≠0/\∀(q:Nat)(r':Row),rs[q]?=some r'->((j:Nat):Int)∈r'.ways->q=p:=by
 have h1:=xJ hr w;have hm:¬(if j=0 then 1 else 2)<=cnt rs j:=λz=>hn (decide_eq_true z);have hj:j≠0:=λz=>hm (by rw[if_pos z];exact h1);rw[if_neg hj] at hm;refine⟨hj,λq r' hq w'=>?_⟩;rcases lW p q with h|h|h
 .exact absurd (Ec w w' rs _ _ h hr hq) hm
 .exact h.symm
 .exact absurd (Ec w' w rs _ _ h hq hr) hm
inductive Ed (rs:List Row):Nat->Nat->Prop
 | top {j:Nat} (h:j=0\/dP rs j=true):Ed rs j 0
 | on {p j d:Nat} {r:Row} (hr:rs[p]?=some r) (w:((j:Nat):Int)∈r.ways) (hn:¬dP rs j=true) (h:Ed rs p d):Ed rs j (d+1)
def Sx(h:La rs j):∃d,Ed rs j d:=by
 induction h with
 | zero=>exact⟨0,.top (.inl rfl)⟩
 | step _ hr w ih =>
  rename_i p q r _;obtain⟨d,hd⟩:=ih;by_cases hm:dP rs q=true
  .exact⟨0,.top (.inr hm)⟩
  .exact⟨d+1,.on hr w hm hd⟩
def Ef(h:Ed rs j d):∀{d':Nat},Ed rs j d'->d=d':=by
 induction h with
 | top h =>
  intro d' h';cases h' with
  | top _=>rfl
  | on hr w hn _=>exact absurd (h.resolve_left (xK hn hr w).1) hn
 | on hr w hn _ ih =>
  intro d' h';cases h' with
  | top h=>exact absurd (h.resolve_left (xK hn hr w).1) hn
  | on hr' w' _ h' =>
   obtain rfl:=(xK hn hr w).2 _ _ hr' w';rw[ih h']
def Kc(h:Ed rs j d):j<rs.length->∃l:List Nat,l.length=d+1/\l.Nodup/\∀x∈l,x<rs.length/\∃i,i<=d/\Ed rs x i:=by
 induction h with
 | top h=>exact λhj=>⟨[_],rfl,by simp,λx hx=>by rw[aA.mp hx];exact⟨hj,0,az _,.top h⟩⟩
 | @on p j d r hr w hn hd ih =>
  intro hj;obtain⟨l,h1,h2,h3⟩:=ih (fq hr).1;refine⟨j::l,by rw[eB,h1],iE.mpr ⟨λhx=>?_,h2⟩,λx hx=>?_⟩
  .obtain⟨_,i,hi,hd'⟩:=h3 _ hx;have:=Ef (Ed.on hr w hn hd) hd';omega
  .rcases aI.mp hx with rfl|hx
   .exact⟨hj,_,az _,.on hr w hn hd⟩
   .obtain⟨h4,i,hi,hd'⟩:=h3 x hx;exact⟨h4,i,by omega,hd'⟩
def Kd(h:Ed rs j d)(hj:j<rs.length):d<rs.length:=by obtain⟨l,h1,h2,h3⟩:=Kc h hj;have:=j5 h2 (ys:=List.range rs.length) λx hx=>fW.mpr (h3 x hx).1;rw[gT] at this;omega
open Classical in
def Ng(rs:List Row)(j:Nat):Nat:=if e:∃d,Ed rs j d then e.choose else 0
def Eg(h:Ed rs j d):Ng rs j=d:=by unfold Ng;rw[dif_pos ⟨d,h⟩];exact Ef (Exists.choose_spec (⟨d,h⟩:∃d,Ed rs j d)) h
def iB(h:p<=q):firstM rs p<=firstM rs q:=by
 induction q with
 | zero=>rw[Nat.le_zero.mp h];exact az _
 | succ q ih =>
  rcases aY p (q+1) with h1|h1
  .have:=ih (by omega);show _<=firstM rs q+f9 rs q;omega
  .rw[show p=q+1 by omega];exact az _
def Ke(hr:rs[p]?=some r)(hk:k<f9 rs p):∀m,p<m->m<=rs.length->(bX rs m)[firstM rs p+k]?=(putAt rs p r)[k]?:=by
 intro m;induction m with
 | zero=>intro h;exact absurd h (gF _)
 | succ m ih =>
  intro h1 h2;have hl:=d8 (rs:=rs) (p:=m) (by omega);show(bX rs m++_)[firstM rs p+k]?=_;rcases aY p m with h3|h3
  .have hm:=iB (rs:=rs) (p:=p+1) (q:=m) h3;have e:firstM rs (p+1)=firstM rs p+f9 rs p:=rfl;rw[i6 (by omega),ih h3 (by omega)]
  .obtain rfl:p=m:=by omega
   rw[iD (by omega),hl,show firstM rs p+k-firstM rs p=k by omega,hr];rfl
theorem tZ{rs:List Row}:∀{m x:Nat},x<firstM rs m->m<=rs.length->∃p k,p<m/\k<f9 rs p/\x=firstM rs p+k
 | 0,x,h,_=>absurd h (gF _)
 | m+1,x,h,hm=>by
  rcases aY x (firstM rs m) with h1|h1
  .obtain⟨p,k,h2,h3,h4⟩:=tZ h1 (by omega);exact⟨p,k,by omega,h3,h4⟩
  .have h:x<firstM rs m+f9 rs m:=h;exact⟨m,x-firstM rs m,by omega,by omega,by omega⟩
def qe(hk:k<f9 rs p)(hj:j<f9 rs q)(e:firstM rs p+k=firstM rs q+j):p=q/\k=j:=by
 rcases lW p q with h|h|h
 .have h1:=iB (rs:=rs) (p:=p+1) (q:=q) h;have h1:firstM rs p+f9 rs p<=firstM rs q:=h1;omega
 .subst h;exact⟨rfl,by omega⟩
 .have h1:=iB (rs:=rs) (p:=q+1) (q:=p) h;have h1:firstM rs q+f9 rs q<=firstM rs p:=h1;omega
theorem mS:∀(f:Int)(bs:List Int)(k:Nat),(cu f bs)[k]?=bs[k]?.map λb=>Row.look b (f+k+1)
 | _,[],_=>by simp[cu]
 | f,b::bs,0=>by simp[cu]
 | f,b::bs,k+1=>by rw[cu,rN,rN,mS (f+1) bs k,show f+1+(k:Int)+1=f+((k+1:Nat):Int)+1 by omega]
inductive Cn (rs:List Row) (p:Nat) (r:Row) (x:Int):Nat->Row->Prop
 | look {k:Nat} {b:Int} (hm:dP rs p=true) (hb:(cL rs p)[k]?=some b):Cn rs p r x k (.look b (x+1))
 | mark {k:Nat} (hm:dP rs p=true) (e:k=(cL rs p).length):Cn rs p r x k (.mark (x+1))
 | own {k:Nat} (hd:r.gD=false) (e:k=c7 rs p):Cn rs p r x k (r.cU (gQ rs))
 | one {k:Nat} {R:Row} (hd:r.gD=true) (e:k=c7 rs p) (h1:R.gD=true) (h2:R.sd=0) (h3:R.mQ=r.mQ) (h4:R.ways=[x+1]) (h5:∀n n':Int,r.ok n->jQ n' (x+1)->R.ok n'):Cn rs p r x k R
 | two {k:Nat} {R:Row} (hd:r.gD=true) (e:k=c7 rs p+1) (h1:R.gD=true) (h2:R.sd=1) (h3:R.mQ=r.mQ) (h4:R.ways=r.ways.map (gQ rs)) (h5:∀n n':Int,r.ok n->(∀q,jQ n q->jQ n' (gQ rs q))->R.ok n'):Cn rs p r x k R
def abz(h:(putAt rs p r)[k]?=some R):Cn rs p r ((firstM rs p:Int)+k) k R:=by
 have hl:=tW rs p;unfold putAt at h;rcases aY k (c7 rs p) with h1|h1
 .rw[i6 (by omega)] at h;unfold c7 at h1;by_cases hm:dP rs p=true
  .rw[if_pos hm] at h1;unfold Ac at h;rw[if_pos hm] at h;rcases aY k (cL rs p).length with h2|h2
   .rw[i6 (by rw[d7];exact h2),mS] at h;obtain⟨b,hb,rfl⟩:=dg.mp h;exact .look hm hb
   .obtain rfl:k=(cL rs p).length:=by omega
    rw[iD (by rw[d7];exact az _),d7,Nat.sub_self] at h;cases h;exact .mark hm rfl
  .rw[if_neg hm] at h1;exact absurd h1 (gF _)
 .rw[iD (by omega),hl] at h;have e2:k=c7 rs p+(k-c7 rs p):=by omega
  generalize k-c7 rs p=i at h e2;subst e2;have ex:(firstM rs p:Int)+c7 rs p+1=(firstM rs p:Int)+((c7 rs p+0:Nat):Int)+1:=by omega
  cases r with
  | num d a v q =>
   match i,h with
   | 0,h=>cases h;exact .one rfl rfl rfl rfl rfl (by show[_]=_;rw[ex]) (λn n' h hx=>by rw[<- ex] at hx;exact⟨⟨by decide,by decide⟩,h.2.1,h.2.2.1,hx⟩)
   | 1,h=>cases h;exact .two rfl rfl rfl rfl rfl rfl (λn n' h hf=>⟨⟨by decide,by decide⟩,h.2.1,h.2.2.1,hf _ h.2.2.2⟩)
   | i+2,h=>cases h
  | copy d a b q =>
   match i,h with
   | 0,h=>cases h;exact .one rfl rfl rfl rfl rfl (by show[_]=_;rw[ex]) (λn n' h hx=>by rw[<- ex] at hx;exact⟨⟨by decide,by decide⟩,h.2.1,h.2.2.1,hx⟩)
   | 1,h=>cases h;exact .two rfl rfl rfl rfl rfl rfl (λn n' h hf=>⟨⟨by decide,by decide⟩,h.2.1,h.2.2.1,hf _ h.2.2.2⟩)
   | i+2,h=>cases h
  | op d s a b c q =>
   match i,h with
   | 0,h=>cases h;exact .one rfl rfl rfl rfl rfl (by show[_]=_;rw[ex]) (λn n' h hx=>by rw[<- ex] at hx;exact⟨⟨by decide,by decide⟩,h.2.1,h.2.2.1,h.2.2.2.1,h.2.2.2.2.1,hx⟩)
   | 1,h=>cases h;exact .two rfl rfl rfl rfl rfl rfl (λn n' h hf=>⟨⟨by decide,by decide⟩,h.2.1,h.2.2.1,h.2.2.2.1,h.2.2.2.2.1,hf _ h.2.2.2.2.2⟩)
   | i+2,h=>cases h
  | out a q =>
   match i,h with
   | 0,h=>cases h;exact .own rfl rfl
   | i+1,h=>cases h
  | fork a q q2 =>
   match i,h with
   | 0,h=>cases h;exact .own rfl rfl
   | i+1,h=>cases h
  | look a q =>
   match i,h with
   | 0,h=>cases h;exact .own rfl rfl
   | i+1,h=>cases h
  | mark q =>
   match i,h with
   | 0,h=>cases h;exact .own rfl rfl
   | i+1,h=>cases h
  | back a =>
   match i,h with
   | 0,h=>cases h;exact .own rfl rfl
   | i+1,h=>cases h
section
variable {rs:List Row}
def Ad(h:r.pl)(s s':Int):r.gv s=r.gv s'/\r.rd s=r.rd s':=by
 unfold Row.gv Row.rd;cases r with
 | num d _ _ _=>have h:d=2:=h;subst h;simp[Row.sd,Row.gD]
 | copy d _ _ _=>have h:d=2:=h;subst h;simp[Row.sd,Row.gD]
 | op d _ _ _ _ _=>have h:d=2:=h;subst h;simp[Row.sd,Row.gD]
 | _=>exact⟨rfl,rfl⟩
def Ae(hok:∀r∈rs,r.ok rs.length)(hpl:∀r∈rs,r.pl){s':Int}(hs:s=0\/s=1)(hs':s'=0\/s'=1)(hb:0<=b)(h:cE rs (s,b) p):cE rs (s',b) p:=by
 refine jz (S:=cE rs (s',b)) (λk r hr hm=>?_) (λk q r hr hm w hq=>?_) p h
 .have hm':=fz hr;rw[g7 (hok r hm') hs,(Ad (hpl r hm') s s').2] at hm;exact .here hr ((g7 (hok r hm') hs').mpr hm)
 .have hm':=fz hr;rw[fQ (hok r hm') hs hb,(Ad (hpl r hm') s s').1] at hm;exact .on hr (λz=>hm ((fQ (hok r hm') hs' hb).mp z)) w hq
def qY(r:Row):1<=r.own:=by unfold Row.own;split<;>omega
def o9(hp:p<rs.length):firstM rs p<firstM rs rs.length/\c7 rs p<f9 rs p:=by
 have h1:=iB (rs:=rs) (p:=p+1) (q:=rs.length) hp;have h1:firstM rs p+f9 rs p<=_:=h1;have e:f9 rs p=c7 rs p+(rs[p]).own:=by unfold f9;rw[fN hp];rfl
 have:=qY rs[p];omega
def nC:gQ rs (q:Int)=(firstM rs q:Int):=by unfold gQ;rw[gE]
def qZ{x:Nat}(h:(bX rs rs.length)[x]?=some R):∃(p k:Nat)(r:Row),rs[p]?=some r/\k<f9 rs p/\x=firstM rs p+k/\Cn rs p r (x:Int) k R:=by have hx:=(fq h).1;rw[d8 (az _)] at hx;obtain⟨p,k,h1,h2,rfl⟩:=tZ hx (az _);have hr:rs[p]?=some rs[p]:=fN h1;rw[Ke hr h2 _ h1 (az _)] at h;have:=abz h;exact⟨p,k,_,hr,h2,rfl,by rw[show((firstM rs p+k:Nat):Int)=(firstM rs p:Int)+k by omega];exact this⟩
def lR(hr:rs[p]?=some r):f9 rs p=c7 rs p+r.own:=by unfold f9;rw[hr];rfl
def jB(f:Int->Int)(r:Row):(r.cU f).gD=r.gD/\(r.cU f).sd=r.sd/\(r.cU f).mQ=r.mQ/\(r.cU f).ways=r.ways.map f:=by cases r<;>exact⟨rfl,rfl,rfl,rfl⟩
def Af(f:Int->Int)(r:Row)(s:Int):(r.cU f).gv s=r.gv s/\(r.cU f).rd s=r.rd s:=by obtain⟨h1,h2,h3,_⟩:=jB f r;unfold Row.gv Row.rd Row.FG;rw[h1,h2,h3];exact⟨rfl,rfl⟩
def rf{d:Int}(hpl:r.pl)(hd:r.gD=true)(h1:R.gD=true)(h2:R.sd=d)(h3:R.mQ=r.mQ)(qo:d=0\/d=1)(s:Int):(s=d->R.gv s=r.gv s/\R.rd s=r.rd s)/\(s≠d->s=0\/s=1->R.gv s = -1/\R.rd s=[]):=by
 have e2:r.sd=2:=by
  cases r with
  | num d _ _ _=>exact hpl
  | copy d _ _ _=>exact hpl
  | op d _ _ _ _ _=>exact hpl
  | _=>cases hd
 unfold Row.gv Row.rd Row.FG;rw[h1,h2,h3,hd,e2];constructor
 .intro e;subst e;simp
 .intro e hs;have e1:¬d=s:=λz=>e z.symm;have e3:¬d=2:=by omega
  simp[e1,e3]
def F4(hok:∀r∈rs,r.ok rs.length)(hpl:∀r∈rs,r.pl)(Nh:∀r∈bX rs rs.length,r.ok (bX rs rs.length).length)(hs:s=0\/s=1)(hb:0<=b/\b<8){x:Nat}(h:cE (bX rs rs.length) (s,b) x):
  ∀(p k:Nat)(r:Row),rs[p]?=some r->k<f9 rs p->x=firstM rs p+k->(k<=c7 rs p\/s=1->cE rs (s,b) p)/\(c7 rs p<k->s=0->∃q:Nat,((q:Nat):Int)∈r.ways/\cE rs (s,b) q):=by
 refine jz (S:=λx=>∀(p k:Nat)(r:Row),rs[p]?=some r->k<f9 rs p->x=firstM rs p+k->(k<=c7 rs p\/s=1->cE rs (s,b) p)/\(c7 rs p<k->s=0->∃q:Nat,((q:Nat):Int)∈r.ways/\cE rs (s,b) q)) (λy R hR hm=>?_) (λy q R hR hm w hq=>?_) x h
 .sleep 80;rw[g7 (Nh R (fz hR)) hs] at hm;have hso:=lR hr;have xX:=qc r;have here:b∈r.rd s->cE rs (s,b) p:=λz=>.here hr ((g7 Kf hs).mpr z);cases hw with
  | look hm' hb' =>
   have:b∈cL rs p:=by have hm:b∈[_]:=hm;rw[aA.mp hm];exact fz hb'
   obtain⟨z,hz,ez⟩:∃z∈jA rs p,z.2=b:=by
    unfold cL at this;rw[SN.iX λn hn=>?_] at this
    .obtain⟨z,hz,ez⟩:=aF.mp this;exact⟨z,hz,ez⟩
    .obtain⟨z,hz,rfl⟩:=aF.mp hn;have all:∀t∈cR,0<=t.2/\t.2<8:=by decide
     exact all z (dJ.mp hz).1
   obtain⟨hz1,hz2⟩:=dJ.mp hz;have all:∀t∈cR,t.1=0\/t.1=1:=by decide
   obtain⟨zs,zb⟩:=z;dsimp only at ez;subst ez;refine⟨λ_=>Ae hok hpl (all _ hz1) hs hb.1 (g6.mp hz2),λh=>?_⟩;have:=(fq hb').1;unfold c7 at h;rw[if_pos hm'] at h;omega
  | mark _ _=>exact nomatch (show b∈([]:List Int) from hm)
  | own hd e =>
   rw[(Af _ r s).2] at hm;exact⟨λ_=>here hm,λh=>by omega⟩
  | one hd e h1 h2 h3 h4 _ =>
   refine⟨λ_=>?_,λh=>by omega⟩;have hg:=rf (hpl r hmem) hd h1 h2 h3 (.inl rfl) s;by_cases e0:s=0
   .rw[(hg.1 e0).2] at hm;exact here hm
   .rw[(hg.2 e0 hs).2] at hm;exact nomatch hm
  | two hd e h1 h2 h3 h4 _ =>
   have hg:=rf (hpl r hmem) hd h1 h2 h3 (.inr rfl) s;by_cases e0:s=1
   .rw[(hg.1 e0).2] at hm;exact⟨λ_=>here hm,λ_ h=>by omega⟩
   .rw[(hg.2 e0 hs).2] at hm;exact nomatch hm
 .sleep 80;rw[fQ (Nh R (fz hR)) hs hb.1] at hm;have hso:=lR hr;have xX:=qc r;have hop:=qY r;have next:∀{j:Nat},(q:Int)=(y:Int)+1->k+1=j->j<f9 rs p->_:=λ{j} e1 e2 e3=>hq p j r hr e3 (by omega);have Kg:(q:Int)∈r.ways.map (gQ rs)->∃q':Nat,((q':Nat):Int)∈r.ways/\cE rs (s,b) q':=λw=>by
   obtain⟨z,hz,ez⟩:=aF.mp w;obtain⟨h1,h2⟩:=Row.ig Kf z hz;obtain⟨q',rfl⟩:∃q':Nat,z=(q':Int):=⟨z.toNat,by omega⟩;rw[nC] at ez;have hq':q'<rs.length:=by omega
   exact⟨q',hz,(hq q' 0 rs[q'] (fN hq') (by have:=(o9 hq').2;omega) (by omega)).1 (.inl (aH _))⟩
  have onp:r.gv s≠b->(∃q':Nat,((q':Nat):Int)∈r.ways/\cE rs (s,b) q')->cE rs (s,b) p:=λh ⟨q',h1,h2⟩=>.on hr (λz=>h ((fQ Kf hs hb.1).mp z)) h1 h2;cases hw with
  | look hm' hb' =>
   have ya:=(fq hb').1;sleep 46;sleep 136
  | mark hm' e =>
   sleep 46;sleep 136
  | own hd e =>
   rw[(jB (gQ rs) r).2.2.2] at w;rw[(Af _ r s).1] at hm;exact⟨λ_=>onp hm (Kg w),λh=>by omega⟩
  | one hd e h1 h2 h3 h4 _ =>
   rw[h4] at w;have w:(q:Int)=(y:Int)+1:=aA.mp w;have ho:r.own=2:=by unfold Row.own;rw[if_pos hd]
   have hn:=next (j:=k+1) w rfl (by omega);refine⟨λ_=>?_,λh=>by omega⟩;by_cases e0:s=1
   .exact hn.1 (.inr e0)
   .have e1:s=0:=hs.resolve_right e0;have hg:=(rf (hpl r hmem) hd h1 h2 h3 (.inl rfl) s).1 e1;rw[hg.1] at hm;exact onp hm (hn.2 (by omega) e1)
  | two hd e h1 h2 h3 h4 _ =>
   rw[h4] at w;refine⟨λh=>?_,λ_ _=>Kg w⟩;have e1:s=1:=h.resolve_left (by omega);have hg:=(rf (hpl r hmem) hd h1 h2 h3 (.inr rfl) s).1 e1;rw[hg.1] at hm;exact onp hm (Kg w)
def pq{n':Int}{f:Int->Int}(h:r.ok n)(hf:∀q,jQ n q->jQ n' (f q)):(r.cU f).ok n':=by
 cases r with
 | num d k v q=>exact⟨h.1,h.2.1,h.2.2.1,hf _ h.2.2.2⟩
 | copy d k i q=>exact⟨h.1,h.2.1,h.2.2.1,hf _ h.2.2.2⟩
 | op d s k i j q=>exact⟨h.1,h.2.1,h.2.2.1,h.2.2.2.1,h.2.2.2.2.1,hf _ h.2.2.2.2.2⟩
 | out i q=>exact⟨h.1,hf _ h.2⟩
 | fork i q p=>exact⟨h.1,hf _ h.2.1,hf _ h.2.2⟩
 | look i q=>exact⟨h.1,hf _ h.2⟩
 | mark q=>exact hf _ h
 | back i=>exact h
def Eh(hok:∀r∈rs,r.ok rs.length):∀R∈bX rs rs.length,R.ok (bX rs rs.length).length:=λR hR=>by
 obtain⟨x,hx⟩:=fV.mp hR;obtain⟨p,k,r,hr,hk,ex,hw⟩:=qZ hx;have hp:=(fq hr).1;have Kf:=hok r (fz hr);have hso:=lR hr;have hop:=qY r;rw[d8 (az _)];have hm:=iB (rs:=rs) (p:=p+1) (q:=rs.length) hp;have hm:firstM rs p+f9 rs p<=_:=hm;have hf:∀q,jQ rs.length q->jQ (firstM rs rs.length) (gQ rs q):=λq hq=>by obtain⟨q',rfl⟩:∃q':Nat,q=(q':Int):=⟨q.toNat,by have:=hq.1;omega⟩;rw[nC];have h1:=hq.2;have:=(o9 (rs:=rs) (p:=q') (by omega)).1;exact⟨by omega,by omega⟩
 have nx:k+1<f9 rs p->jQ (firstM rs rs.length) ((x:Int)+1):=λh=>⟨by omega,by omega⟩;cases hw with
 | look hm' hb' =>
  have ya:=(fq hb').1;sleep 46;exact⟨F3 rs p _ (fz hb'),nx (by omega)⟩
 | mark hm' e =>
  sleep 46;exact nx (by omega)
 | own hd e=>exact pq Kf hf
 | one hd e _ _ _ _ h5 =>
  have ho:r.own=2:=by unfold Row.own;rw[if_pos hd]
  exact h5 _ _ Kf (nx (by omega))
 | two hd e _ _ _ _ h5=>exact h5 _ _ Kf hf
def kN(rs:List Row)(p k:Nat)(t:HM.fu):Prop:=k<c7 rs p/\(t=none\/∃s b i,t=some (s,b)/\k<=i/\(cL rs p)[i]?=some b)
open Classical in
def Ag(rs:List Row)(p k:Nat)(t:HM.fu):Nat:=if kN rs p k t then c7 rs p-k else 12*(rs.length+1-Ng rs p)+(f9 rs p-k)
def xM(h:kN rs p k t):Ag rs p k t=c7 rs p-k:=by unfold Ag;rw[if_pos h]
def lS(h:¬kN rs p k t):Ag rs p k t=12*(rs.length+1-Ng rs p)+(f9 rs p-k):=by unfold Ag;rw[if_neg h]
open Classical in
def Xb(rs:List Row)(z:HM.bP):Nat:=if e:∃a:Nat×Nat,a.2<f9 rs a.1/\z.1=((firstM rs a.1+a.2:Nat):Int) then Ag rs e.choose.1 e.choose.2 z.2 else 0
def Co{z:Int}(hk:k<f9 rs p)(hz:z=((firstM rs p+k:Nat):Int)):Xb rs (z,t)=Ag rs p k t:=by have e:∃a:Nat×Nat,a.2<f9 rs a.1/\(z,t).1=((firstM rs a.1+a.2:Nat):Int):=⟨(p,k),hk,hz⟩;unfold Xb;rw[dif_pos e];have h:=e.choose_spec;have h2:z=((firstM rs e.choose.1+e.choose.2:Nat):Int):=h.2;obtain⟨h1,h3⟩:=qe h.1 hk (by omega);rw[h1,h3]
def Kh(hok:∀r∈rs,r.ok rs.length)(hpl:∀r∈rs,r.pl)(Tr:∀p,p<rs.length->La rs p)(AZ:iV (bS (bX rs rs.length) (bX rs rs.length).length) (dH (bX rs rs.length)))
  (o7:∀k r t,(bX rs rs.length)[k]?=some r->t∈cz (bX rs rs.length) k->iL (bX rs rs.length) r t (dH (bX rs rs.length) ((k:Int),t))):∃F,gP (bS (bX rs rs.length) (bX rs rs.length).length) (dH (bX rs rs.length)) F:=by
 have Nh:=Eh hok;refine Ka (rk:=Xb rs) AZ.1 (λk hk o ho=>(AZ.2.2 k hk).2 o ho) λz hz o ho=>?_;obtain⟨x,R,ez,hx,hR,Gy,hl⟩:=Ea o7 hz ho;obtain⟨p,k,r,hr,hk,ex,hw⟩:=qZ hR;have hp:=(fq hr).1;obtain⟨zp,t⟩:=z;obtain⟨op,u⟩:=o;dsimp only at ez hl Gy;rw[Co (z:=zp) (t:=t) hk (by rw[ez,ex])];have hso:=lR hr;have hop:=qY r;have xX:=qc r;obtain⟨d,hd⟩:=Sx (Tr p hp);have hdl:=Kd hd hp;have hdm:=Eg hd;obtain⟨w,lf,lv⟩:=hl;dsimp only at w lf lv;have next:k+1<f9 rs p->op=(x:Int)+1->Xb rs (op,u)=Ag rs p (k+1) u:=λh e=>Co h (by rw[e,ex];omega);have Kg:¬kN rs p k t->op∈r.ways.map (gQ rs)->Xb rs (op,u)<Ag rs p k t:=λhne w=>by
  rw[lS hne,hdm];obtain⟨q,hq,eq⟩:=aF.mp w;obtain⟨g1,g2⟩:=Row.ig (hok r (fz hr)) q hq;obtain⟨q',rfl⟩:∃q':Nat,q=(q':Int):=⟨q.toNat,by omega⟩;rw[nC] at eq;have hq':q'<rs.length:=by omega
  have hfl:=o9 hq';rw[Co (p:=q') (k:=0) (by omega) (by rw[<- eq];simp)];by_cases hm:dP rs q'=true
  .have em:c7 rs q'=(cL rs q').length+1:=by unfold c7;rw[if_pos hm]
   have hen:kN rs q' 0 u:=by
    refine⟨by omega,?_⟩;cases u with
    | none=>exact .inl rfl
    | some y =>
     right;obtain⟨s,b⟩:=y;have lv:(s,b)∈jA (bX rs rs.length) op.toNat:=lv;obtain⟨l1,l2⟩:=dJ.mp lv;sleep 246;have KZ:=all _ l1;have za:=(F4 hok hpl Nh KZ.1 KZ.2 (g6.mp l2) q' 0 rs[q'] (fN hq') (by omega) (by rw[<- eq];simp)).1 (.inl (aH _));have hin:b∈cL rs q':=by
      unfold cL;rw[SN.iX λn hn=>?_]
      .exact aF.mpr ⟨(s,b),dJ.mpr ⟨l1,g6.mpr za⟩,rfl⟩
      .obtain⟨z,hz,rfl⟩:=aF.mp hn;exact(all z (dJ.mp hz).1).2
     obtain⟨i,hi,e⟩:=pH.mp hin;exact⟨s,b,i,rfl,aH _,by rw[fN hi,e]⟩
   rw[xM hen];have:=xH rs q';omega
  .have e0:c7 rs q'=0:=by unfold c7;rw[if_neg hm]
   have hd':=Ed.on hr hq hm hd;rw[lS (λz=>by have:=z.1;omega),Eg hd'];have:=Kd hd' hq';have h1:=lR (fN hq');have h2:=qc rs[q'];omega
 have stay:∀{R:Row},R.gv=(λ_=>-1)->LeftOf R t u->u=t:=λ{R} hg l=>by
  cases t with
  | none=>exact l.2
  | some y =>
   rcases l.2 with⟨h,_⟩|⟨_,h,_⟩
   .exact h
   .rw[hg] at h;exact absurd (show(0:Int) <= -1 from h) (by decide)
 cases hw with
 | @look bb hm' hb' =>
  have ya:=(fq hb').1;sleep 46;sleep 262;by_cases he:kN rs p k u
  .have he':kN rs p (k+1) u:=by
    refine⟨by omega,he.2.imp_right ?_⟩;rintro⟨s,b',i,rfl,hi,hib⟩;refine⟨s,b',i,rfl,?_,hib⟩;rcases aY k i with h|h
    .exact h
    .exfalso;obtain rfl:i=k:=by omega
     rw[hb'] at hib;cases hib;have h1:=lf.1;unfold Row.ends at h1;dsimp only at h1;rw[show uz (.str (Row.look bb ((x:Int)+1)).key) [.str "look", .str "out", .str "back"]=true from by show uz (.str "look") _=true;decide,show(Row.look bb ((x:Int)+1)).mQ.headD 0=bb from rfl,decide_eq_true rfl] at h1;cases h1
   rw[xM he,xM he'];omega
  .have he':¬kN rs p (k+1) u:=λz=>he ⟨by omega,z.2.imp_right λ⟨s,b',i,h1,h2,h3⟩=>⟨s,b',i,h1,by omega,h3⟩⟩;rw[lS he,lS he'];omega
 | mark hm' e =>
  sleep 46;sleep 262;have hne:¬kN rs p k u:=by
   rintro⟨_,h⟩;rcases h with rfl|⟨s,b',i,rfl,hi,hib⟩
   .have h1:=lf.1;rw[show(Row.mark ((x:Int)+1)).ends none=true from by show uz (.str "mark") _=true;decide] at h1;cases h1
   .have:=(fq hib).1;omega
  rw[lS hne,lS (λz=>by have:=z.1;omega)];omega
 | own hd' e =>
  rw[(jB (gQ rs) r).2.2.2] at w;exact Kg (λz=>by have:=z.1;omega) w
 | one hd' e h1 h2 h3 h4 _ =>
  have ho:r.own=2:=by unfold Row.own;rw[if_pos hd']
  rw[h4] at w;rw[next (by omega) (aA.mp w),lS (λz=>by have:=z.1;omega),lS (λz=>by have:=z.1;omega)];omega
 | two hd' e h1 h2 h3 h4 _ =>
  rw[h4] at w;exact Kg (λz=>by have:=z.1;omega) w
end
section
variable {P:Program}{w:World}{K:aD}{mg:Str->Option Value}{base:Heap}
def Row.iM(p:Int):Row->Bool
 | .look _ q=>decide (q=p+1)|.mark q=>decide (q=p+1)|_=>false
def Ei(K:aD):Sp:=λvs H Q _=>∃(c:Addr)(p:Nat)(us:List V)(rs:List Row)(r:Row),vs=[.ref c,.int p]/\H c=some (.lst us)/\Rows H us rs/\rs[p]?=some r/\∀H',aB H H'->Q (.bl (r.iM p)) H'
def F5(T:Txt w K mg):b8 P w K mg base gS 1 T.xh.f T.xh.d ["code", "place"] (Ei K):=by
 refine T.xh.F.ok vJ (λvs H Q E h=>?_) (λcdv A outer s H vs Q E hr h=>?_)
 .obtain⟨c,p,us,rs,r,rfl,_⟩:=h;rfl
 obtain⟨c,p,us,rs,r,rfl,hc,hrs,hr',q⟩:=h;refine⟨_,(nO (cN (wz (GQ CF iy af (pv 1) (aT bI rfl T.eS BT.eO (aa (pv 0) ai))))
 (au (aJ yf))
 bw)
 (ak (aE (i:=2) vJ.nd rfl (ao rfl) (aS bL (pv 0) (pv 1) (λ_ _=>rfl)))
 (au (aJ (A2 (gG gU (aS cO (pv 2) af (λ_ _=>rfl)) (bB (aa bA (aa bA ai))) (by with_unfolding_all rfl)) (rZ (gG dU (aS cO (pv 2) (lB jb af) (λ_ _=>rfl)) (ay aZ (pv 1) af) (aM _)))))))),?_⟩
 sleep 53;sleep 195;sleep 6;sleep 115
 all_goals exact q _ (by walk_at "same")
def xN(p x:Int):Int:=if p<x then x-1 else x
def qE(rs:List Row)(n:Nat)(lo hi:Option Int):List Row:=(rs.drop (HT.dz n 0 lo)).take (HT.dz n n hi-HT.dz n 0 lo)
theorem Paired.take'{F:α->β->Prop}:∀{xs:List α}{ys:List β}(n:Nat),Paired F xs ys->Paired F (xs.take n) (ys.take n)
 | _,_,0,_=>.nil
 | _,_,_+1,.nil=>.nil
 | _,_,n+1,.cons h t=>.cons h (Paired.take' n t)
theorem Paired.drop'{F:α->β->Prop}:∀{xs:List α}{ys:List β}(n:Nat),Paired F xs ys->Paired F (xs.drop n) (ys.drop n)
 | _,_,0,h=>h
 | _,_,_+1,.nil=>.nil
 | _,_,n+1,.cons _ t=>Paired.drop' n t
theorem Paired.app'{F:α->β->Prop}:∀{xs xs':List α}{ys ys':List β},Paired F xs ys->Paired F xs' ys'->Paired F (xs++xs') (ys++ys')
 | _,_,_,_,.nil,h=>h
 | _,_,_,_,.cons a t,h=>.cons a (Paired.app' t h)
def pA(h:Rows H us rs)(lo hi:Option Int):Rows H (iO us lo hi) (qE rs us.length lo hi):=Paired.take' _ (Paired.drop' _ h)
def Kl{n:Nat}{lo hi:Option Int}(h:r∈qE rs n lo hi):r∈rs:=List.mem_of_mem_drop (List.mem_of_mem_take h)
def iH(rs:List Row)(p:Int):List Row:=(qE rs rs.length none (some p)++qE rs rs.length (some (p+1)) none).map (Row.cU (xN p))
def vY(K:aD):Sp:=λvs H Q _=>∃(c:Addr)(p:Nat)(us:List V)(rs:List Row),vs=[.ref c,.int p]/\H c=some (.lst us)/\Rows H us rs/\rs.length<=1000/\(∀r∈rs,r.ok rs.length) /\
 ∀c' us' H1 H',aB H H1->eU H1 c' (.lst us') H'->Rows H' us' (iH rs p)->Q (.ref c') H'
def uc(T:Txt w K mg):b8 P w K mg base gS 2 T.without.f T.without.d ["code", "place"] (vY K):=by
 refine T.without.F.ok sY (λvs H Q E h=>?_) (λcdv A outer s H vs Q E hr h=>?_)
 .obtain⟨c,p,us,rs,rfl,_⟩:=h;rfl
 obtain⟨c,p,us,rs,rfl,hc,hrs,hl,hok,q⟩:=h;refine⟨_,(ak (aE (i:=2) sY.nd rfl (bQ rfl) (cP (bD.caps (x := "other") (fr:=["place"]) (ix:=[1]) (nm:=["place"]) rfl rfl (by decide +kernel) rfl (by decide +kernel) rfl (by decide +kernel) ⟨rfl,trivial⟩ rfl (by decide +kernel) rfl ⟨⟨rfl,rfl,rfl⟩,trivial⟩) (dj rfl T.eW (aa (aT bI rfl T.eS BT.eO (aa (pv 0) ai)) ai)) (λ_ _ _ _=>cQ) (λ_ _ _ _=>(f6 (aG yh (pv 0) (pv 1) (aM _)) (ay iG (pv 0) af) (pv 0)))))
 (au (aJ (cP (bD.caps (x := "row") (fr:=["moved"]) (ix:=[2]) (nm:=["moved"]) rfl rfl (by decide +kernel) rfl (by decide +kernel) rfl (by decide +kernel) ⟨rfl,trivial⟩ rfl (by decide +kernel) rfl ⟨⟨rfl,rfl,rfl⟩,trivial⟩) (cJ (ay sj (c6 kr (pv 0) eV (dW (pv 1))) (c6 kr (pv 0) (dW (ay aZ (pv 1) af)) eV))) (λ_ _ _ _=>cQ) (λ_ _ _ _=>(aP T.j3 (oW T) hr (aa (pv 0) (aa (pv 1) ai)))))))),?_⟩
 sleep 53;sleep 212;sleep 6;refine ia (λi ys H'=>H'=H/\ys=((List.range i).map λj:Nat=>V.int (xN p j))) ⟨rfl,rfl⟩ ?_ ?_
 .sleep 222;have e:∀z:Int,z=xN p i->(List.range i).map (λj:Nat=>V.int (xN p j))++[.int z]=(List.range (i+1)).map (λj:Nat=>V.int (xN p j)):=λz e=>by rw[mZ,bF,e];rfl
  walk_at "go"
  .rename_i h;exact⟨rfl,e _ (by rw[xN,if_pos (by omega)];omega)⟩
  .rename_i h;exact⟨rfl,e _ (by rw[xN,if_neg (by omega)];omega)⟩
 rintro ys H' ⟨rfl,rfl⟩ m H2 n2;have hc2:=n2.keep hc;sleep 223;walk_at "go";rename_i l3 H3 n3 l4 H4 n4 l5 H5 n5;have Xc:aB H' H5:=by walk_at "same"
 have gA:=hrs.same Xc;refine DN (rs:=qE rs rs.length none (some p)++qE rs rs.length (some (p+1)) none) (Row.cU (xN p)) (bE.of n5.self) ?_ (by rw[aR];omega) ?_ ?_
 .sleep 140
 .intro r hr' ra H6 s6 tG Q h;have hr':r∈rs:=by rcases aO.mp hr' with h|h<;>exact Kl h
  have hm:H6 m=some (.lst ((List.range (us.length:Int).toNat).map λj:Nat=>V.int (xN p j))):=s6 _ _ (by walk_at "look");walk_at "go";refine⟨ra,m,r,_,xN p,rfl,tG,hm,λz hz=>?_,λt H7 s7 ht=>h t H7 s7 ht⟩;have hz:=Row.ig (hok r hr') z hz;have e:z=((z.toNat:Nat):Int):=by omega
  rw[e];refine fO ?_;rw[bz,pC (by omega)];rfl
 .sleep 243
end
def Km(hp:p<rs.length):iH rs (p:Int)=(rs.take p++rs.drop (p+1)).map (Row.cU (xN p)):=by
 have e1:qE rs rs.length none (some (p:Int))=rs.take p:=by unfold qE;rw[show HT.dz rs.length 0 none=0 from rfl,show HT.dz rs.length rs.length (some (p:Int))=p by rw[HT.qG];omega];rfl
 have e2:qE rs rs.length (some ((p:Int)+1)) none=rs.drop (p+1):=by unfold qE;rw[show HT.dz rs.length rs.length none=rs.length from rfl,show HT.dz rs.length 0 (some ((p:Int)+1))=p+1 by rw[show(p:Int)+1=((p+1:Nat):Int) by omega,HT.qG];omega];rw[List.take_of_length_le (by rw[rR];exact az _)]
 unfold iH;rw[e1,e2]
def rg(hp:p<rs.length):(iH rs (p:Int)).length=rs.length-1:=by rw[Km hp,av,aR,cG,rR];omega
structure xO (rs:List Row) (n:Nat):Prop where
 ok:∀r∈rs,r.ok rs.length
 ne:rs≠[]
 len:rs.length<=n
def Sy(hok:∀r∈rs,r.ok rs.length)(hr:rs[p]?=some r)(hc:r.iM p=true):p+1<rs.length:=by
 have Kf:=hok r (fz hr);cases r with
 | look i q =>
  have e:q=(p:Int)+1:=of_decide_eq_true hc;have:=Kf.2.2;omega
 | mark q =>
  have e:q=(p:Int)+1:=of_decide_eq_true hc;have:=Kf.2;omega
 | _=>cases hc
def xO.out{n:Nat}{r:Row}(h:xO rs n)(hr:rs[p]?=some r)(hc:r.iM p=true):xO (iH rs (p:Int)) n:=by
 have hp:=Sy h.ok hr hc;have hl:=rg (rs:=rs) (p:=p) (by omega);refine⟨λR hR=>?_,λz=>by rw[z] at hl;have:0=rs.length-1:=hl;omega,by have:=h.len;omega⟩;rw[hl];rw[Km (by omega)] at hR;obtain⟨r',hr',rfl⟩:=aF.mp hR;have hm:r'∈rs:=by
  rcases aO.mp hr' with h|h
  .exact rV _ _ h
  .exact List.drop_subset _ _ h
 refine pq (h.ok r' hm) λq hq=>?_;have h1:=hq.1;have h2:=hq.2;unfold xN;split<;>exact⟨by omega,by omega⟩
def gR(m:Option Int)(n:Int):Bool:=match m with
 | none=>false
 | some d=>decide (d<=n)
def Ah(n:Int):Nat->List Row->Nat->List Row
 | 0,rs,_=>rs
 | k+1,rs,p=>match rs[p]? with
  | none=>rs
  | some r=>if r.iM p&&gR (dD (iH rs (p:Int))) n then Ah n k (iH rs (p:Int)) p else Ah n k rs (p+1)
def xP(hr:rs[p]?=some r):Ah n (k+1) rs p=if r.iM p&&gR (dD (iH rs (p:Int))) n then Ah n k (iH rs (p:Int)) p else Ah n k rs (p+1):=by sleep 122;rw[hr]
def Cp(hp:rs.length<=p):Ah n k rs p=rs:=by
 cases k with
 | zero=>rfl
 | succ k =>
  sleep 122;rw[jG hp]
def dI(n:Int)(rs:List Row):List Row:=Ah n rs.length rs 0
def qf(n:Int)(rs:List Row):Prop:=gR (dD rs) n=true
def Ai:∀(k:Nat)(rs:List Row)(p:Nat),xO rs m->qf n rs->xO (Ah n k rs p) m/\qf n (Ah n k rs p)/\(Ah n k rs p).length<=rs.length:=by
 intro k;induction k with
 | zero=>intro rs p h hs;exact⟨h,hs,az _⟩
 | succ k ih =>
  intro rs p h hs;rcases aY p rs.length with hp|hp
  .have hr:rs[p]?=some rs[p]:=fN hp;rw[xP hr];by_cases hc:(rs[p].iM p&&gR (dD (iH rs (p:Int))) n)=true
   .rw[if_pos hc];have hc2:=Bool.and_eq_true_iff.mp hc;have hl:=rg (rs:=rs) (p:=p) hp;obtain⟨a,b,c⟩:=ih (iH rs (p:Int)) p (h.out hr hc2.1) hc2.2;exact⟨a,b,by omega⟩
   .rw[if_neg hc];exact ih rs (p+1) h hs
  .rw[Cp hp];exact⟨h,hs,az _⟩
def e8(n:Int):Nat->List Row->List Row
 | 0,rs=>dI n rs
 | k+1,rs=>if(dI n rs).length<rs.length then e8 n k (dI n rs) else dI n rs
def Ni:∀(k:Nat)(rs:List Row),xO rs m->qf n rs->xO (e8 n k rs) m/\qf n (e8 n k rs)/\(e8 n k rs).length<=rs.length:=by
 intro k;induction k with
 | zero=>intro rs h hs;exact Ai _ rs 0 h hs
 | succ k ih =>
  intro rs h hs;obtain⟨a,b,c⟩:=Ai (n:=n) rs.length rs 0 h hs;have e:e8 n (k+1) rs=if(dI n rs).length<rs.length then e8 n k (dI n rs) else dI n rs:=rfl
  rw[e];by_cases hl:(dI n rs).length<rs.length
  .rw[if_pos hl];obtain⟨a',b',c'⟩:=ih (dI n rs) a b;exact⟨a',b',by omega⟩
  .rw[if_neg hl];exact⟨a,b,c⟩
def oV:Option Int->V
 | none=>.cX
 | some m=>.int m
section
variable {P:Program}{w:World}{K:aD}{mg:Str->Option Value}{base:Heap}
def Kn:Sp:=λvs H Q _=>∃(c:Addr)(us:List V)(rs:List Row),vs=[.ref c]/\H c=some (.lst us)/\Rows H us rs/\(∀r∈rs,r.ok rs.length)/\rs.length<=200/\rs≠[]/\∀H',aB H H'->Q (oV (dD rs)) H'
def qg(T:Txt w K mg):b8 P w K mg base gS 7 T.delay.f T.delay.d ["code"] Kn :=
 (Ab (P:=P) (w:=w) (base:=base) T).imp λvs H Q E ⟨c,us,rs,h1,h2,h3,h4,h5,h6,q⟩=>⟨c,us,rs,h1,h2,h3,h4,h5,h6,λ_ _=>⟨λH' s no=>by have:=q H' s;rw[vX no] at this;exact this,λm H' s d=>by have:=q H' s;rw[qb d] at this;exact this⟩⟩
def Sz:Sp:=λvs H Q _=>∃(m:Option Int)(n:Int),vs=[oV m,.int n]/\Q (.bl (gR m n)) H
def ue(T:Txt w K mg):b8 P w K mg base gS 1 T.oQ.f T.oQ.d ["found", "number"] Sz:=by
 refine T.oQ.F.ok BZ (λvs H Q E h=>?_) (λcdv A outer s H vs Q E hr h=>?_)
 .obtain⟨m,n,rfl,_⟩:=h;rfl
 obtain⟨m,n,rfl,q⟩:=h;refine⟨_,(au (aJ (A2 (gG yy (pv 0) nc (aM _)) (rZ (gG CF (pv 0) (pv 1) (aM _)))))),?_⟩;cases m with
 | none =>
  show(_:TS) (Ends.mk _ _ _ _) [some V.cX,some (V.int n)] H;sleep 6;exact q
 | some d =>
  show(_:TS) (Ends.mk _ _ _ _) [some (V.int d),some (V.int n)] H;sleep 6;exact q
def SA:Sp:=λvs H Q _=>∃(c:Addr)(us:List V)(rs:List Row)(n:Int),vs=[.ref c,.int n]/\H c=some (.lst us)/\Rows H us rs/\xO rs 200 /\
 ∀(g:Addr)(vs:List V)(H':Hp),aB H H'->H g=none->H' g=some (.lst vs)->Rows H' vs (dI n rs)->Q (.ref g) H'
def kT(T:Txt w K mg):b8 P w K mg base gS 9 T.gJ.f T.gJ.d ["code", "number"] SA:=by
 refine T.gJ.F.ok eZ (λvs H Q E h=>?_) (λcdv A outer s H vs Q E hr h=>?_)
 .sleep 263
 obtain⟨c,us,rs,n,rfl,hc,rows,ht,q⟩:=h;refine⟨_,(ak (aE (i:=2) eZ.nd rfl (ao rfl) (dw nq rfl T.tw BT.sA (aa (pv 0) ai)))
 (ak (aE (i:=3) eZ.nd rfl (ao rfl) af)
 (ak (jV bY (aG iy (pv 3) (aT bI rfl T.eS BT.eO (aa (pv 2) ai)) (aM _))
 (au (Hr (PW.pt (kj (rX (aP T.xh (F5 T) hr (aa (pv 2) (aa (pv 3) ai)))) (ju (rX (aP T.oQ (ue T) hr (aa (aP T.delay (qg T) hr (aa (aP T.without (uc T) hr (aa (pv 2) (aa (pv 3) ai))) ai)) (aa (pv 1) ai)))))))
 (au (aE (i:=2) eZ.nd rfl (ao rfl) (aP T.without (uc T) hr (aa (pv 2) (aa (pv 3) ai)))))
 (au (A3 (i:=3) eZ.nd rfl (ao rfl) af A4)))))
 (au (aJ (pv 2)))))),?_⟩
 sleep 125;sleep 6;rename_i l H1 n1;refine lZ (λk σ' H'=>∃l vs rs' p,σ'=[some (.ref c),some (.int n),some (.ref l),some (.int ((p:Nat):Int))]/\aB H H'/\H l=none/\H' l=some (.lst vs)/\Rows H' vs rs'/\xO rs' 200/\p<=rs'.length/\Ah n (rs'.length-p) rs' p=dI n rs/\k=rs'.length-p) ?_ ?_
 .exact⟨_,l,us,rs,0,rfl,n1.same,n1.1,n1.self,rows.same n1.same,ht,aH _,rfl,rfl⟩
 clear n1;rintro k σ' H2 ⟨l,vs,rs',p,rfl,s2,fl,hl2,gB,K5,hp2,hg,rfl⟩;have hvl:=gB.length;have hln:=K5.len;walk_at "go"
 .sleep 162;obtain⟨k,ek⟩:∃k,rs'.length-p=k+1:=⟨rs'.length-p-1,by omega⟩;rw[ek,xP hr'] at hg;refine N9 (λH'=>aB H2 H'/\(r.iM p&&gR (dD (iH rs' (p:Int))) n)=true) (λH'=>aB H2 H'/\¬(r.iM p&&gR (dD (iH rs' (p:Int))) n)=true) ?_ ?_ ?_
  .sleep 141;cases hcg:r.iM p with
   | false =>
    walk_at "go";exact⟨s3,by simp⟩
   | true =>
    have ho:=K5.out hr' hcg;have xX:=ho.len;sleep 182;sleep 77;refine⟨_,n,rfl,?_⟩;have s26:=(s3.trans K7).trans s6;cases Xd:gR (dD (iH rs' (p:Int))) n with
    | false =>
     show wL _ (.bl false) H6;walk_at "go";exact⟨s26,by simp⟩
    | true =>
     show wL _ (.bl true) H6;walk_at "go";exact⟨s26,by simp⟩
  .rintro H3 ⟨s3,hc⟩;rw[if_pos hc] at hg;have hcg:=(Bool.and_eq_true_iff.mp hc).1;have ho:=K5.out hr' hcg;have xX:=rg (rs:=rs') (p:=p) hp;have hl3:=s3 _ _ hl2;have fM:=gB.same s3;sleep 182;have MM:=(s2.trans s3).trans s4;refine⟨_,?_,c',us',iH rs' (p:Int),p,rfl,MM.trans n5.same,MM.free n5.1,n5.self,gA,ho,by omega,?_,rfl⟩
   .omega
   .rw[<- hg,show(iH rs' (p:Int)).length-p=k by omega]
  .rintro H3 ⟨s3,hc⟩;rw[if_neg hc] at hg;walk_at "go";refine⟨_,?_,l,vs,rs',p+1,by simp,s2.trans s3,fl,s3 _ _ hl2,gB.same s3,K5,hp,?_,rfl⟩
   .omega
   .rw[<- hg,show rs'.length-(p+1)=k by omega]
 .rename_i hge;rw[Cp (by omega)] at hg;exact q l vs H2 s2 fl hl2 (by rw[<- hg];exact gB)
def SD:Sp:=λvs H Q _=>∃(c:Addr)(us:List V)(rs:List Row)(n:Int),vs=[.ref c,.int n]/\H c=some (.lst us)/\Rows H us rs/\xO rs 200/\qf n rs /\
 ∀(g:Addr)(vs:List V)(H':Hp),aB H H'->H g=none->H' g=some (.lst vs)->Rows H' vs (e8 n rs.length rs)->Q (.ref g) H'
def Ej(T:Txt w K mg):b8 P w K mg base gS 10 T.Jp.f T.Jp.d ["code", "number"] SD:=by
 refine T.Jp.F.ok l9 (λvs H Q E h=>?_) (λcdv A outer s H vs Q E hr h=>?_)
 .sleep 263
 obtain⟨c,us,rs,n,rfl,hc,rows,ht,Xd,q⟩:=h;refine⟨_,(ak (aE (i:=2) l9.nd rfl (ao rfl) (aP T.delay (qg T) hr (aa (pv 0) ai)))
 (ak (cN (wz (rX (aP T.oQ (ue T) hr (aa (pv 2) (aa (pv 1) ai)))))
 (au GG)
 bw)
 (ak (aE (i:=3) l9.nd rfl (ao rfl) (pv 0))
 (ak (aE (i:=4) l9.nd rfl (ao rfl) (aP T.gJ (kT T) hr (aa (pv 3) (aa (pv 1) ai))))
 (ak (jV bY (aG iy (aT bI rfl T.eS BT.eO (aa (pv 4) ai)) (aT bI rfl T.eS BT.eO (aa (pv 3) ai)) (aM _))
 (ak (aE (i:=3) l9.nd rfl (ao rfl) (pv 4))
 (au (aE (i:=4) l9.nd rfl (ao rfl) (aP T.gJ (kT T) hr (aa (pv 3) (aa (pv 1) ai)))))))
 (au (aJ (pv 4)))))))),?_⟩
 sleep 88;sleep 6;refine⟨c,us,rs,rfl,hc,rows,ht.ok,ht.len,ht.ne,λH1 s1=>?_⟩;have hc1:=s1 _ _ hc;have gC:=rows.same s1;walk_at "go";refine⟨_,n,rfl,?_⟩;rw[show gR (dD rs) n=true from Xd];show wL _ (.bl true) H1;walk_at "go";refine⟨c,us,rs,n,rfl,hc1,gC,ht,λg vs H2 s2 fg hg gB=>?_⟩;have hc2:=s2 _ _ hc1;have SE:=s1.trans s2;have fg0:=s1.free fg;obtain⟨t2,sn2,l2⟩:=Ai (n:=n) rs.length rs 0 ht Xd;walk_at "go";refine lZ (λk σ' H'=>∃y l vs gl ws ls fs,σ'=[some (.ref c),some (.int n),y,some (.ref l),some (.ref gl)]/\aB H H'/\H' l=some (.lst vs)/\vs.length=ls.length/\H gl=none/\H' gl=some (.lst ws)/\Rows H' ws fs/\fs=dI n ls/\xO fs 200/\qf n fs/\fs.length<=ls.length/\ls.length<=200/\e8 n k ls=e8 n rs.length rs/\ls.length<=k/\ls≠[]) ?_ ?_
 .exact⟨rs.length,_,c,us,g,vs,rs,dI n rs,rfl,SE,hc2,rows.length,fg0,hg,gB,rfl,t2,sn2,l2,ht.len,rfl,az _,ht.ne⟩
 clear SE hc2 fg0 t2 sn2 l2 hg gB s2 hc1 gC s1;rintro k σ' H3 ⟨y,l,vs,gl,ws,ls,fs,rfl,s3,hl3,hvl,fgl,SH,fM,Y0,t3,sn3,hle,ac9,Gy,ya,abB⟩;have hwl:=fM.length;walk_at "go"
 .rename_i hlt;refine⟨gl,ws,fs,n,rfl,SH,fM,t3,λg2 SI H4 s4 O5 Te j7=>?_⟩;obtain⟨t4,O6,l4⟩:=Ai (n:=n) fs.length fs 0 t3 sn3;have hlp:=List.length_pos_iff.mpr abB;obtain⟨k',rfl⟩:∃i,k=i+1:=⟨k-1,by omega⟩;have hlt':(dI n ls).length<ls.length:=by rw[<- Y0];omega
  have e1:e8 n (k'+1) ls=e8 n k' fs:=by show(if(dI n ls).length<ls.length then e8 n k' (dI n ls) else dI n ls)=_;rw[if_pos hlt',Y0]
  walk_at "go";exact⟨k',by omega,_,gl,ws,g2,SI,fs,dI n fs,rfl,s3.trans s4,s4 _ _ SH,hwl,s3.free O5,Te,j7,rfl,t4,O6,l4,t3.len,by rw[<- e1];exact Gy,by omega,t3.ne⟩
 .rename_i hge;refine q gl ws H3 s3 fgl SH ?_;rw[<- Gy];have hnl:¬(dI n ls).length<ls.length:=by rw[<- Y0];omega
  have e1:e8 n k ls=dI n ls:=by
   cases k with
   | zero=>rfl
   | succ k =>
    show(if(dI n ls).length<ls.length then e8 n k (dI n ls) else dI n ls)=_;rw[if_neg hnl]
  rw[e1,<- Y0];exact fM
def Nj:Sp:=λvs H Q _=>∃(p:Addr)(us:List V)(rs:List Row),vs=[.ref p]/\H p=some (.lst us)/\Rows H us rs/\(∀r∈rs,r.ok rs.length)/\rs.length<=200 /\
 ∀(d:Addr)(kvs:List (Key×V))(H':Hp),aB H H'->H d=none->H' d=some (.dK kvs)->o8 H' rs kvs->Q (.ref d) H'
def Ko(T:Txt w K mg):b8 P w K mg base gS 5 T.looks.f T.looks.d ["code"] Nj:=by
 refine T.looks.F.ok zC (λvs H Q E h=>?_) (λcdv A outer s H vs Q E hr h=>?_)
 .sleep 155
 sleep 219;refine⟨_,(ak (aE (i:=1) zC.nd rfl (bQ rfl) (aP T.live (DR T) hr (aa (pv 0) ai)))
 (au (aJ (dw (yI rfl) rfl T.B4 BT.Bg (aa (cP (bD.caps (x := "place") (fr:=["lively"]) (ix:=[1]) (nm:=["lively"]) rfl rfl (by decide +kernel) rfl (by decide +kernel) rfl (by decide +kernel) ⟨rfl,trivial⟩ rfl (by decide +kernel) rfl ⟨⟨rfl,rfl,rfl⟩,trivial⟩) (cJ (aP T.meets (JI T) hr (aa (pv 0) ai))) (λ_ _ _ _=>cQ) (λ_ _ _ _=>(bB (aa (pv 0) (aa (aT (yW (w:=w) rfl rfl) rfl T.oR BT.nU (aa (dw (BJ (K:=K) (w:=w) rfl rfl rfl) rfl T.Jq BT.CS (aa (cP (bD.plain rfl (by decide +kernel) (by decide +kernel) rfl (by decide +kernel) rfl) (HW (K:=K) rfl (aS (gI (K:=K) rfl) (pv 1) (pv 0) (λ_ _=>rfl))) (λ_ _ _ _=>cQ) (λ_ _ _ _=>(aS (nQ (K:=K) rfl) (pv 0) af (λ_ _=>rfl)))) ai)) ai)) ai))))) ai))))),?_⟩
 sleep 63;sleep 6;refine⟨p,us,rs,rfl,hp,hrs,hok,hn,λlv as H1 s1 flv za hal _ _ _ hL=>?_⟩;walk_at "go";refine⟨p,us,rs,rfl,s1 _ _ hp,hrs.same s1,hok,by omega,λmt H2 s2 _ hmt=>?_⟩;have MU:=s2 _ _ za;have N7:vO H2 as rs:=λk a e=>let⟨vs,h1,h2⟩:=hL k a e;⟨vs,s2 _ _ h1,h2.same s2⟩;have s12:=s1.trans s2;clear s1 s2 za hL;have mem:∀x∈fP rs,∃j:Nat,x=(j:Int)/\j<rs.length/\dP rs j=true:=λx hx=>by unfold fP at hx;obtain⟨j,hj,rfl⟩:=aF.mp hx;obtain⟨h1,h2⟩:=dJ.mp hj;exact⟨j,rfl,fW.mp h1,h2⟩
 have ae7:(fP rs).length<=rs.length:=by unfold fP;rw[av];exact bJ (i7 _ _) (by rw[gT];exact az _)
 walk_at "go";refine gH (xs:=(fP rs).map V.int) (λi ys H'=>aB H2 H'/\∃ps:List (Key×V),sH H' ys ps/\ps.length=i/\∀(k:Nat)(x:Int),k<i->(fP rs)[k]?=some x->∃b,ps[k]?=some (.inl x,.ref b)/\H' b=some (.lst ((cL rs x.toNat).map V.int))) ⟨aB.refl _,[],.nil,rfl,λk x h=>absurd h (gF _)⟩ ?_ ?_ ?_
 .sleep 129;exact bE.of (s' _ _ hmt)
 .rintro i x ys H3 hx ⟨s3,ps,hP,hpl,hps⟩;rw[bz] at hx;obtain⟨x,hxi,rfl⟩:=dg.mp hx;obtain⟨j,rfl,hj,hmj⟩:=mem x (fz hxi);have hil:=(fq hxi).1;have hyl:=g9 hP;refine⟨bV (by omega),?_⟩;obtain⟨a,ha⟩:∃a,as[j]?=some a:=⟨_,fN (by omega)⟩;obtain⟨vs,hvs,JO⟩:=N7 j a ha;have abC:=s3 _ _ hvs;have abD:=JO.same s3;have hvl:vs.length<=16:=by rw[JO.length];exact lO ..
  walk_at "go";refine cF (bE.of (s3 _ _ MU)) (v:=.ref a) (fO (by rw[bz,ha];rfl)) ?_;walk_at "go";refine gH (xs:=vs) (λk zs H'=>H'=H3/\zs=(((jA rs j).take k).map (·.2)).map V.int) ⟨rfl,rfl⟩ ?_ ?_ ?_
  .rintro k zs H' _ ⟨rfl,_⟩;exact bE.of abC
  .rintro k y zs H' hy ⟨rfl,rfl⟩;obtain⟨t,htk,b,rfl,hb⟩:=br abD hy;have Th:=lO rs j;refine⟨bV (by simp;omega),?_⟩;sleep 196;rw[cB,htk,bF,bF];rfl
  .rintro zs H' ⟨rfl,rfl⟩ l H4 n4;rw[JO.length,cH] at n4;have K1:∀b∈(jA rs j).map (·.2),0<=b/\b<8:=λb hb=>by
    obtain⟨t,ht,rfl⟩:=aF.mp hb;have all:∀t∈cR,0<=t.2/\t.2<8:=by decide
    exact all t (dJ.mp ht).1
   have hl:=lO rs j;walk_at "go";refine Rp (bE.of n4.self) (by rw[av];omega) ?_;intro st H5 n5;walk_at "go";refine Dc n5.self K1 ?_;intro so H6 n6;have hso:=n6.self;have s36:=(n4.same.trans n5.same).trans n6.same;clear n4 n5 n6;walk_at "go";rename_i tu H7 n7;have RY:=s36.trans n7.same;refine⟨s3.trans RY,ps++[(.inl (j:Int),.ref so)],?_,by simp[hpl],λk y hk hy=>?_⟩
   .refine cI (dG (λ_ _ ⟨t,e1,e2⟩=>⟨t,e1,RY _ _ e2⟩) hP) ⟨tu,rfl,n7.self⟩
   .rcases aY k i with hlt|hge
    .obtain⟨b,h1,h2⟩:=hps k y hlt hy;exact⟨b,by rw[i6 (by omega)];exact h1,RY _ _ h2⟩
    .have ek:k=i:=by omega
     subst ek;rw[hxi] at hy;cases hy;refine⟨so,?_,n7.keep hso⟩;rw[iD (by omega),hpl,Nat.sub_self];rfl
 .rintro ys H3 ⟨s3,ps,hP,hpl,hps⟩ l H4 n4;rw[av] at hpl hps;have hP4:sH H4 ys ps:=dG (λ_ _ ⟨t,e1,e2⟩=>⟨t,e1,n4.keep e2⟩) hP;walk_at "go";refine VG (bE.of n4.self) hP4 ?_;intro d H5 n5;have s25:=(s3.trans n4.same).trans n5.same;walk_at "go";refine q d _ H5 (s12.trans s25) (s12.free ((s3.trans n4.same).free n5.1)) n5.self λj hj=>⟨λhm=>?_,λhm=>?_⟩
  all_goals
   have up:(fP rs).Pairwise (· < ·):=by unfold fP;rw[lg];exact List.Pairwise.imp (λh=>Int.ofNat_lt.mpr h) (List.Pairwise.sublist List.filter_sublist wj)
   have key:∀i,i<ps.length->∃x,(fP rs)[i]?=some x/\(ps.getD i (.inl 0,.cX)).1=(.inl x:Key)/\∃b,(ps.getD i (.inl 0,.cX)).2=.ref b/\H3 b=some (.lst ((cL rs x.toNat).map V.int)):=λi hi=>by obtain⟨x,hx⟩:∃x,(fP rs)[i]?=some x:=⟨_,fN (by omega)⟩;obtain⟨b,h1,h2⟩:=hps i x (by omega) hx;exact⟨x,hx,by rw[getD_at h1],b,by rw[getD_at h1],h2⟩
  .have hin:(j:Int)∈fP rs:=by unfold fP;exact aF.mpr ⟨j,dJ.mpr ⟨fW.mpr hj,hm⟩,rfl⟩
   obtain⟨i,hi⟩:=fV.mp hin;have hil:=(fq hi).1;obtain⟨x,hx,hk,b,hb,hHb⟩:=key i (by omega);rw[hi] at hx;cases hx;rw[gE] at hHb;refine⟨b,?_,((n4.same.trans n5.same) _ _ hHb)⟩;have:=tY (ks:=λi=>(ps.getD i (.inl 0,.cX)).1) (vs:=λi=>(ps.getD i (.inl 0,.cX)).2) (n:=ps.length) (λa c ha hc e=>?_) i (by omega)
   .rw[<- hk,<- hb];exact this
   .obtain⟨x1,h1,k1,_⟩:=key a ha;obtain⟨x2,h2,k2,_⟩:=key c hc;have e':(Sum.inl x1:Key)=Sum.inl x2:=k1.symm.trans (e.trans k2);cases e';exact pY (up.imp λh=>by omega) h1 h2
  .refine kR λi hi e=>hm ?_;obtain⟨x1,h1,k1,_⟩:=key i hi;have e':(Sum.inl x1:Key)=Sum.inl (j:Int):=k1.symm.trans e;cases e';obtain⟨j',e1,_,hm'⟩:=mem _ (fz h1);have:j'=j:=by omega
   rw[<- this];exact hm'
def Nk:Sp:=λvs H Q _=>∃(p d:Addr)(us:List V)(rs:List Row)(kvs:List (Key×V)),vs=[.ref p,.ref d]/\H p=some (.lst us)/\Rows H us rs/\rs.length<=200/\H d=some (.dK kvs)/\o8 H rs kvs /\
 ∀(f:Addr)(H':Hp),aB H H'->H f=none->H' f=some (.lst ((List.range rs.length).map λp=>V.int (firstM rs p)))->Q (.ref f) H'
def qF(T:Txt w K mg):b8 P w K mg base gS 1 T.iU.f T.iU.d ["code", "looked"] Nk:=by
 refine T.iU.F.ok cV (λvs H Q E h=>?_) (λcdv A outer s H vs Q E hr h=>?_)
 .obtain⟨p,d,us,rs,kvs,rfl,_⟩:=h;rfl
 obtain⟨p,d,us,rs,kvs,rfl,hp,hrs,hn,hd,hL,q⟩:=h;have cD:=T.jh.q;have cS:=T.vK.q;refine⟨_,(ak (aE (i:=2) cV.nd rfl (ao rfl) (dM ai))
 (ak (aE (i:=3) cV.nd rfl (ao rfl) af)
 (ak (eK bY rfl (kB rfl T.fL (aa (pv 0) ai)) (ng (n:=2) rfl (bG (aX (i:=4) cV.nd rfl (ao rfl)) (bG (aX (i:=5) cV.nd rfl (ao rfl)) gj)))
 (ak (fj (jw dR jq jr gw (pv 2) (aa (pv 3) ai)))
 (iQ (cN (A1 (G7 (sy hr) (pv 4) (pv 1)))
 (au (A3 (i:=3) cV.nd rfl (ao rfl) (ay aZ (aT bI rfl T.eS BT.eO (aa (Ls (sy hr) (pv 1) (pv 4) (λ_ _=>rfl)) ai)) af) A4))
 bw)
 (au (A3 (i:=3) cV.nd rfl (ao rfl) (f6 (aG gU (aS cO (pv 5) af (λ_ _=>rfl)) (gh (v:=.ref T.jh.a) rfl T.jh.c rfl) (by with_unfolding_all rfl)) (aT bI rfl T.eS BT.eO (aa (gh (v:=.ref T.vK.a) rfl T.vK.c rfl) ai)) af) A4)))))
 (au (aJ (pv 2)))))),?_⟩
 sleep 212;sleep 208;sleep 6;sleep 217;refine sF (xs:=us) (λi σ' H'=>(∃x y,σ'=[some (.ref p),some (.ref d),some (.ref f),some (.int (firstM rs i)),x,y])/\aB H H'/\H' f=some (.lst ((List.range i).map λp=>V.int (firstM rs p)))) ?_ ?_ ?_ ?_
 .exact⟨⟨_,_,rfl⟩,s1,hf1⟩
 .sleep 156;exact bE.of (s' _ _ hp)
 .rintro i x t σ' H2 H3 hx ⟨⟨x0,y0,rfl⟩,s2,hf2⟩ n3;sleep 142;obtain⟨r,hr',ra,rfl,tG⟩:=br hrs hx;have s3:=s2.trans n3.same;have Lb:=n3.keep hf2;have JB:=s3 _ _ hd;have MK:=s3 _ _ tG;have ht3:=n3.self;have hfl:((List.range i).map λp=>V.int (firstM rs p)).length=i:=by simp
  have hdf:d≠f:=aW hd ff;have abE:ra≠f:=aW tG ff;clear n3 s2 hf2;obtain⟨QK,N7⟩:=hL i (by omega);walk_at "go";rename_i H4 p4;have s4:=p4.same s3 ff;have DY:H4 f=some (.lst ((List.range (i+1)).map λp=>V.int (firstM rs p))):=by rw[p4.self,mZ,bF];rfl
  have YO:=p4.keep hdf JB;have afb:=p4.keep abE MK;clear p4 JB MK Lb s3 ht3;refine qj (λσ' H'=>H'=H4/\σ'=[some (.ref p),some (.ref d),some (.ref f),some (.int ((firstM rs i:Int)+c7 rs i)),some (.int (i:Int)),some (.ref ra)]) ?_ ?_
  .walk_at "go";by_cases hm:dP rs i=true
   .obtain⟨a,e1,e2⟩:=QK hm;have Wi:=s4 _ _ e2;rw[e1,if_pos (show(some (V.ref a)).isSome=true from rfl)];walk_at "go";refine Od YO e1 ?_;sleep 196;unfold c7;rw[if_pos hm,av];have:(firstM rs i:Int)+((cL rs i).length+1:Int)=(firstM rs i:Int)+(((cL rs i).length+1:Nat):Int):=by omega
    rw[this]
   .rw[N7 hm,if_neg (by decide)];sleep 196;unfold c7;rw[if_neg hm];simp
  rintro _ _ ⟨rfl,rfl⟩;have hdi:=qV r;have eN:firstM rs (i+1)=firstM rs i+(c7 rs i+r.own):=by rw[firstM];unfold f9;rw[hr'];rfl
  walk_at "go";rw[hdi];cases qo:r.gD with
  | true =>
   rw[if_pos rfl];sleep 210;have:(firstM rs (i+1):Int)=(firstM rs i:Int)+(c7 rs i:Int)+2:=by rw[eN];unfold Row.own;rw[qo,if_pos rfl];omega
   rw[this]
   first|rfl|skip
  | false =>
   sleep 105;sleep 210;have:(firstM rs (i+1):Int)=(firstM rs i:Int)+(c7 rs i:Int)+1:=by rw[eN];unfold Row.own;rw[qo,if_neg (by decide)];omega
   rw[this]
 .rintro σ' H2 ⟨⟨x0,y0,rfl⟩,s2,hf2⟩;walk_at "go";rw[qu] at hf2;exact q f H2 s2 ff hf2
def F6:Sp:=λvs H Q _=>∃(a:Addr)(r:Row)(q:Int),vs=[.ref a,.int q]/\H a=some (.tup r.vals)/\∀(l:Addr)(us:List V)(H':Hp),aB H H'->H l=none->H' l=some (.lst us)->Rows H' us (r.dbl q)->Q (.ref l) H'
def Cq(T:Txt w K mg):b8 P w K mg base gS 1 T.doubled.f T.doubled.d ["row", "place"] F6:=by
 refine T.doubled.F.ok B0 (λvs H Q E h=>?_) (λcdv A outer s H vs Q E hr h=>?_)
 .obtain⟨a,r,q,rfl,_⟩:=h;rfl
 obtain⟨a,r,q1,rfl,ha,q⟩:=h;have cD:=T.jh.q;refine⟨_,(ak (cN (aG nL (aS cO (pv 0) af (λ_ _=>rfl)) (gh (v:=.ref T.jh.a) rfl T.jh.c rfl) (by with_unfolding_all rfl))
 (au (aJ (dM (aa (pv 0) ai))))
 bw)
 (au (aJ (dM (aa (ay jv (ay jv (ay jv (c6 kq (pv 0) eV (dW af)) (bB (aa af ai))) (c6 kq (pv 0) (dW af) (dW (lB jb af)))) (bB (aa (ay aZ (pv 1) af) ai))) (aa (ay jv (ay jv (c6 kq (pv 0) eV (dW af)) (bB (aa af ai))) (c6 kq (pv 0) (dW af) eV)) ai)))))),?_⟩
 sleep 63;walk_at "start";cases r with
 | num d k v p =>
  sleep 109;sleep 199;intro p1 H1 n1
  replace n1:eU H p1 (.tup [.str "num"]) H1:=n1
  sleep 27;sleep 186;intro p4 H4 n4
  replace n4:eU H3 p4 (.tup [.int k,.int v]) H4:=n4
  sleep 8;have h7:H7 p7=some (.tup (.num 0 k v (q1+1):Row).vals):=n7.self;sleep 137;intro p8 H8 n8
  replace n8:eU H7 p8 (.tup [.str "num"]) H8:=n8
  sleep 28;sleep 200;intro yc zX gO
  replace gO:eU zW yc (.tup [.int k,.int v,.int p]) zX:=gO
  sleep 49;have h12:FJ qy=some (.tup (.num 1 k v p:Row).vals):=tL.self;sleep 22
 | copy d k i p =>
  sleep 109;sleep 199;intro p1 H1 n1
  replace n1:eU H p1 (.tup [.str "copy"]) H1:=n1
  sleep 27;sleep 186;intro p4 H4 n4
  replace n4:eU H3 p4 (.tup [.int k,.int i]) H4:=n4
  sleep 8;have h7:H7 p7=some (.tup (.copy 0 k i (q1+1):Row).vals):=n7.self;sleep 137;intro p8 H8 n8
  replace n8:eU H7 p8 (.tup [.str "copy"]) H8:=n8
  sleep 28;sleep 200;intro yc zX gO
  replace gO:eU zW yc (.tup [.int k,.int i,.int p]) zX:=gO
  sleep 49;have h12:FJ qy=some (.tup (.copy 1 k i p:Row).vals):=tL.self;sleep 22
 | op d o k i j p =>
  sleep 109;refine iI (cM.of ha) (by show ¬(HT.dz 7 0 none=0/\HT.dz 7 7 (some 1)=7);decide) ?_;intro p1 H1 n1
  replace n1:eU H p1 (.tup [.str "op"]) H1:=n1
  sleep 27;refine iI (cM.of K6) (by show ¬(HT.dz 7 0 (some 2)=0/\HT.dz 7 7 (some (-1))=7);decide) ?_;intro p4 H4 n4
  replace n4:eU H3 p4 (.tup [.str o,.int k,.int i,.int j]) H4:=n4
  sleep 8;have h7:H7 p7=some (.tup (.op 0 o k i j (q1+1):Row).vals):=n7.self;clear n6 n7 h5 Nl s5;walk_at "go";refine iI (cM.of O7) (by show ¬(HT.dz 7 0 none=0/\HT.dz 7 7 (some 1)=7);decide) ?_;intro p8 H8 n8
  replace n8:eU H7 p8 (.tup [.str "op"]) H8:=n8
  sleep 28;refine iI (cM.of qD) (by show ¬(HT.dz 7 0 (some 2)=0/\HT.dz 7 7 none=7);decide) ?_;intro yc zX gO
  replace gO:eU zW yc (.tup [.str o,.int k,.int i,.int j,.int p]) zX:=gO
  sleep 49;have h12:FJ qy=some (.tup (.op 1 o k i j p:Row).vals):=tL.self;sleep 22
 | _ =>
  have ha0:=ha;sleep 109;rename_i l H1 n1;exact q l _ H1 n1.same n1.1 n1.self (.cons ⟨a,rfl,n1.keep ha0⟩ .nil)
end
def eT{g:Addr}(h:H g=some (.lst us))(p:nj H g (.lst vs) H'):gK H H':=λb xs e=>p.keep (rW e h (by intro z;cases z)) e
def Kp{qs:List Row}(h1:Rows H us rs)(h2:Rows H vs qs):Rows H (us++vs) (rs++qs):=gZ h1 h2
section
variable {P:Program}{w:World}{K:aD}{mg:Str->Option Value}{base:Heap}
def Kq:Sp:=λvs H Q _=>∃(p:Addr)(us:List V)(rs:List Row),vs=[.ref p]/\H p=some (.lst us)/\Rows H us rs/\(∀r∈rs,r.ok rs.length)/\rs.length<=200 /\
 ∀(g:Addr)(vs:List V)(H':Hp),aB H H'->H g=none->H' g=some (.lst vs)->Rows H' vs (bX rs rs.length)->Q (.ref g) H'
def F7(T:Txt w K mg):b8 P w K mg base gS 6 T.xj.f T.xj.d ["code"] Kq:=by
 refine T.xj.F.ok gX (λvs H Q E h=>?_) (λcdv A outer s H vs Q E hr h=>?_)
 .sleep 155
 sleep 219;refine⟨_,(ak (aE (i:=1) gX.nd rfl (ao rfl) (aP T.looks (Ko T) hr (aa (pv 0) ai)))
 (ak (aE (i:=2) gX.nd rfl (ao rfl) (aP T.iU (qF T) hr (aa (pv 0) (aa (pv 1) ai))))
 (ak (aE (i:=3) gX.nd rfl (ao rfl) (dM ai))
 (ak (eK bY rfl (kB rfl T.fL (aa (pv 0) ai)) (ng (n:=2) rfl (bG (aX (i:=4) gX.nd rfl (ao rfl)) (bG (aX (i:=5) gX.nd rfl (ao rfl)) gj)))
 (ak (eK bY rfl (cJ (Hl (sy hr) (pv 1) (pv 4) (dM ai) ⟨rfl,rfl,rfl,rfl⟩)) (aX (i:=6) gX.nd rfl (ao rfl))
 (au (fj (jw dR jq jr gw (pv 3) (aa (bB (aa bA (aa (pv 6) (aa (ay aZ (aT bI rfl T.eS BT.eO (aa (pv 3) ai)) af) ai)))) ai)))))
 (iQ (cN (A1 (G7 (sy hr) (pv 4) (pv 1)))
 (au (fj (jw dR jq jr gw (pv 3) (aa (bB (aa bA (aa (ay aZ (aT bI rfl T.eS BT.eO (aa (pv 3) ai)) af) ai))) ai))))
 bw)
 (au (fj (jw dR nF nG jW (pv 3) (aa (aP T.doubled (Cq T) hr (aa (aP T.j3 (oW T) hr (aa (pv 5) (aa (pv 2) ai))) (aa (aT bI rfl T.eS BT.eO (aa (pv 3) ai)) ai))) ai)))))))
 (au (aJ (pv 3))))))),?_⟩
 sleep 212;sleep 145;sleep 6;refine⟨p,us,rs,rfl,hp,hrs,hok,hn,λd kvs H1 s1 fd hd1 QK=>?_⟩;walk_at "go";refine⟨p,d,us,rs,kvs,rfl,s1 _ _ hp,hrs.same s1,hn,hd1,QK,λf H2 s2 ff hf2=>?_⟩;have hd2:=s2 _ _ hd1;have N7:=QK.same s2;have SE:=s1.trans s2;have hp2:=SE _ _ hp;have JD:=hrs.same SE;clear s1 s2 hd1 QK;walk_at "go";rename_i g H3 n3;have O5:H2 g=none:=n3.1;have s3:=n3.same;have hg3:=n3.self;clear n3;refine sF (xs:=us) (λi σ' H'=>(∃x y z,σ'=[some (.ref p),some (.ref d),some (.ref f),some (.ref g),x,y,z])/\aB H2 H'/\∃vs,H' g=some (.lst vs)/\Rows H' vs (bX rs i)) ?_ ?_ ?_ ?_
 .exact⟨⟨_,_,_,rfl⟩,s3,[],hg3,.nil⟩
 .sleep 156;exact bE.of (s' _ _ hp2)
 .rintro i x t σ' H4 H5 hx ⟨⟨x0,y0,z0,rfl⟩,s4,vs,Tt,hvs⟩ n5;sleep 142;obtain⟨r,hr',ra,rfl,tG⟩:=br JD hx;have s5:=s4.trans n5.same;have hg5:=n5.keep Tt;have Xf:=hvs.same n5.same;have XT:=s5 _ _ hd2;have Xg:=s5 _ _ tG;have ht5:=n5.self;have hdg:d≠g:=aW hd2 O5;have hvl:vs.length=firstM rs i:=by rw[hvs.length,d8 (by omega)]
  have hfl:=qd rs i;obtain⟨hm1,hm2⟩:=N7 i (by omega);clear n5 s4 Tt hvs;walk_at "go";rename_i dl H6 n6;have s6:=s5.trans n6.same;have hg6:=n6.keep hg5;have Xh:=Xf.same n6.same;have OO:=n6.keep XT;have abG:=n6.keep Xg;have abH:dl≠g:=(aW hg5 n6.1).symm;have Xi:=n6.self;clear n6 hg5 Xf XT Xg s5 ht5;obtain⟨la,Lk,ela,hla,hlk,hlg⟩:∃la Lk,(e9 kvs (.inl (i:Int))).getD (.ref dl)=.ref la/\H6 la=some (.lst (Lk.map V.int))/\Lk=(if dP rs i=true then cL rs i else[])/\la≠g:=by
   by_cases hm:dP rs i=true
   .obtain⟨a,e1,e2⟩:=hm1 hm;exact⟨a,_,by rw[e1];rfl,s6 _ _ e2,by rw[if_pos hm],aW e2 O5⟩
   .exact⟨dl,[],by rw[hm2 hm];rfl,Xi,by rw[if_neg hm],abH⟩
  have hLl:Lk.length<=8:=by
   rw[hlk];split
   .exact tX rs i
   .exact aH _
  rw[ela];walk_at "go";refine f_list (xs:=Lk.map V.int) (λk σ' H'=>(∃z,σ'=[some (.ref p),some (.ref d),some (.ref f),some (.ref g),some (.int (i:Int)),some (.ref ra),z])/\aB H2 H'/\H' la=some (.lst (Lk.map V.int))/\∃vs',H' g=some (.lst vs')/\Rows H' vs' (bX rs i++cu (firstM rs i) (Lk.take k))) ?_ ?_ ?_ ?_
  .exact⟨⟨_,rfl⟩,s6,hla,vs,hg6,by simpa[cu] using Xh⟩
  .rintro k σ' H' _ ⟨_,_,h,_⟩;exact bE.of h
  .rintro k y σ' H7 hy ⟨⟨z,rfl⟩,s7,JT,vs',O8,uM⟩;rw[bz] at hy;obtain⟨b,hb,rfl⟩:=dg.mp hy;have ya:=(fq hb).1;have Xj:vs'.length=firstM rs i+k:=by rw[uM.length,aR,d8 (by omega),d7,cG];omega
   sleep 184;refine⟨⟨_,rfl⟩,p9.same (s7.trans n8.same) O5,p9.keep hlg (n8.keep JT),_,p9.self,?_⟩;rw[cB,hb];show Rows H9 _ (bX rs i++cu (firstM rs i) (Lk.take k++[b]));rw[lQ,<- mV];refine cI ((uM.same n8.same).ji tt) ⟨t8,rfl,?_⟩;have e:(firstM rs i:Int)+((Lk.take k).length:Int)+1=(vs'.length:Int)+1:=by rw[cG];omega
   rw[e];exact tt _ _ n8.self
  .rintro σ' H7 ⟨⟨z,rfl⟩,s7,JT,vs',O8,uM⟩;rw[av,cH] at uM;have JS:=s7 _ _ hd2;have abJ:=s7 _ _ tG;have Xj:vs'.length=firstM rs i+Lk.length:=by rw[uM.length,aR,d8 (by omega),d7]
   clear hg6 Xh OO abG Xi hla s6;walk_at "go";refine qj (λσ' H'=>σ'=[some (.ref p),some (.ref d),some (.ref f),some (.ref g),some (.int (i:Int)),some (.ref ra),z]/\aB H2 H'/\∃SI,H' g=some (.lst SI)/\Rows H' SI (bX rs i++Ac rs i)) ?_ ?_
   .walk_at "go";by_cases hm:dP rs i=true
    .obtain⟨a,e1,_⟩:=hm1 hm;rw[e1,if_pos (show(some (V.ref a)).isSome=true from rfl)];sleep 184;refine⟨rfl,p9.same (s7.trans n8.same) O5,_,p9.self,?_⟩;unfold Ac;rw[if_pos hm,<- mV];rw[hlk,if_pos hm] at uM Xj;refine cI ((uM.same n8.same).ji tt) ⟨t8,rfl,?_⟩;have e:(firstM rs i:Int)+((cL rs i).length:Int)+1=(vs'.length:Int)+1:=by omega
     rw[e];exact tt _ _ n8.self
    .rw[hm2 hm,if_neg (by decide)];walk_at "go";refine⟨rfl,s7,vs',O8,?_⟩;unfold Ac;rw[if_neg hm];rw[hlk,if_neg hm] at uM;simpa[cu] using uM
   rintro _ H8 ⟨rfl,s8,SI,Ek,z9⟩;have Xk:SI.length=firstM rs i+c7 rs i:=by rw[z9.length,aR,d8 (by omega),tW]
   have hmn:=xH rs i;have Xl:=s8 _ _ tG;have DS:=s8 _ _ hf2;clear JS abJ O8 uM s7 JT;walk_at "go";refine⟨ra,f,r,_,gQ rs,rfl,Xl,DS,λz hz=>?_,λt9 H9 s9 O9=>?_⟩
   .have hzb:=Row.ig (hok r (fz hr')) z hz;have ez:z=((z.toNat:Nat):Int):=by omega
    have Sg:z.toNat<rs.length:=by omega
    have:=fO (xs:=(List.range rs.length).map λp=>V.int (firstM rs p)) (j:=z.toNat) (v:=.int (firstM rs z.toNat)) (by rw[bz,pC Sg];rfl);rw[<- ez] at this;exact this
   have hg9:=s9 _ _ Ek;have J0:=z9.same s9;have s29:=s8.trans s9;clear s9 s8 Ek z9 Xl DS;walk_at "go";refine⟨t9,r.cU (gQ rs),_,rfl,O9,λl us2 zW iJ fl afh Pa=>?_⟩;have xQ:=iJ _ _ hg9;have Xm:=J0.same iJ;have abL:=s29.trans iJ;have hlg:l≠g:=(aW hg9 fl).symm;have afi:us2.length<=2:=by rw[Pa.length,Eb];exact qc r
   clear iJ hg9 J0 s29 O9;walk_at "go";rename_i zX yc;have tt:=eT xQ yc;refine⟨⟨_,_,_,rfl⟩,yc.same abL O5,_,yc.self,?_⟩;have e:bX rs (i+1)=bX rs i++Ac rs i++(r.cU (gQ rs)).dbl (SI.length:Int):=by rw[bX,hr'];show _++putAt rs i r=_;unfold putAt;rw[Xk,<- mV,Int.natCast_add]
   rw[e];exact Kp (Xm.ji tt) (Pa.ji tt)
 .rintro σ' H4 ⟨⟨x0,y0,z0,rfl⟩,s4,vs,Tt,hvs⟩;walk_at "go";rw[qu] at hvs;exact q g vs H4 (SE.trans s4) (SE.free O5) Tt hvs
def Nm:Sp:=λvs H Q _=>∃(c p m y:Int),vs=[.int c,.int p,.int m,.int y]/\0<=p/\p<m/\∀q,jQ m q->(y≠2->p+1≠m->p<q)->Q (.int q) H
def Aj(T:Txt w K mg):b8 P w K mg base gS 1 T.goes.f T.goes.d ["_law_cell", "_law_p", "_law_many", "_law_way"] Nm:=by
 refine T.goes.F.ok Mv (λvs H Q E h=>?_) (λcdv A outer s H vs Q E hr h=>?_)
 .obtain⟨c,p,m,y,rfl,_⟩:=h;rfl
 obtain⟨c,p,m,y,rfl,h0,h1,q⟩:=h;refine⟨_,(iQ (cN (PW.pt (rY (aG dU (ay aZ (pv 1) af) (pv 2) (aM _)) (pL (PW.pt (kj (aG dU (pv 3) af (aM _)) (ju (aG dU (ay bh (pv 0) af) af (aM _))))))))
 (au (aJ (ay bh (ay bU (pv 0) af) (pv 2))))
 bw)
 (nO (cN (PW.pt (kj (aG dU (pv 3) af (aM _)) (ju (aG dU (ay bh (pv 0) af) af (aM _)))))
 (au (aJ (aT (sG rfl) rfl T.OF BT.Ob (aa (ay iG (pv 2) af) (aa (ay aZ (ay aZ (pv 1) af) (ay bh (ay bU (pv 0) af) (pv 2))) ai)))))
 bw)
 (au (aJ (ay aZ (pv 1) af))))),?_⟩
 sleep 125;have b:=bH (a:=c / 4) (b:=m) (by omega);walk_at "start";refine qj (λσ' H'=>H'=H/\σ'=[some (.int c),some (.int p),some (.int m),some (.int y)]/\p+1≠m) ?_ ?_
 .walk_at "go"
  .exact q _ b (by omega)
  .exact q _ b (by omega)
  all_goals exact⟨rfl,rfl,by assumption⟩
 .rintro _ H' ⟨rfl,rfl,hne⟩;walk_at "go"
  .refine q _ ?_ ?_
   .split<;>exact⟨by omega,by omega⟩
   .intros
    split<;>omega
  .exact q _ ⟨by omega,by omega⟩ (by omega)
def SJ(K:aD):Sp:=λvs H Q _=>∃(c p m y:Int)(a:Addr)(ks:List Int),vs=[.int c,.int p,.int m,.ref a,.int y]/\0<=p/\p<m/\m<=1000/\H a=some (.lst (ks.map V.int))/\0<ks.length/\ks.length<=1000/\(∀k∈ks,fm k)/\∀q H' r,aB H H'->H' q=some (.tup (Row.vals r))->r.ok m->(y<2->∀z∈r.ways,p<z)->Q (.ref q) H'
def Nn(T:Txt w K mg):b8 P w K mg base gS 2 T.row.f T.row.d ["_law_cell", "_law_p", "_law_many", "_law_pool_here", "_law_way"] (SJ K):=by
 refine T.row.F.ok kI (λvs H Q E h=>?_) (λcdv A outer s H vs Q E hr h=>?_)
 .obtain⟨c,p,m,y,a,ks,rfl,_⟩:=h;rfl
 obtain⟨c,p,m,y,a,ks,rfl,h0,h1,hm,ha,hk0,hk1,hb,q⟩:=h;refine⟨_,(ak (aE (i:=5) kI.nd rfl (ao rfl) (ay bh (pv 0) af))
 (ak (aE (i:=6) kI.nd rfl (ao rfl) (aS cO (bB (aa af (aa af (aa af (aa af ai))))) (ay bh (ay bU (pv 0) af) af) (λ_ _=>rfl)))
 (ak (aE (i:=7) kI.nd rfl (bQ rfl) (ay bU (pv 0) af))
 (ak (i9 (cP (bD.caps (x := "_law_x") (fr:=["_law_pool_here", "_law_rest"]) (ix:=[3,7]) (nm:=["_law_rest", "_law_pool_here"]) rfl rfl (by decide +kernel) rfl (by decide +kernel) rfl (by decide +kernel) ⟨rfl,⟨rfl,trivial⟩⟩ rfl (by decide +kernel) rfl ⟨⟨rfl,rfl,rfl⟩,⟨⟨rfl,rfl,rfl⟩,trivial⟩⟩) (dj rfl T.eW (aa af ai)) (λ_ _ _ _=>cQ) (λ_ _ _ _=>(aS (gI (K:=K) rfl) (pv 1) (ay bh (ay bh (ay sE (pv 2) (aS (nQ (K:=K) rfl) (bB (aa af (aa af (aa af ai)))) (pv 0) (λ_ _=>rfl))) af) (aT (kD (K:=K) rfl) rfl T.eS BT.eO (aa (pv 1) ai))) (λ_ _=>rfl)))) (Hv rfl (bG (aX (i:=8) kI.nd rfl (ao rfl)) (bG (aX (i:=9) kI.nd rfl (ao rfl)) (bG (aX (i:=10) kI.nd rfl (ao rfl)) gj)))))
 (ak (aE (i:=11) kI.nd rfl (ao rfl) (aP T.goes (Aj T) hr (aa (ay bU (pv 7) af) (aa (pv 1) (aa (pv 2) (aa (pv 4) ai))))))
 (ak (aE (i:=12) kI.nd rfl (ao rfl) (ay sE (pv 7) (ay ja af af)))
 (iQ (cN (PW.pt (rY (aG dU (pv 5) af (aM _)) (pL (PW.pt (kj (aG iy (pv 4) af (aM _)) (ju (aG dU (ay aZ (pv 1) af) (pv 2) (aM _))))))))
 (au (aJ (bB (aa bA (aa (pv 9) ai)))))
 bw)
 (ak (cN (aG iy (pv 5) af (aM _))
 (au (aJ (bB (aa bA (aa (pv 6) (aa (pv 8) (aa (ay bh (pv 12) (ay GL af af)) (aa (pv 11) ai))))))))
 bw)
 (ak (cN (aG iy (pv 5) af (aM _))
 (au (aJ (bB (aa bA (aa (pv 6) (aa (pv 8) (aa (pv 9) (aa (pv 11) ai))))))))
 bw)
 (ak (cN (aG iy (pv 5) af (aM _))
 (au (aJ (bB (aa bA (aa (pv 6) (aa (aS GW bA (ay bh (pv 12) af) (λ_ _=>rfl)) (aa (pv 8) (aa (pv 9) (aa (pv 10) (aa (pv 11) ai))))))))))
 bw)
 (ak (cN (aG iy (pv 5) af (aM _))
 (au (aJ (bB (aa bA (aa (pv 9) (aa (pv 11) ai))))))
 bw)
 (ak (cN (aG iy (pv 5) af (aM _))
 (au (aJ (bB (aa bA (aa (pv 9) (aa (pv 11) (aa (aP T.goes (Aj T) hr (aa (pv 12) (aa (pv 1) (aa (pv 2) (aa (pv 4) ai))))) ai)))))))
 bw)
 (ak (cN (aG iy (pv 5) af (aM _))
 (au (aJ (bB (aa bA (aa (pv 9) (aa (pv 11) ai))))))
 bw)
 (au (aJ (bB (aa bA (aa (pv 11) ai)))))))))))))))))),?_⟩
 have ya:(ks.map V.int).length=ks.length:=av _;show(_:TS) (Ends.mk _ _ _ _) [_,_,_,_,_,_,_,_,_,_,_,_,_] H;sleep 6;rename_i t1 H1 n1;have bs:=bH (a:=c / 24) (b:=4) (by decide);obtain⟨d,hd,md⟩:=lK (ns:=[2,2,0,1]) (i:=c / 24 % 4) bs.1 (by show _<(4:Int);exact bs.2);have sd:xq d:=by simp only[aI,fX,or_false] at md;rcases md with rfl|rfl|rfl|rfl<;>exact⟨by decide,by decide⟩
 refine sD (cM.of n1.self) hd ?_;walk_at "go";refine ia (λi ys H'=>aB H1 H'/\∃ls:List Int,ys=ls.map V.int/\ls.length=i/\∀k∈ls,fm k) ⟨aB.refl _,[],rfl,rfl,λk h=>nomatch h⟩ ?_ ?_
 .sleep 260;sleep 45;have ha':=sm _ _ (n1.keep ha);sleep 29;have bb:=bH (a:=c / 96 / g % 8) (b:=(ks.length:Int)) (by omega);obtain⟨v,hv,mv⟩:=lK (ns:=ks) (i:=c / 96 / g % 8 % (ks.length:Int)) bb.1 bb.2;sleep 79
 rintro ys H2 ⟨s2,ls,rfl,hl,hlb⟩ l H3 n3;have hl3:ls.length=3:=by omega
 match ls,hl3 with
 | [k,i,j],_ =>
 sleep 224;have s3:aB H H3:=(n1.same.trans s2).trans n3.same
 replace n3:eU H2 l (.lst [.int k,.int i,.int j]) H3:=n3
 walk_at "go";refine⟨_,p,m,y,rfl,h0,h1,λq1 hq1 El=>?_⟩;have bv:isVal ((c / 96 / (512*256)) % 2 ^ (48:Int).toNat):=bH (by decide);have b9:=bH (a:=c / 96 / (512*256)) (b:=9) (by decide);obtain⟨ch,hch,Wg⟩:=Jv b9.1 b9.2;clear n1 s2 n3;walk_at "go";refine qj (λσ' H'=>H'=H3/\σ'=[some (.int c),some (.int p),some (.int m),some (.ref a),some (.int y),some (.int (c % 24)),some (.int d),some (.int (c / 96)),some (.int k),some (.int i),some (.int j),some (.int q1),some (.int (c / 96 / (512*256)))]/\(y<2->p+1≠m)) ?_ ?_
 .walk_at "go"
  all_goals first
   | (rename_i t4 H4 n4;exact q t4 H4 (.back i) (s3.trans n4.same) n4.self bi λ_ z hz=>nomatch hz)
   | exact⟨rfl,rfl,by omega⟩
 rintro _ _ ⟨rfl,rfl,hyp⟩;walk_at "go"
 all_goals first
  | (rename_i t4 H4 n4;exact q t4 H4 (.num d k _ q1) (s3.trans n4.same) n4.self ⟨sd,bk,bv,hq1⟩ (λhy z hz=>by rw[aA.mp hz];exact El (by omega) (hyp hy)))
  | (rename_i t4 H4 n4;exact q t4 H4 (.copy d k i q1) (s3.trans n4.same) n4.self ⟨sd,bk,bi,hq1⟩ (λhy z hz=>by rw[aA.mp hz];exact El (by omega) (hyp hy)))
  | (rename_i t4 H4 n4;exact q t4 H4 (.out i q1) (s3.trans n4.same) n4.self ⟨bi,hq1⟩ (λhy z hz=>by rw[aA.mp hz];exact El (by omega) (hyp hy)))
  | (rename_i t4 H4 n4;exact q t4 H4 (.look i q1) (s3.trans n4.same) n4.self ⟨bi,hq1⟩ (λhy z hz=>by rw[aA.mp hz];exact El (by omega) (hyp hy)))
  | (rename_i t4 H4 n4;exact q t4 H4 (.mark q1) (s3.trans n4.same) n4.self hq1 (λhy z hz=>by rw[aA.mp hz];exact El (by omega) (hyp hy)))
  | skip
 .refine Hw (by decide) hch ?_;sleep 172;exact q t4 H4 (.op d ⟨#[ch]⟩ k i j q1) (s3.trans n4.same) n4.self ⟨sd,Wg,bk,bi,bj,hq1⟩ (λhy z hz=>by rw[aA.mp hz];exact El (by omega) (hyp hy))
 .refine⟨_,p,m,y,rfl,h0,h1,λq2 hq2 fq2=>?_⟩;sleep 172;exact q t4 H4 (.fork i q1 q2) (s3.trans n4.same) n4.self ⟨bi,hq1,hq2⟩ λhy z hz=>by rcases aI.mp hz with rfl|hz;exact El (by omega) (hyp hy);rw[aA.mp hz];exact fq2 (by omega) (hyp hy)
def Em(K:aD):Sp:=λvs H Q _=>∃(a:Addr)(ns:List Int)(n:Nat)(y:Int),vs=[.ref a,.int n,.int y]/\bE K H a (ns.map V.int)/\ns.length<=63/\0<n/\n<=1000 /\
 ∀q H' us rs,aB H H'->H' q=some (.lst us)->Rows H' us rs->rs.length=n->(∀r∈rs,Row.ok n r)->(y<2->∀(j:Nat)(r:Row),rs[j]?=some r->∀z∈r.ways,(j:Int)<z)->Q (.ref q) H'
def Ak(T:Txt w K mg):b8 P w K mg base gS 4 T.code.f T.code.d ["_law_script", "_law_many", "_law_way"] (Em K):=by
 refine T.code.F.ok wZ (λvs H Q E h=>?_) (λcdv A outer s H vs Q E hr h=>?_)
 .obtain⟨a,ns,n,y,rfl,_⟩:=h;rfl
 obtain⟨a,ns,n,y,rfl,hS,hn,h0,h1,q⟩:=h;refine⟨_,(ak (aE (i:=3) wZ.nd rfl (bQ rfl) (aP T.pool (DL T) hr (aa (pv 0) (aa af ai))))
 (ak (aE (i:=4) wZ.nd rfl (bQ rfl) (aP T.numbers (tE T) hr (aa (pv 0) (aa (pv 1) ai))))
 (au (aJ (cP (bD.caps (x := "_law_p") (fr:=["_law_many", "_law_way", "_law_pool_here", "_law_numbers_here"]) (ix:=[1,2,3,4]) (nm:=["_law_way", "_law_pool_here", "_law_numbers_here", "_law_many"]) rfl rfl (by decide +kernel) rfl (by decide +kernel) rfl (by decide +kernel) ⟨rfl,⟨rfl,⟨rfl,⟨rfl,trivial⟩⟩⟩⟩ rfl (by decide +kernel) rfl ⟨⟨rfl,rfl,rfl⟩,⟨⟨rfl,rfl,rfl⟩,⟨⟨rfl,rfl,rfl⟩,⟨⟨rfl,rfl,rfl⟩,trivial⟩⟩⟩⟩) (dj rfl T.eW (aa (pv 1) ai)) (λ_ _ _ _=>cQ) (λ_ _ _ _=>(aP T.row (Nn T) hr (aa (aS (gI (K:=K) rfl) (pv 4) (pv 0) (λ_ _=>rfl)) (aa (pv 0) (aa (pv 1) (aa (pv 3) (aa (pv 2) ai)))))))))))),?_⟩
 sleep 88;sleep 6;refine⟨a,ns,8,rfl,hS,by decide,by decide,λp H1 ks s1 hp hk0 hk1 hkb=>?_⟩;sleep 152;refine ia (λi ys H'=>aB H2 H'/\∃rs:List Row,Rows H' ys rs/\rs.length=i/\(∀r∈rs,r.ok n)/\(y<2->∀(j:Nat)(r:Row),rs[j]?=some r->∀z∈r.ways,(j:Int)<z)) ⟨aB.refl _,[],.nil,rfl,(λr h=>nomatch h),λ_ j r h=>nomatch h⟩ ?_ ?_
 .rintro i ys H' hi ⟨sm,rs,hrs,hlen,hok,hfw⟩;sleep 67;refine⟨v,_,_,_,p,ks,rfl,by omega,by omega,by omega,sm _ _ hp2,hk0,hk1,hkb,λt H3 r s3 ht hr fr=>?_⟩;refine⟨sm.trans s3,rs++[r],cI (hrs.same s3) ⟨t,rfl,ht⟩,by simp[hlen],λr' h=>?_,λhy j r' h=>?_⟩
  .sleep 220
  .rcases aY j rs.length with hj|hj
   .rw[i6 hj] at h;exact hfw hy j r' h
   .rw[iD hj] at h;sleep 68;intro z hz;have:=fr hy z hz;omega
 .rintro ys H' ⟨sm,rs,hrs,hlen,hok,hfw⟩ g H3 n3;exact q g H3 ys rs (((s1.trans s2).trans sm).trans n3.same) n3.self (hrs.same n3.same) (by omega) hok hfw
end
structure Lk (rs:List Row) (p:Nat):Prop where
 a:∀j r,j+1<rs.length->rs[j]?=some r->((j+1:Nat):Int)∈r.ways\/∃i r',i+1=j/\rs[i]?=some r'/\((j+1:Nat):Int)∈r'.ways
 b:∀j r,p<=j->j+1<rs.length->rs[j]?=some r->((j+1:Nat):Int)∈r.ways
def Lk.next(h:Lk rs p):Lk rs (p+1):=⟨h.a,λj r hj=>h.b j r (by omega)⟩
def Lk.abM{f g:Row}(h:Lk rs (p+1))(h1:((p+1:Nat):Int)∈f.ways)(h2:((p+2:Nat):Int)∈f.ways):Lk ((rs.set p f).set (p+1) g) (p+2):=by
 have len:((rs.set p f).set (p+1) g).length=rs.length:=by rw[eE,eE]
 have Kg:∀j,j≠p->j≠p+1->((rs.set p f).set (p+1) g)[j]?=rs[j]?:=λj a b=>by rw[pF (bu b),pF (bu a)]
 have atp:p<rs.length->((rs.set p f).set (p+1) g)[p]?=some f:=λhp=>by rw[pF (by omega),List.getElem?_set_self hp]
 constructor
 .intro j r hj hr;rw[len] at hj;rcases lW j p with hlt|rfl|hgt
  .rw[Kg j (by omega) (by omega)] at hr;rcases h.a j r hj hr with h|⟨i,r',e,h3,h4⟩
   .exact .inl h
   .exact .inr ⟨i,r',e,by rw[Kg i (by omega) (by omega)];exact h3,h4⟩
  .rw[atp (by omega)] at hr;cases hr;exact .inl h1
  .rcases aY (p+1) j with hg|hg
   .rw[Kg j (by omega) (by omega)] at hr;exact .inl (h.b j r (by omega) hj hr)
   .have e:j=p+1:=by omega
    subst e;exact .inr ⟨p,f,rfl,atp (by omega),h2⟩
 .intro j r hp hj hr;rw[len] at hj;rw[Kg j (by omega) (by omega)] at hr;exact h.b j r (by omega) hj hr
def Lk.rch(h:Lk rs p):∀j,j<rs.length->La rs j/\∀i,i<j->La rs i:=by
 intro j;induction j with
 | zero=>exact λ_=>⟨.zero,λi hi=>absurd hi (gF _)⟩
 | succ j ih =>
  intro hj;obtain⟨r1,r2⟩:=ih (by omega);have all:∀i,i<j+1->La rs i:=λi hi=>by
   rcases aY i j with hlt|hge
   .exact r2 i hlt
   .rw[show i=j by omega];exact r1
  refine⟨?_,all⟩;obtain⟨r,hr⟩:∃r,rs[j]?=some r:=⟨_,fN (by omega)⟩;rcases h.a j r hj hr with h|⟨i,r',e,h3,h4⟩
  .exact .step r1 hr h
  .exact .step (all i (by omega)) h3 h4
section
variable {P:Program}{w:World}{K:aD}{mg:Str->Option Value}{base:Heap}
def SK(K:aD):Sp:=λvs H Q _=>∃(c p m y:Int)(a:Addr)(ks:List Int),vs=[.int c,.int p,.int m,.ref a,.int y]/\0<=p/\p<m/\m<=1000/\H a=some (.lst (ks.map V.int))/\0<ks.length/\ks.length<=1000/\(∀k∈ks,fm k)/\∀q H' r,aB H H'->H' q=some (.tup (Row.vals r))->r.ok m->r.pl->(p+1<m->p+1∈r.ways)->Q (.ref q) H'
def xS(T:Txt w K mg):b8 P w K mg base gS 2 T.mw.f T.mw.d ["_law_cell", "_law_p", "_law_many", "_law_pool_here", "_law_way"] (SK K):=by
 refine T.mw.F.ok dX (λvs H Q E h=>?_) (λcdv A outer s H vs Q E hr h=>?_)
 .obtain⟨c,p,m,y,a,ks,rfl,_⟩:=h;rfl
 obtain⟨c,p,m,y,a,ks,rfl,h0,h1,hm,ha,hk0,hk1,hb,q⟩:=h;refine⟨_,(ak (aE (i:=5) dX.nd rfl (ao rfl) (ay bh (pv 0) af))
 (ak (aE (i:=6) dX.nd rfl (bQ rfl) (ay bU (pv 0) af))
 (ak (i9 (cP (bD.caps (x := "_law_x") (fr:=["_law_pool_here", "_law_rest"]) (ix:=[3,6]) (nm:=["_law_rest", "_law_pool_here"]) rfl rfl (by decide +kernel) rfl (by decide +kernel) rfl (by decide +kernel) ⟨rfl,⟨rfl,trivial⟩⟩ rfl (by decide +kernel) rfl ⟨⟨rfl,rfl,rfl⟩,⟨⟨rfl,rfl,rfl⟩,trivial⟩⟩) (dj rfl T.eW (aa af ai)) (λ_ _ _ _=>cQ) (λ_ _ _ _=>(aS (gI (K:=K) rfl) (pv 1) (ay bh (ay bh (ay sE (pv 2) (aS (nQ (K:=K) rfl) (bB (aa af (aa af (aa af ai)))) (pv 0) (λ_ _=>rfl))) af) (aT (kD (K:=K) rfl) rfl T.eS BT.eO (aa (pv 1) ai))) (λ_ _=>rfl)))) (Hv rfl (bG (aX (i:=7) dX.nd rfl (ao rfl)) (bG (aX (i:=8) dX.nd rfl (ao rfl)) (bG (aX (i:=9) dX.nd rfl (ao rfl)) gj)))))
 (ak (aE (i:=10) dX.nd rfl (ao rfl) (ay bU (pv 6) af))
 (ak (aE (i:=11) dX.nd rfl (ao rfl) (aT (sG rfl) rfl T.OF BT.Ob (aa (ay aZ (pv 1) af) (aa (ay iG (pv 2) af) ai))))
 (nO (cN (PW.pt (kj (aG dU (ay aZ (pv 1) af) (pv 2) (aM _)) (ju (aG dU (pv 4) af (aM _)))))
 (au (aJ (bB (aa bA (aa (pv 8) ai)))))
 bw)
 (ak (cN (aG iy (pv 5) af (aM _))
 (au (aJ (bB (aa bA (aa af (aa (pv 7) (aa (ay bh (ay bU (pv 10) af) (ay GL af af)) (aa (pv 11) ai))))))))
 bw)
 (ak (cN (aG iy (pv 5) af (aM _))
 (au (aJ (bB (aa bA (aa af (aa (pv 7) (aa (pv 8) (aa (pv 11) ai))))))))
 bw)
 (ak (cN (aG iy (pv 5) af (aM _))
 (au (aJ (bB (aa bA (aa af (aa (aS GW bA (ay bh (ay bU (pv 10) af) af) (λ_ _=>rfl)) (aa (pv 7) (aa (pv 8) (aa (pv 9) (aa (pv 11) ai))))))))))
 bw)
 (ak (cN (aG iy (pv 5) af (aM _))
 (au (aJ (bB (aa bA (aa (pv 8) (aa (pv 11) ai))))))
 bw)
 (ak (cN (aG dU (ay bh (ay bU (pv 10) af) af) af (aM _))
 (au (aJ (bB (aa bA (aa (pv 8) (aa (pv 11) (aa (ay bh (ay bU (pv 10) af) (pv 2)) ai)))))))
 bw)
 (au (aJ (bB (aa bA (aa (pv 8) (aa (ay bh (ay bU (pv 10) af) (pv 2)) (aa (pv 11) ai)))))))))))))))))),?_⟩
 have ya:(ks.map V.int).length=ks.length:=av _;show(_:TS) (Ends.mk _ _ _ _) [_,_,_,_,_,_,_,_,_,_,_,_] H;sleep 6;refine ia (λi ys H'=>aB H H'/\∃ls:List Int,ys=ls.map V.int/\ls.length=i/\∀k∈ls,fm k) ⟨aB.refl _,[],rfl,rfl,λk h=>nomatch h⟩ ?_ ?_
 .sleep 260;sleep 45;have ha':=sm _ _ ha;sleep 29;have bb:=bH (a:=c / 16 / g % 8) (b:=(ks.length:Int)) (by omega);obtain⟨v,hv,mv⟩:=lK (ns:=ks) (i:=c / 16 / g % 8 % (ks.length:Int)) bb.1 bb.2;sleep 79
 rintro ys H2 ⟨s2,ls,rfl,hl,hlb⟩ l H3 n3;have hl3:ls.length=3:=by omega
 match ls,hl3 with
 | [k,i,j],_ =>
 sleep 224;have s3:aB H H3:=s2.trans n3.same
 replace n3:eU H2 l (.lst [.int k,.int i,.int j]) H3:=n3
 have b5:=bH (a:=c / 16 / 512 / 512) (b:=m) (by omega);obtain⟨hq1,El⟩:jQ m (if m-1<p+1 then m-1 else p+1)/\(p+1<m->p+1=if m-1<p+1 then m-1 else p+1):=⟨by split<;>exact⟨by omega,by omega⟩,by split<;>omega⟩;have bv:isVal ((c / 16 / 512 / 256) % 2 ^ (48:Int).toNat):=bH (by decide);have b9:=bH (a:=c / 16 / 512 / 256) (b:=9) (by decide);obtain⟨ch,hch,Wg⟩:=Jv b9.1 b9.2;walk_at "go"
 all_goals first
  | (rename_i t4 H4 n4;exact q t4 H4 (.back i) (s3.trans n4.same) n4.self bi trivial (λh=>by omega))
  | (rename_i t4 H4 n4;exact q t4 H4 (.num 2 k _ _) (s3.trans n4.same) n4.self ⟨⟨by decide,by decide⟩,bk,bv,hq1⟩ rfl (λh=>aA.mpr (El h)))
  | (rename_i t4 H4 n4;exact q t4 H4 (.copy 2 k i _) (s3.trans n4.same) n4.self ⟨⟨by decide,by decide⟩,bk,bi,hq1⟩ rfl (λh=>aA.mpr (El h)))
  | (rename_i t4 H4 n4;exact q t4 H4 (.out i _) (s3.trans n4.same) n4.self ⟨bi,hq1⟩ trivial (λh=>aA.mpr (El h)))
  | (rename_i t4 H4 n4;exact q t4 H4 (.fork i _ _) (s3.trans n4.same) n4.self ⟨bi,hq1,b5⟩ trivial (λh=>aI.mpr (.inl (El h))))
  | (rename_i t4 H4 n4;exact q t4 H4 (.fork i _ _) (s3.trans n4.same) n4.self ⟨bi,b5,hq1⟩ trivial (λh=>c9 _ (aA.mpr (El h))))
  | skip
 all_goals
  refine Hw (by decide) hch ?_;sleep 172;exact q t4 H4 (.op 2 ⟨#[ch]⟩ k i j _) (s3.trans n4.same) n4.self ⟨⟨by decide,by decide⟩,Wg,bk,bi,bj,hq1⟩ rfl (λh=>aA.mpr (El h))
end
theorem lU{α β:Type}{F:α->β->Prop}:∀{xs:List α}{ys:List β}(j:Nat){x:α}{y:β},Paired F xs ys->F x y->Paired F (xs.set j x) (ys.set j y)
 | _,_,_,_,_,.nil,_=>.nil
 | _,_,0,_,_,.cons _ t,h=>.cons h t
 | _,_,j+1,_,_,.cons a t,h=>.cons a (lU j t h)
def Kr(h1:r.key ≠ "fork")(h2:r.ways≠[])(q:Int):iO r.vals none (some (-1))++[V.int q]=(r.cU λ_=>q).vals/\¬(HT.dz r.vals.length 0 none=0/\HT.dz r.vals.length r.vals.length (some (-1))=r.vals.length):=by
 cases r
 case fork=>exact absurd rfl h1
 case back=>exact absurd rfl h2
 all_goals exact⟨rfl,by simp only[Row.vals,Row.rest,eB,mW];decide⟩
def SM{f:Int->Int}(h:r.pl):(r.cU f).pl:=by cases r<;>exact h
def vZ{α:Type}{l:List α}{x:α}{n:Nat}(hn:l.length=n+1)(hx:l[n]?=some x):nE l (-1)=some x:=by unfold nE EM;rw[if_neg (by decide),if_pos (by omega)];show l[((-1:Int)+(l.length:Int)).toNat]?=some x;rw[show((-1:Int)+(l.length:Int)).toNat=n by omega];exact hx
section
variable {P:Program}{w:World}{K:aD}{mg:Str->Option Value}{base:Heap}
structure Xn (rs:List Row) (n p:Nat):Prop where
 len:rs.length=n
 ok:∀r∈rs,r.ok n
 pl:∀r∈rs,r.pl
 lk:Lk rs p
def SO:Sp:=λvs H Q _=>∃(a:Addr)(c:Int)(us:List V)(rs:List Row)(n:Nat)(H0:Hp),vs=[.ref a,.int c]/\aB H0 H/\H0 a=none/\H a=some (.lst us)/\Rows H us rs/\n<=1000/\0<n/\Xn rs n 0 /\
 ∀us' rs' p H',aB H0 H'->H' a=some (.lst us')->Rows H' us' rs'->Xn rs' n p->Q (.ref a) H'
def Np(T:Txt w K mg):b8 P w K mg base gS 1 T.Mw.f T.Mw.d ["_law_rows", "_law_cell"] SO:=by
 refine T.Mw.F.ok w4 (λvs H Q E h=>?_) (λcdv A outer s H vs Q E hr h=>?_)
 .obtain⟨a,c,us,rs,n,H0,rfl,_⟩:=h;rfl
 obtain⟨a,c,us,rs,n,H0,rfl,s0,fa,ha,rows,hn,hn0,hP,q⟩:=h;refine⟨_,(ak (eK bY rfl (EE rfl T.eW (aa af (aa (ay iG (aT bI rfl T.eS BT.eO (aa (pv 0) ai)) af) ai))) (aX (i:=2) w4.nd rfl (ao rfl))
 (ak (aE (i:=1) w4.nd rfl (ao rfl) (ay bU (pv 1) af))
 (au (cN (PW.pt (kj (aG dU (aS cO (aS bL (pv 0) (ay iG (pv 2) af) (λ_ _=>rfl)) af (λ_ _=>rfl)) bA (aM _)) (kj (aG Ud (aS cO (aS bL (pv 0) (pv 2) (λ_ _=>rfl)) af (λ_ _=>rfl)) bA (aM _)) (ju (aG yh (ay bh (pv 1) af) af (aM _))))))
 (ak (i9 (aS bL (dM (aa (bB (aa bA (aa (aS cO (aS bL (pv 0) (ay iG (pv 2) af) (λ_ _=>rfl)) af (λ_ _=>rfl)) (aa (pv 2) (aa (ay aZ (pv 2) af) ai))))) (aa (bB (aa bA (aa (aS cO (aS bL (pv 0) (ay iG (pv 2) af) (λ_ _=>rfl)) af (λ_ _=>rfl)) (aa (ay aZ (pv 2) af) (aa (pv 2) ai))))) ai))) (ay bh (pv 2) af) (λ_ _=>rfl)) (ko (pv 0) (ay iG (pv 2) af) set_list))
 (au (i9 (ay jv (c6 kq (aS bL (pv 0) (pv 2) (λ_ _=>rfl)) eV (dW (lB jb af))) (bB (aa (ay bh (ay bU (pv 1) af) (aT bI rfl T.eS BT.eO (aa (pv 0) ai))) ai))) (ko (pv 0) (pv 2) set_list))))
 bw))))
 (au (aJ (pv 0)))),?_⟩
 have qu:=rows.length;have hrl:=hP.len;sleep 53;sleep 6;refine qH (λi σ' H'=>∃c x us rs,σ'=[some (.ref a),some (.int c),x]/\aB H0 H'/\H' a=some (.lst us)/\Rows H' us rs/\Xn rs n (i+1)) ⟨c,_,us,rs,rfl,s0,ha,rows,hP.len,hP.ok,hP.pl,hP.lk.next⟩ ?_ ?_
 .rintro i σ' H1 hi ⟨c,x,us,rs,rfl,s1,ha1,gC,h1⟩;have afl:=gC.length;have abN:=h1.len;have hi:i+2<n:=by omega
  walk_at "go";have skip:Xn rs n (i+1+1):=⟨h1.len,h1.ok,h1.pl,h1.lk.next⟩;obtain⟨r1,hr1⟩:∃r,rs[i]?=some r:=⟨_,fN (by omega)⟩;obtain⟨r2,hr2⟩:∃r,rs[i+1]?=some r:=⟨_,fN (by omega)⟩;obtain⟨ra,hat,tG⟩:=oX gC hr1;obtain⟨rb,Y3,hrb⟩:=oX gC hr2;have abO:=Y3;have abP:=hat;rw[show((i:Nat):Int)=1+(i:Int)-1 by omega] at hat;rw[show((i+1:Nat):Int)=1+(i:Int) by omega] at Y3;refine cF (bE.of ha1) hat ?_;by_cases hk1:r1.key = "fork"
  case neg =>
   walk_at "go";sleep 244
  walk_at "go";refine cF (bE.of ha1) Y3 ?_;by_cases hk2:r2.key = "fork"
  case pos =>
   walk_at "go";sleep 244
  walk_at "go";rename_i hc3;obtain⟨b,x1,y1,rfl⟩:∃b x y,r1=.fork b x y:=by
   cases r1
   case fork b x y=>exact⟨b,x,y,rfl⟩
   all_goals exact absurd hk1 (by simp only[Row.key];decide)
  have tG:H1 ra=some (.tup [.str "fork", .int b,.int x1,.int y1]):=tG;refine cF (bE.of ha1) hat ?_;walk_at "go";rename_i t1 H2 n2;refine cF (bE.of (n2.keep ha1)) hat ?_;have abQ:=n2.keep tG;walk_at "go";rename_i t2 H3 n3 l H4 n4;have ht1:=n4.keep (n3.keep n2.self);have K5:=n4.keep n3.self;obtain⟨tn,f,htn,hf,fok,fpl,w1,w2⟩:∃(tn:Addr)(f:Row),nE [V.ref t1,V.ref t2] ((1+(i:Int)) % 2)=some (.ref tn)/\H4 tn=some (.tup f.vals)/\f.ok n/\f.pl/\((i+1:Nat):Int)∈f.ways/\((i+2:Nat):Int)∈f.ways:=by
   have hb:fm b:=(h1.ok _ (fz hr1)).1;have o1:jQ n (1+(i:Int)):=⟨by omega,by omega⟩;have o2:jQ n (1+(i:Int)+1):=⟨by omega,by omega⟩;rcases(by omega:(1+(i:Int)) % 2=0\/(1+(i:Int)) % 2=1) with e|e
   .exact⟨t1,.fork b _ _,by rw[e];rfl,ht1,⟨hb,o1,o2⟩,trivial,aI.mpr (.inl (by omega)),c9 _ (aA.mpr (by omega))⟩
   .exact⟨t2,.fork b _ _,by rw[e];rfl,K5,⟨hb,o2,o1⟩,trivial,c9 _ (aA.mpr (by omega)),aI.mpr (.inl (by omega))⟩
  have s4:=(n2.same.trans n3.same).trans n4.same;have Wi:=s4 _ _ ha1;have j7:=gC.same s4;refine cF (bE.of n4.self) htn ?_;clear n2 n3 n4 ht1 K5 abQ;walk_at "go";refine jM (j:=i) Wi (by rw[show 1+(i:Int)-1=i by omega,lM (by omega) (by omega)];rfl) ?_;intro H5 p5;have tt:=eT Wi p5;have gA:Rows H5 (us.set i (.ref tn)) (rs.set i f):=lU i (j7.ji tt) ⟨tn,rfl,tt _ _ hf⟩;have s5:=p5.same (s1.trans s4) fa;have Nl:=p5.self;have hr5:(rs.set i f)[i+1]?=some r2:=by rw[pF (by omega)];exact hr2
  obtain⟨rc,hct,hrc⟩:=oX gA hr5;rw[show((i+1:Nat):Int)=1+(i:Int) by omega] at hct;have hl5:(us.set i (.ref tn)).length=n:=by rw[eE];omega
  obtain⟨cl,cw⟩:=Kr hk2 (λz=>by have:=h1.lk.b (i+1) r2 (by omega) (by omega) hr2;rw[z] at this;exact nomatch this) (c / 5 / 3 % (n:Int));have hq:=bH (a:=c / 5 / 3) (b:=(n:Int)) (by omega);clear tG hrb hat Y3 abP abO p5 j7 Wi;walk_at "go";refine cF (bE.of Nl) hct ?_;walk_at "go";refine iI (cM.of hrc) cw ?_;intro t6 H6 n6;have ha6:=n6.keep Nl;walk_at "go";rename_i t7 H7 n7;rw[hl5] at n7;have hcl:(iO r2.vals none (some (-1))).length+1=(r2.cU λ_=>c / 5 / 3 % (n:Int)).vals.length/\iO r2.vals none (some (-1))≠[]:=by rw[<- cl,aR];refine⟨rfl,λz=>?_⟩;rw[z] at cl;cases r2<;>cases cl
  have hvl:(r2.cU λ_=>c / 5 / 3 % (n:Int)).vals.length<=7:=by cases r2<;>exact dY rfl
  refine fh (cM.of (n7.keep n6.self)) (cM.of n7.self) hcl.2 (by simp) (by simp only[eB,mW];omega) ?_;intro t8 H8 n8;rw[cl] at n8;have s8:=(n6.same.trans n7.same).trans n8.same;have ha8:=s8 _ _ Nl;have Al:=gA.same s8;have h8:=n8.self;clear n6 n7 n8 ha6;walk_at "go";refine jM (j:=i+1) ha8 (by rw[lM (by omega) (by omega)];exact congrArg some (by omega)) ?_;intro H9 p9;have tt9:=eT ha8 p9;walk_at "go";refine⟨_,_,_,(rs.set i f).set (i+1) (r2.cU λ_=>c / 5 / 3 % (n:Int)),rfl,p9.same (s5.trans s8) fa,p9.self,lU _ (Al.ji tt9) ⟨t8,rfl,tt9 _ _ h8⟩,⟨by rw[eE,eE];exact abN,λr hr=>?_,λr hr=>?_,h1.lk.abM w1 w2⟩⟩
  .rcases rS hr with hr|rfl
   .rcases rS hr with hr|rfl
    .exact h1.ok r hr
    .exact fok
   .exact pq (h1.ok r2 (fz hr2)) λ_ _=>hq
  .rcases rS hr with hr|rfl
   .rcases rS hr with hr|rfl
    .exact h1.pl r hr
    .exact fpl
   .exact SM (h1.pl r2 (fz hr2))
  .sleep 244
 .rintro σ' H1 ⟨c,x,us,rs,rfl,s1,ha1,gC,h1⟩;walk_at "go";exact q us rs _ H1 s1 ha1 gC h1
def Nq(K:aD):Sp:=λvs H Q _=>∃(a:Addr)(ns:List Int)(n:Nat)(m:Int),vs=[.ref a,.int n,.int m]/\bE K H a (ns.map V.int)/\ns.length<=63/\0<n/\n<=1000/\0<m/\m<=1000 /\
 ∀q H' us rs,aB H H'->H' q=some (.lst us)->Rows H' us rs->rs.length=n->(∀r∈rs,Row.ok n r)->(∀r∈rs,r.pl)->(∀j,j<n->La rs j)->Q (.ref q) H'
def uN(T:Txt w K mg):b8 P w K mg base gS 4 T.kK.f T.kK.d ["_law_script", "_law_many", "_law_boxes"] (Nq K):=by
 refine T.kK.F.ok f7 (λvs H Q E h=>?_) (λcdv A outer s H vs Q E hr h=>?_)
 .obtain⟨a,ns,n,y,rfl,_⟩:=h;rfl
 obtain⟨a,ns,n,m,rfl,hS,hn,h0,h1,hm0,hm1,q⟩:=h;refine⟨_,(ak (aE (i:=3) f7.nd rfl (bQ rfl) (aP T.pool (DL T) hr (aa (pv 0) (aa (pv 2) ai))))
 (ak (aE (i:=4) f7.nd rfl (bQ rfl) (aP T.numbers (tE T) hr (aa (pv 0) (aa (pv 1) ai))))
 (ak (aE (i:=5) f7.nd rfl (bQ rfl) (ay bh (ay bU (aP T.ie (gr T) hr (aa (pv 0) (aa af ai))) af) af))
 (ak (jx (i:=6) f7.nd rfl (ao rfl) (bD.caps (x := "_law_p") (fr:=["_law_many", "_law_pool_here", "_law_numbers_here", "_law_way"]) (ix:=[1,3,4,5]) (nm:=["_law_way", "_law_pool_here", "_law_numbers_here", "_law_many"]) rfl rfl (by decide +kernel) rfl (by decide +kernel) rfl (by decide +kernel) ⟨rfl,⟨rfl,⟨rfl,⟨rfl,trivial⟩⟩⟩⟩ rfl (by decide +kernel) rfl ⟨⟨rfl,rfl,rfl⟩,⟨⟨rfl,rfl,rfl⟩,⟨⟨rfl,rfl,rfl⟩,⟨⟨rfl,rfl,rfl⟩,trivial⟩⟩⟩⟩) (dj rfl T.eW (aa (pv 1) ai)) (λ_ _ _ _=>cQ) (λ_ _ _ _=>(aP T.mw (xS T) hr (aa (aS (gI (K:=K) rfl) (pv 3) (pv 0) (λ_ _=>rfl)) (aa (pv 0) (aa (pv 1) (aa (pv 2) (aa (pv 4) ai))))))))
 (au (aJ (aP T.Mw (Np T) hr (aa (pv 6) (aa (aS bL (pv 4) (lB jb af) (λ_ _=>rfl)) ai))))))))),?_⟩
 sleep 145;sleep 6;refine⟨a,ns,m,rfl,hS,hm0,hm1,λp H1 ks s1 hp hk0 hk1 hkb=>?_⟩;sleep 152;refine⟨a,ns,0,rfl,(s1.trans s2).seq hS,by decide,λy=>?_⟩;walk_at "go";refine ia (λi ys H'=>aB H2 H'/\∃rs:List Row,Rows H' ys rs/\rs.length=i/\(∀r∈rs,r.ok n)/\(∀r∈rs,r.pl)/\∀(j:Nat)(r:Row),j+1<n->rs[j]?=some r->((j+1:Nat):Int)∈r.ways) ⟨aB.refl _,[],.nil,rfl,(λr h=>nomatch h),(λr h=>nomatch h),λj r _ h=>nomatch h⟩ ?_ ?_
 .rintro i ys H' hi ⟨sm,rs,hrs,hlen,hok,hpl,hlk⟩;sleep 67;refine⟨v,_,_,_,p,ks,rfl,by omega,by omega,by omega,sm _ _ hp2,hk0,hk1,hkb,λt H3 r s3 ht hr hp hl=>?_⟩;refine⟨sm.trans s3,rs++[r],cI (hrs.same s3) ⟨t,rfl,ht⟩,by simp[hlen],λr' h=>?_,λr' h=>?_,λj r' hj h=>?_⟩
  .sleep 220
  .rcases aO.mp h with h|h
   .exact hpl r' h
   .rw[aA.mp h];exact hp
  .rcases aY j rs.length with hj'|hj'
   .rw[i6 hj'] at h;exact hlk j r' hj h
   .rw[iD hj'] at h;sleep 68;have:=hl (by omega);rw[show 0+(j:Int)+1=((j+1:Nat):Int) by omega] at this;exact this
 .rintro ys H' ⟨sm,rs,hrs,hlen,hok,hpl,hlk⟩ g H3 n3;have hc3:=n3.keep (sm _ _ hc);have JQ:aB H H':=(s1.trans s2).trans sm;have hPl:Xn rs n 0:=⟨by omega,hok,hpl,λj r hj hr=>.inl (hlk j r (by omega) hr),λj r _ hj hr=>hlk j r (by omega) hr⟩;walk_at "go";refine cF (bE.of hc3) (v:=.int (cs.getD (n-1) 0)) (vZ (n:=n-1) (by rw[av];omega) (by rw[bz,fN (by omega),mG,fN (by omega)];rfl)) ?_;walk_at "go";exact⟨g,_,ys,rs,n,H',rfl,n3.same,n3.1,n3.self,hrs.same n3.same,h1,h0,hPl,λus' rs' p' H4 s4 Tt j7 P4=>q g H4 us' rs' (JQ.trans s4) Tt j7 P4.len P4.ok P4.pl λj hj=>(P4.lk.rch j (by rw[P4.len];exact hj)).1⟩
end
def Lt(rs:List Row):Prop:=iV (bS rs rs.length) (dH rs)/\∀k r t,rs[k]?=some r->t∈cz rs k->iL rs r t (dH rs ((k:Int),t))
def Tu(rs:List Row):Prop:=Lt rs->∃m,dD rs=some m
def En(hne:rs≠[])(hf:∀(p:Nat)(r:Row),rs[p]?=some r->∀q∈r.ways,(p:Int)<q):Tu rs:=λ⟨AZ,o7⟩=>by obtain⟨F,h⟩:=Nd AZ o7 hf;obtain⟨m,e,_⟩:=qz hne h;exact⟨m,e⟩
def Ks(h0:0<rs.length)(hok:∀r∈rs,r.ok rs.length)(hpl:∀r∈rs,r.pl)(Tr:∀p,p<rs.length->La rs p):Tu (bX rs rs.length)/\bX rs rs.length≠[]:=by
 have hne:bX rs rs.length≠[]:=λz=>by have h1:=d8 (rs:=rs) (p:=rs.length) (az _);rw[z] at h1;have:=o9 (rs:=rs) h0;have e:([]:List Row).length=0:=rfl;omega
 refine⟨λ⟨AZ,o7⟩=>?_,hne⟩;obtain⟨F,h⟩:=Kh hok hpl Tr AZ o7;obtain⟨m,e,_⟩:=qz hne h;exact⟨m,e⟩
section
variable {P:Program}{w:World}{K:aD}{mg:Str->Option Value}{base:Heap}
def Ku:Sp:=λvs H Q _=>∃(c:Addr)(us:List V)(rs:List Row),vs=[.ref c]/\H c=some (.lst us)/\Rows H us rs/\(∀r∈rs,r.ok rs.length)/\rs.length<=200/\rs≠[]/\∀H',aB H H'->Lt rs->Q (oV (dD rs)) H'
def mE(T:Txt w K mg):b8 P w K mg base gS 7 T.delay.f T.delay.d ["code"] Ku :=
 (Ab (P:=P) (w:=w) (base:=base) T).imp λvs H Q E ⟨c,us,rs,h1,h2,h3,h4,h5,h6,q⟩=>⟨c,us,rs,h1,h2,h3,h4,h5,h6,λl1 l2=>⟨λH' s no=>by have:=q H' s ⟨l1,l2⟩;rw[vX no] at this;exact this,λm H' s d=>by have:=q H' s ⟨l1,l2⟩;rw[qb d] at this;exact this⟩⟩
def SQ(K:aD):Sp:=λvs H Q _=>∃(a:Addr)(ns:List Int),vs=[.ref a]/\bE K H a (ns.map V.int)/\ns.length<=63 /\
 ∀q H' us rs,aB H H'->H' q=some (.lst us)->Rows H' us rs->xO rs 200->Tu rs->Q (.ref q) H'
def Nr(T:Txt w K mg):b8 P w K mg base gS 8 T.Mx.f T.Mx.d ["_law_script"] (SQ K):=by
 refine T.Mx.F.ok qP (λvs H Q E h=>?_) (λcdv A outer s H vs Q E hr h=>?_)
 .obtain⟨a,ns,rfl,_⟩:=h;rfl
 obtain⟨a,ns,rfl,hS,hn,q⟩:=h;refine⟨_,(ak (aE (i:=1) qP.nd rfl (ao rfl) (aP T.mixed (oU T) hr (aa (aP T.ie (gr T) hr (aa (pv 0) (aa af ai))) (aa af ai))))
 (ak (cN (aG yh (ay bh (pv 1) af) af (aM _))
 (au (aJ (aP T.xj (F7 T) hr (aa (aP T.kK (uN T) hr (aa (pv 0) (aa (ay aZ af (ay bh (ay bU (pv 1) af) af)) (aa af ai)))) ai))))
 bw)
 (ak (aE (i:=2) qP.nd rfl (ao rfl) (aP T.code (Ak T) hr (aa (pv 0) (aa (ay aZ af (ay bh (ay bU (pv 1) af) af)) (aa af ai)))))
 (iQ (cN (PW.pt (rY (aG CY (aP T.delay (mE T) hr (aa (pv 2) ai)) nc (aM _)) (pL (aG dU (ay bh (ay bU (pv 1) af) af) af (aM _)))))
 (au (aE (i:=2) qP.nd rfl (ao rfl) (aP T.code (Ak T) hr (aa (pv 0) (aa (ay aZ af (ay bh (ay bU (pv 1) af) af)) (aa (ay bh (ay bU (pv 1) af) af) ai))))))
 bw)
 (au (aJ (pv 2))))))),?_⟩
 sleep 53;sleep 6;refine⟨a,ns,0,rfl,hS,by decide,λc0=>?_⟩;walk_at "go";refine⟨_,8,rfl,λc _ _=>?_⟩;have b3:=bH (a:=c / 3) (b:=3) (by decide);have b6:=bH (a:=c / 3) (b:=6) (by decide);have b2:=bH (a:=c / 36) (b:=2) (by decide);walk_at "go"
 .have eN:2+c / 3 % 3=((2+c / 3 % 3).toNat:Int):=by omega
  rw[eN];refine⟨a,ns,_,2,rfl,hS,hn,by omega,by omega,by decide,by decide,λl H1 us rs s1 hl rows hle hok hpl Tr=>?_⟩;rw[<- hle] at hok Tr;walk_at "go";refine⟨l,us,rs,rfl,hl,rows,hok,by omega,λg vs H2 s2 fg hg gB=>?_⟩;obtain⟨hh,hne⟩:=Ks (by omega) hok hpl Tr;have:=qd rs rs.length;have:=d8 (rs:=rs) (p:=rs.length) (az _);walk_at "go";exact q g H2 vs _ (s1.trans s2) hg gB ⟨Eh hok,hne,by omega⟩ hh
 .have eN:3+c / 3 % 6=((3+c / 3 % 6).toNat:Int):=by omega
  rw[eN];refine⟨a,ns,_,2,rfl,hS,hn,by omega,by omega,λl H1 us rs s1 hl rows hle hok _=>?_⟩;rw[<- hle] at hok;have hne:rs≠[]:=λz=>by rw[z] at hle;have e:([]:List Row).length=0:=rfl;omega
  walk_at "go";refine qj (λσ' H'=>∃l us rs,σ'=[some (.ref a),some (.int c),some (.ref l)]/\aB H H'/\H' l=some (.lst us)/\Rows H' us rs/\xO rs 200/\Tu rs) ?_ ?_
  .walk_at "go";refine⟨l,us,rs,rfl,hl,rows,hok,by omega,hne,λH2 s2 lt=>?_⟩;have again:∀{Q':V->Hp->Prop}{E':XK},(∀q H' us rs,aB H H'->H' q=some (.lst us)->Rows H' us rs->xO rs 200->Tu rs->Q' (.ref q) H')->Em K [.ref a,.int (3+c / 3 % 6),.int (c / 36 % 2)] H2 Q' E':=λq'=>by
    rw[eN];refine⟨a,ns,_,_,rfl,(s1.trans s2).seq hS,hn,by omega,by omega,λl3 H3 SR Pb s3 hl3 fM Xo Xp Lb=>?_⟩;rw[<- Xo] at Xp;have Xq:Pb≠[]:=λz=>by rw[z] at Xo;have e:([]:List Row).length=0:=rfl;omega
    exact q' l3 H3 SR Pb ((s1.trans s2).trans s3) hl3 fM ⟨Xp,Xq,by omega⟩ (En Xq (Lb (by omega)))
   cases hd:dD rs with
   | none =>
    rw[show oV none=.cX from rfl];walk_at "go";sleep 149
   | some m =>
    rw[show oV (some m)=.int m from rfl];walk_at "go"
    .sleep 149
    .exact⟨l,us,rs,rfl,s1.trans s2,s2 _ _ hl,rows.same s2,⟨hok,hne,by omega⟩,λ_=>⟨m,hd⟩⟩
  .rintro _ H3 ⟨l3,SR,Pb,rfl,s3,hl3,fM,t3,h3⟩;walk_at "go";exact q l3 H3 SR Pb s3 hl3 fM t3 h3
def Nt(K:aD):Sp:=λvs H Q _=>∃(a:Addr)(p:Int)(r:Row),vs=[.ref a,.int p]/\H a=some (.tup r.vals)/\∀t H',aB H H'->H' t=some (.tup (r.cU (xN p)).vals)->Q (.ref t) H'
def SS(p z:Int):z-(if decide (z>p)=true then 1 else 0)=xN p z:=by
 unfold xN;by_cases h:p<z
 .rw[if_pos h,if_pos (decide_eq_true h)]
 .rw[if_neg h,if_neg (by simpa using h)];omega
def Row.pre:Row->List V
 | .num d k v _=>[.str "num", .int d,.int k,.int v]|.copy d k i _=>[.str "copy", .int d,.int k,.int i]|.op d s k i j _=>[.str "op", .int d,.str s,.int k,.int i,.int j]
 | .out i _=>[.str "out", .int i]|.fork i _ _=>[.str "fork", .int i]|.look i _=>[.str "look", .int i]|.mark _=>[.str "mark"]|.back i=>[.str "back", .int i]
def Kv(r:Row):r.vals=r.pre++r.ways.map V.int:=by cases r<;>rfl
def Eo(f:Int->Int)(r:Row):(r.cU f).vals=r.pre++(r.ways.map f).map V.int:=by cases r<;>rfl
def Kw(r:Row):1<=r.pre.length/\r.pre.length<=6:=by cases r<;>exact⟨by simp[Row.pre],by simp[Row.pre]⟩
def F8(r:Row)(h:¬r.key = "back"):(-1-if decide (r.key = "fork")=true then 1 else 0:Int) = - (r.ways.length:Int)/\0<r.ways.length:=by
 cases r
 case back=>exact absurd rfl h
 all_goals exact⟨rfl,by simp[Row.ways]⟩
def Ep{n:Nat}(h0:0<k)(h:k<=n)(d:Nat):HT.dz n d (some (-(k:Int)))=n-k:=by
 simp only[HT.dz];split
 .omega
 .omega
def Nu(xs ys:List V)(h:0<ys.length):iO (xs++ys) (some (-(ys.length:Int))) none=ys:=by unfold iO;rw[Ep h (by rw[aR];omega),HT.yk,aR];rw[show xs.length+ys.length-ys.length=xs.length by omega,List.drop_left,show xs.length+ys.length-xs.length=ys.length by omega,cH]
def SV(xs ys:List V):iO (xs++ys) none (some (xs.length:Int))=xs:=by
 unfold iO;have e:HT.dz (xs++ys).length (xs++ys).length (some (xs.length:Int))=xs.length:=by simp[HT.dz];omega
 have e0:HT.dz (xs++ys).length 0 none=0:=rfl;rw[e,e0];simp
def mvV(p:Int):V->V
 | .int z=>.int (xN p z)|v=>v
def Kx(T:Txt w K mg):b8 P w K mg base gS 1 T.moved.f T.moved.d ["_law_row_here", "_law_place"] (Nt K):=by
 refine T.moved.F.ok zE (λvs H Q E h=>?_) (λcdv A outer s H vs Q E hr h=>?_)
 .obtain⟨a,p,r,rfl,_⟩:=h;rfl
 obtain⟨a,p,r,rfl,ha,q⟩:=h;refine⟨_,(ak (cN (aG dU (aS cO (pv 0) af (λ_ _=>rfl)) bA (aM _))
 (au (aJ (pv 0)))
 bw)
 (ak (jx (i:=2) zE.nd rfl (ao rfl) (bD.caps (x := "_law_q") (fr:=["_law_place"]) (ix:=[1]) (nm:=["_law_place"]) rfl rfl (by decide +kernel) rfl (by decide +kernel) rfl (by decide +kernel) ⟨rfl,trivial⟩ rfl (by decide +kernel) rfl ⟨⟨rfl,rfl,rfl⟩,trivial⟩) (GJ (c6 kq (pv 0) (dW (ay iG (lB jb af) (dw u5 rfl T.OD BT.NY (aa (gG dU (aS cO (pv 0) af (λ_ _=>rfl)) bA (aM _)) ai)))) eV)) (λ_ _ _ _=>cQ) (λ_ _ _ _=>(ay iG (pv 0) (dw u5 rfl T.OD BT.NY (aa (gG yh (pv 0) (pv 1) (aM _)) ai)))))
 (au (aJ (ay jv (c6 kq (pv 0) eV (dW (ay iG (aT bI rfl T.eS BT.eO (aa (pv 0) ai)) (aT bI rfl T.eS BT.eO (aa (pv 2) ai))))) (dw u9 rfl T.DI BT.CQ (aa (pv 2) ai))))))),?_⟩
 sleep 53;walk_at "start";by_cases hk:r.key = "back"
 .walk_at "go";cases r
  case back=>exact q _ _ (aB.refl _) ha
  all_goals exact absurd hk (by simp only[Row.key];decide)
 obtain⟨e1,hw0⟩:=F8 r hk;have hw2:=Row.oS r;have Xr:=Kw r;have hv:=Kv r;have hwl:(r.ways.map V.int).length=r.ways.length:=av _;have c1:=Nu r.pre (r.ways.map V.int) (by omega);have c2:=SV r.pre (r.ways.map V.int);rw[hwl] at c1;walk_at "go";rw[e1];have ha':=ha;rw[hv] at ha';refine iI (cM.of ha') ?_ ?_
 .rw[Ep hw0 (by rw[aR];omega),aR];omega
 intro t1 H1 n1;rw[c1] at n1;walk_at "go";refine Rc (mvV p) (cM.of n1.self) (by omega) ?_ ?_
 .intro x hx Q h;obtain⟨z,hz,rfl⟩:=aF.mp hx;walk_at "go";rw[SS];exact h
 intro l2 H2 n2;rw[show(r.ways.map V.int).map (mvV p)=(r.ways.map (xN p)).map V.int by rw[fU,fU];rfl] at n2;have hl2:((r.ways.map (xN p)).map V.int).length=r.ways.length:=by rw[av,av]
 have ha2:H2 a=some (.tup (r.pre++r.ways.map V.int)):=n2.keep (n1.keep ha');have s01:=n1.same;clear ha n1;walk_at "go";rw[hl2,aR,hwl,show((r.pre.length+r.ways.length:Nat):Int)-(r.ways.length:Int)=(r.pre.length:Int) by omega];refine iI (cM.of ha2) ?_ ?_
 .rw[aR,hwl];intro h;have:=h.2;rw[HT.qG] at this;omega
 intro t3 H3 n3;rw[c2] at n3;sleep 172;refine fh (cM.of (n4.keep n3.self)) (cM.of n4.self) (by intro h;rw[h] at Xr;simp at Xr) (by intro h;rw[h] at hl2;simp at hl2;omega) (by omega) ?_;intro t5 H5 n5;exact q t5 H5 ((((s01.trans n2.same).trans n3.same).trans n4.same).trans n5.same) (by rw[n5.self,Eo])
def uO(T:Txt w K mg):b8 P w K mg base gS 1 T.kL.f T.kL.d ["_law_code_here", "_law_p"] (Ei K):=by
 refine T.kL.F.ok uK (λvs H Q E h=>?_) (λcdv A outer s H vs Q E hr h=>?_)
 .obtain⟨c,p,us,rs,r,rfl,_⟩:=h;rfl
 obtain⟨c,p,us,rs,r,rfl,hc,hrs,hr',q⟩:=h;refine⟨_,(au (aJ (A2 (NH (gG dU (aS cO (aS bL (pv 0) (pv 1) (λ_ _=>rfl)) af (λ_ _=>rfl)) bA (aM _)) (rZ (gG dU (aS cO (aS bL (pv 0) (pv 1) (λ_ _=>rfl)) af (λ_ _=>rfl)) bA (aM _)))) (rZ (gG dU (aS cO (aS bL (pv 0) (pv 1) (λ_ _=>rfl)) (lB jb af) (λ_ _=>rfl)) (ay aZ (pv 1) af) (aM _)))))),?_⟩;sleep 63;sleep 195;sleep 6;sleep 115
 all_goals refine cF (bE.of hc) hat ?_
 all_goals walk_at "go"
 all_goals try(refine cF (bE.of hc) hat ?_;walk_at "go")
 all_goals exact q _ (aB.refl _)
def lV(T:Txt w K mg):b8 P w K mg base gS 2 T.iz.f T.iz.d ["_law_code_here", "_law_p"] (vY K):=by
 refine T.iz.F.ok sZ (λvs H Q E h=>?_) (λcdv A outer s H vs Q E hr h=>?_)
 .obtain⟨c,p,us,rs,rfl,_⟩:=h;rfl
 obtain⟨c,p,us,rs,rfl,hc,hrs,hl,hok,q⟩:=h;refine⟨_,(au (aJ (cP (bD.caps (x := "_law_one") (fr:=["_law_p"]) (ix:=[1]) (nm:=["_law_p"]) rfl rfl (by decide +kernel) rfl (by decide +kernel) rfl (by decide +kernel) ⟨rfl,trivial⟩ rfl (by decide +kernel) rfl ⟨⟨rfl,rfl,rfl⟩,trivial⟩) (cJ (ay sj (c6 kr (pv 0) eV (dW (pv 1))) (c6 kr (pv 0) (dW (ay aZ (pv 1) af)) eV))) (λ_ _ _ _=>cQ) (λ_ _ _ _=>(aP T.moved (Kx T) hr (aa (pv 0) (aa (pv 1) ai))))))),?_⟩;sleep 63;sleep 212;sleep 223;sleep 6;rename_i l3 H3 n3 l4 H4 n4 l5 H5 n5;have Xc:aB H H5:=by walk_at "same"
 have gA:=hrs.same Xc;refine DN (rs:=qE rs rs.length none (some p)++qE rs rs.length (some (p+1)) none) (Row.cU (xN p)) (bE.of n5.self) ?_ (by rw[aR];omega) ?_ ?_
 .sleep 140
 .intro r hr' ra H6 s6 tG Q h;walk_at "go";exact⟨ra,_,r,rfl,tG,λt H7 s7 ht=>h t H7 s7 ht⟩
 .sleep 243
def Xs:Sp:=λvs H Q _=>∃(c:Addr)(us:List V)(rs:List Row)(n:Int),vs=[.ref c,.int n]/\H c=some (.lst us)/\Rows H us rs/\xO rs 200/\qf n rs /\
 ∀(g:Addr)(vs:List V)(H':Hp),aB H H'->H' g=some (.lst vs)->Rows H' vs (e8 n rs.length rs)->Q (.ref g) H'
def SW(T:Txt w K mg):b8 P w K mg base gS 8 T.due.f T.due.d ["_law_code_here", "_law_number"] Xs:=by
 refine T.due.F.ok lJ (λvs H Q E h=>?_) (λcdv A outer s H vs Q E hr h=>?_)
 .sleep 263
 obtain⟨c,us,rs,n,rfl,hc,rows,ht,Xd,q⟩:=h;refine⟨_,(ak (aE (i:=2) lJ.nd rfl (ao rfl) (ay aZ (aT bI rfl T.eS BT.eO (aa (pv 0) ai)) af))
 (ak (jV bY (aG iy (aT bI rfl T.eS BT.eO (aa (pv 0) ai)) (pv 2) (aM _))
 (ak (aE (i:=2) lJ.nd rfl (ao rfl) (aT bI rfl T.eS BT.eO (aa (pv 0) ai)))
 (ak (aE (i:=3) lJ.nd rfl (ao rfl) af)
 (au (jV bY (aG iy (pv 3) (aT bI rfl T.eS BT.eO (aa (pv 0) ai)) (aM _))
 (ak (aE (i:=4) lJ.nd rfl (ao rfl) nc)
 (iQ (cN (rX (aP T.kL (uO T) hr (aa (pv 0) (aa (pv 3) ai))))
 (au (aE (i:=4) lJ.nd rfl (ao rfl) (aP T.delay (qg T) hr (aa (aP T.iz (lV T) hr (aa (pv 0) (aa (pv 3) ai))) ai))))
 bw)
 (au (Hr (PW.pt (kj (aG yy (pv 4) nc (aM _)) (ju (aG CF (pv 4) (pv 1) (aM _)))))
 (au (aE (i:=0) lJ.nd rfl (ao rfl) (aP T.iz (lV T) hr (aa (pv 0) (aa (pv 3) ai)))))
 (au (aE (i:=3) lJ.nd rfl (ao rfl) (ay aZ (pv 3) af))))))))))))
 (au (aJ (pv 0))))),?_⟩
 have qu:=rows.length;sleep 88;sleep 6;refine lZ (λk σ' H'=>∃l vs ls m x y,σ'=[some (.ref l),some (.int n),some (.int m),x,y]/\aB H H'/\H' l=some (.lst vs)/\Rows H' vs ls/\xO ls 200/\qf n ls/\(((ls.length:Int)<m/\e8 n k ls=e8 n rs.length rs/\ls.length<=k)\/(¬(ls.length:Int)<m/\ls=e8 n rs.length rs))) ?_ ?_
 .exact⟨rs.length,c,us,rs,_,_,_,rfl,aB.refl _,hc,rows,ht,Xd,.inl ⟨by omega,rfl,az _⟩⟩
 clear qu;rintro k σ' H1 ⟨l,vs,ls,m,x,y,rfl,s1,hl1,gC,t1,sn1,alt⟩;have hvl:=gC.length;have hln:=t1.len;walk_at "go"
 .rename_i hlt;obtain⟨_,Gy,hlk⟩:(ls.length:Int)<m/\e8 n k ls=e8 n rs.length rs/\ls.length<=k:=by
   rcases alt with h|⟨h,_⟩
   .exact h
   .exact absurd (by omega) h
  refine lZ (λk' σ' H'=>∃l vs rs' p y,σ'=[some (.ref l),some (.int n),some (.int (ls.length:Int)),some (.int ((p:Nat):Int)),y]/\aB H H'/\H' l=some (.lst vs)/\Rows H' vs rs'/\xO rs' 200/\p<=rs'.length/\Ah n (rs'.length-p) rs' p=dI n ls/\k'=rs'.length-p) ?_ ?_
  .exact⟨_,l,vs,ls,0,_,by rw[hvl];rfl,s1,hl1,gC,t1,aH _,rfl,rfl⟩
  clear hlt alt;rintro k' σ' H2 ⟨l,vs,rs',p,y,rfl,s2,hl2,gB,t2,hp2,hg,rfl⟩;have Xk:=gB.length;have afv:=t2.len;walk_at "go"
  .sleep 162;obtain⟨j,ej⟩:∃j,rs'.length-p=j+1:=⟨rs'.length-p-1,by omega⟩;rw[ej,xP hr'] at hg;refine qj (λσ' H'=>∃d:Option Int,σ'=[some (.ref l),some (.int n),some (.int (ls.length:Int)),some (.int (p:Int)),some (oV d)]/\aB H2 H'/\gR d n=(r.iM p&&gR (dD (iH rs' (p:Int))) n)/\(gR d n=true->r.iM p=true)) ?_ ?_
   .sleep 141;cases hcg:r.iM p with
    | false =>
     walk_at "go";exact⟨none,rfl,s3,by rw[hcg];rfl,λh=>nomatch h⟩
    | true =>
     have ho:=t2.out hr' hcg;have xX:=ho.len;sleep 178;sleep 77;exact⟨_,rfl,(s3.trans K7).trans s6,by rw[hcg,Bool.true_and],λ_=>hcg⟩
   rintro _ H3 ⟨d,rfl,s3,hd,hdg⟩;rw[<- hd] at hg;have hl3:=s3 _ _ hl2;have fM:=gB.same s3;have xB:=s2.trans s3;have stay:gR d n=false->Ah n (rs'.length-(p+1)) rs' (p+1)=dI n ls:=λe=>by rw[e,if_neg (by decide)] at hg;rw[<- hg,show rs'.length-(p+1)=j by omega]
   refine N9 (λH'=>H'=H3/\gR d n=true) (λH'=>H'=H3/\gR d n=false) ?_ ?_ ?_
   .cases d with
    | none =>
     rw[show oV none=.cX from rfl];walk_at "go"
    | some e =>
     rw[show oV (some e)=.int e from rfl];walk_at "go"
     .rename_i he;exact⟨rfl,decide_eq_true he⟩
     .rename_i he;exact⟨rfl,decide_eq_false he⟩
   .rintro _ ⟨rfl,hs⟩;have ho:=t2.out hr' (hdg hs);have xX:=rg (rs:=rs') (p:=p) hp;rw[hs,if_pos rfl] at hg;sleep 178;walk_at "go";exact⟨_,by omega,c',us',iH rs' (p:Int),p,_,rfl,(xB.trans s4).trans n5.same,n5.self,gA,ho,by omega,by rw[<- hg,show(iH rs' (p:Int)).length-p=j by omega],rfl⟩
   .rintro _ ⟨rfl,hs⟩;walk_at "go";exact⟨_,by omega,l,vs,rs',p+1,some (oV d),by simp,xB,hl3,fM,t2,hp,stay hs,rfl⟩
  .rename_i hge;rw[Cp (by omega)] at hg;subst hg;obtain⟨t4,O6,l4⟩:=Ai (n:=n) ls.length ls 0 t1 sn1;have hlp:=List.length_pos_iff.mpr t1.ne;obtain⟨k1,rfl⟩:∃i,k=i+1:=⟨k-1,by omega⟩;have e1:e8 n (k1+1) ls=if(dI n ls).length<ls.length then e8 n k1 (dI n ls) else dI n ls:=rfl
   rw[Gy] at e1;refine⟨k1,by omega,l,vs,dI n ls,_,_,_,rfl,s2,hl2,gB,t2,O6,?_⟩;by_cases hlt:(dI n ls).length<ls.length
   .rw[if_pos hlt] at e1;exact .inl ⟨by omega,e1.symm,by omega⟩
   .rw[if_neg hlt] at e1;exact .inr ⟨by omega,e1.symm⟩
 .rename_i hge;have e:ls=e8 n rs.length rs:=by
   rcases alt with⟨h,_⟩|⟨_,h⟩
   .exact absurd h (by omega)
   .exact h
  rw[<- e] at q;exact q l vs H1 s1 hl1 gC
end
structure Cs (r:Row):Prop where
 ok:r.ok 1
 one:r.ways=[0]
def Nv(H:Hp)(us:List V):Prop:=∀v∈us,∃t r,v=.ref t/\H t=some (.tup (Row.pre r))/\Cs r
def Nv.same(h:Nv H us)(s:gK H H'):Nv H' us:=λv hv=>let⟨t,r,e,ht,hr⟩:=h v hv;⟨t,r,e,s _ _ ht,hr⟩
theorem Nv.set{t:Addr}(h:Nv H us)(ht:H t=some (.tup r.pre))(hr:Cs r):Nv H (us.set j (.ref t)):=λv hv=>by
 rcases rS hv with hv|rfl
 .exact h v hv
 .exact⟨t,r,rfl,ht,hr⟩
def Ct{v:Int}(hb:fm b)(hv:isVal v):Cs (.num 2 b v 0):=⟨⟨⟨by decide,by decide⟩,hb,hv,by decide,by decide⟩,rfl⟩
def Nx(hb:fm b):Cs (.look b 0):=⟨⟨hb,by decide,by decide⟩,rfl⟩
def SX(hb:fm b):Cs (.out b 0):=⟨⟨hb,by decide,by decide⟩,rfl⟩
def Er:Cs (.mark 0):=⟨⟨by decide,by decide⟩,rfl⟩
def Xu(h:Cs r){q:Int}(hq:jQ n q):(r.cU λ_=>q).ok n/\(r.cU λ_=>q).vals=r.pre++[.int q]/\(r.cU λ_=>q).ways=[q]:=⟨pq h.ok λ_ _=>hq,by rw[Eo,h.one];rfl,by rw[(jB _ r).2.2.2,h.one];rfl⟩
theorem v5{α β:Type}(f:α->β):∀(l:List α)(i:Nat),(l.map f).eraseIdx i=(l.eraseIdx i).map f
 | [],_=>rfl
 | _::_,0=>rfl
 | y::l,i+1=>by rw[cj,wg,wg,cj,v5 f l i]
def Ky{X:Cx}(e:X.K=K):jS X (binaryOp .Add) (GV K):=e▸jv
section
variable {P:Program}{w:World}{K:aD}{mg:Str->Option Value}{base:Heap}
def F9:Sp:=λvs H Q _=>∃c:Int,vs=[.int c]/\∀q H' us rs,aB H H'->H' q=some (.lst us)->Rows H' us rs->xO rs 200->Tu rs->Q (.ref q) H'
def Cu(T:Txt w K mg):b8 P w K mg base gS 1 T.qT.f T.qT.d ["_law_cell"] F9:=by
 refine T.qT.F.ok cW (λvs H Q E h=>?_) (λcdv A outer s H vs Q E hr h=>?_)
 .obtain⟨c,rfl,_⟩:=h;rfl
 obtain⟨c,rfl,q⟩:=h;refine⟨_,(ak (aE (i:=1) cW.nd rfl (ao rfl) (ay aZ af (ay bh (pv 0) af)))
 (ak (aE (i:=2) cW.nd rfl (bQ rfl) (ay aZ af (ay bh (ay bU (pv 0) af) (pv 1))))
 (ak (aE (i:=3) cW.nd rfl (ao rfl) (uH rfl T.tw rfl T.eW (aa af ai)))
 (ak (aE (i:=0) cW.nd rfl (ao rfl) (ay bU (pv 0) af))
 (ak (aE (i:=4) cW.nd rfl (ao rfl) (dM ai))
 (ak (eK bY rfl (dj rfl T.eW (aa (ay aZ (pv 1) af) ai)) (aX (i:=5) cW.nd rfl (ao rfl))
 (ak (fj (jw dR jq jr gw (pv 4) (aa (jw dR PySem.F.slot_list_pop PySem.F.type_list_pop G3 (pv 3) (aa (ay bh (pv 0) (aT bI rfl T.eS BT.eO (aa (pv 3) ai))) ai)) ai)))
 (au (aE (i:=0) cW.nd rfl (ao rfl) (ay bU (pv 0) af)))))
 (ak (jx (i:=6) cW.nd rfl (ao rfl) (bD.caps (x := "_law_k") (fr:=["_law_first"]) (ix:=[2]) (nm:=["_law_first"]) rfl rfl (by decide +kernel) rfl (by decide +kernel) rfl (by decide +kernel) ⟨rfl,trivial⟩ rfl (by decide +kernel) rfl ⟨⟨rfl,rfl,rfl⟩,trivial⟩) (dj rfl T.eW (aa (pv 1) ai)) (λ_ _ _ _=>cQ) (λ_ _ _ _=>(ay aZ (pv 1) (ay ja af (pv 0)))))
 (ak (aE (i:=7) cW.nd rfl (ao rfl) (ay aZ (ay aZ (aS bL (pv 6) (lB jb af) (λ_ _=>rfl)) af) (ay bh (pv 0) af)))
 (ak (aE (i:=8) cW.nd rfl (bQ rfl) (ay P1 (dM (aa (bB (aa bA (aa af (aa (aS bL (pv 4) (pv 1) (λ_ _=>rfl)) (aa (ay bh (pv 0) af) ai))))) ai)) (ay aZ (ay aZ (aS bL (pv 6) (lB jb af) (λ_ _=>rfl)) (pv 7)) af)))
 (ak (eK bY rfl (dj rfl T.eW (aa (pv 1) ai)) (aX (i:=5) cW.nd rfl (ao rfl))
 (ak (i9 (bB (aa bA (aa af (aa (aS bL (pv 4) (pv 5) (λ_ _=>rfl)) (aa (ay bh (pv 0) af) ai))))) (ko (pv 8) (ay iG (aS bL (pv 6) (pv 5) (λ_ _=>rfl)) af) set_list))
 (ak (i9 (bB (aa bA (aa (aS bL (pv 4) (pv 5) (λ_ _=>rfl)) ai))) (ko (pv 8) (aS bL (pv 6) (pv 5) (λ_ _=>rfl)) set_list))
 (au (i9 (bB (aa bA (aa (aS bL (pv 4) (pv 5) (λ_ _=>rfl)) ai))) (ko (pv 8) (ay aZ (aS bL (pv 6) (pv 5) (λ_ _=>rfl)) (pv 7)) set_list))))))
 (ak (i9 (bB (aa bA ai)) (ko (pv 8) (ay aZ (aS bL (pv 6) (lB jb af) (λ_ _=>rfl)) af) set_list))
 (ak (i9 (bB (aa bA ai)) (ko (pv 8) (ay aZ (ay aZ (aS bL (pv 6) (lB jb af) (λ_ _=>rfl)) (pv 7)) af) set_list))
 (ak (i9 (bB (aa bA (aa af (aa (aS bL (pv 4) (ay aZ (pv 1) af) (λ_ _=>rfl)) (aa af ai))))) (ko (pv 8) (lB jb af) set_list))
 (au (aJ (ay sj (cP (bD.caps (x := "_law_p") (fr:=["_law_rows"]) (ix:=[8]) (nm:=["_law_rows"]) rfl rfl (by decide +kernel) rfl (by decide +kernel) rfl (by decide +kernel) ⟨rfl,trivial⟩ rfl (by decide +kernel) rfl ⟨⟨rfl,rfl,rfl⟩,trivial⟩) (dj rfl T.eW (aa (aT bI rfl T.eS BT.eO (aa (pv 8) ai)) ai)) (λ_ _ _ _=>cQ) (λ_ _ _ _=>(ay (Ky rfl) (aS (gI (K:=K) rfl) (pv 1) (pv 0) (λ_ _=>rfl)) (bB (aa (ay aZ (pv 0) af) ai))))) (dM (aa (bB (aa bA (aa (aS bL (pv 4) (ay aZ (pv 1) af) (λ_ _=>rfl)) ai))) ai)))))))))))))))))),?_⟩
 show(_:TS) (Ends.mk _ _ _ _) [_,_,_,_,_,_,_,_,_] H;have b3:=bH (a:=c) (b:=3) (by decide);obtain⟨M,eM⟩:∃M:Nat,2+c % 3=M:=⟨(2+c % 3).toNat,by omega⟩;have bf:=bH (a:=c / 3) (b:=(M:Int)) (by omega);obtain⟨F,eF⟩:∃F:Nat,2+c / 3 % M=F:=⟨(2+c / 3 % M).toNat,by omega⟩;have hM:2<=M/\M<=4:=by omega
 have hF:2<=F/\F<=5:=by omega
 sleep 6;rw[eM,eF];refine zm ?_;walk_at "go";refine⟨8,rfl,by decide,by decide,λl0 fl0=>?_⟩;have n1:eU H l0 (.lst (uB 0 (8:Int).toNat)) (upd H l0 (.lst (uB 0 (8:Int).toNat))):=⟨fl0,rfl⟩;rw[show uB 0 (8:Int).toNat=([0,1,2,3,4,5,6,7]:List Int).map V.int from rfl] at n1 ⊢;generalize upd H l0 (.lst (([0,1,2,3,4,5,6,7]:List Int).map V.int))=H1 at n1 ⊢;walk_at "go";rename_i f H2 n2;have s2:=n1.same.trans n2.same;have ff:H f=none:=n1.same.free n2.1;have hne:l0≠f:=λz=>by have:=n1.self;rw[z,n2.1] at this;cases this
 have hl2:=n2.keep n1.self;have hf2:=n2.self;clear n1 n2;refine qH (λi σ' H'=>aB H H'/\∃(ls gs:List Int)(c':Int)(y:Option V),σ'=[some (.int c'),some (.int (M:Int)),some (.int (F:Int)),some (.ref l0),some (.ref f),y,none,none,none]/\H' l0=some (.lst (ls.map V.int))/\H' f=some (.lst (gs.map V.int))/\gs.length=i/\ls.length+i=8/\(∀x∈ls,fm x)/\∀x∈gs,fm x) ?_ ?_ ?_
 .exact⟨s2,_,[],_,_,rfl,hl2,hf2,rfl,rfl,by unfold fm;decide,λx hx=>nomatch hx⟩
 .rintro i σ' H3 hi ⟨s3,ls,gs,c',y,rfl,hl3,Lb,eg,el,hrl,hrg⟩;have Th:(ls.map V.int).length=ls.length:=av _;have hgl:(gs.map V.int).length=gs.length:=av _;walk_at "go";rw[Th];have b1:=bH (a:=c') (b:=(ls.length:Int)) (by omega);have ya:(c' % (ls.length:Int)).toNat<ls.length:=by omega
  obtain⟨x,hx⟩:∃x,ls[(c' % (ls.length:Int)).toNat]?=some x:=⟨_,fN ya⟩;refine C1 hl3 b1.1 rfl (y:=.int x) (by rw[bz,hx];rfl) (by omega) ?_;intro H4 p4;rw[show(ls.map V.int).eraseIdx (c' % (ls.length:Int)).toNat=(ls.eraseIdx (c' % (ls.length:Int)).toNat).map V.int from v5 ..] at p4;have DY:=p4.keep (bu hne) Lb;have hl4:=p4.self;have s4:=p4.same s3 fl0;clear p4 hl3 Lb;walk_at "go";rename_i H5 p5;refine⟨p5.same s4 ff,_,gs++[x],_,_,rfl,p5.keep hne hl4,by rw[bF];exact p5.self,by simp[eg],?_,λz hz=>hrl z (List.mem_of_mem_eraseIdx hz),λz hz=>?_⟩
  .rw[List.length_eraseIdx,if_pos ya];omega
  .rcases aO.mp hz with hz|hz
   .exact hrg z hz
   .rw[aA.mp hz];exact hrl x (fz hx)
 rintro σ' H3 ⟨s3,ls,gs,c',y,rfl,hl3,Lb,eg,el,hrl,hrg⟩;clear hl3 s2 hl2 hf2;have bx:∀k:Nat,k<M+2->∃b,nE (gs.map V.int) (k:Int)=some (.int b)/\fm b:=λk hk=>by obtain⟨b,e,m⟩:=lK (ns:=gs) (i:=(k:Int)) (by omega) (by omega);exact⟨b,e,hrg b m⟩
 walk_at "go";refine ia (λi ys H'=>H'=H3/\ys=(List.range i).map λk:Nat=>V.int ((F+3*k:Nat):Int)) ⟨rfl,rfl⟩ ?_ ?_
 .sleep 222;sleep 196;rw[mZ,bF,show(F:Int)+3*(0+(i:Int))=((F+3*i:Nat):Int) by omega];rfl
 rintro ys H' ⟨rfl,rfl⟩ lk H4 n4;have hlk:=n4.self;have s4:=s3.trans n4.same;have DY:=n4.keep Lb;have hfl:f≠lk:=aW Lb n4.1;clear n4 s3 Lb;obtain⟨L,eL⟩:∃L:Nat,F+3*(M-1)=L:=⟨_,rfl⟩;rw[gE] at hlk;have Om:∀k:Nat,k<M->nE ((List.range M).map λk:Nat=>V.int ((F+3*k:Nat):Int)) (k:Int)=some (.int ((F+3*k:Nat):Int)):=λk hk=>fO (by rw[bz,pC hk];rfl);have at1:nE ((List.range M).map λk:Nat=>V.int ((F+3*k:Nat):Int)) (-1)=some (.int (L:Int)):=vZ (n:=M-1) (by rw[av,gT];omega) (by rw[bz,pC (by omega),<- eL];rfl);have b2:=bH (a:=c') (b:=2) (by decide);obtain⟨G,eG⟩:∃G:Nat,(L:Int)+2+c' % 2=G:=⟨((L:Int)+2+c' % 2).toNat,by omega⟩;have bv1:=bH (a:=c') (b:=1000) (by decide);have bv7:=bH (a:=c') (b:=7) (by decide);obtain⟨bM,eb,hbM⟩:=bx M (by omega);obtain⟨bN,ebN,hbN⟩:=bx (M+1) (by omega);walk_at "go";refine cF (bE.of hlk) at1 ?_;walk_at "go";rw[eG];refine cF (bE.of DY) eb ?_;walk_at "go";rename_i t0 H5 n5 l5 H6 n6;have K8:=n5.same.trans n6.same;have ht6:H6 t0=some (.tup (Row.pre (.num 2 bM (c' % 1000) 0))):=n6.keep n5.self;have YN:=n6.self;have Cv:=K8 _ _ hlk;have Tv:=K8 _ _ DY;have s6:=s4.trans K8;clear n5 n6 s4 K8 hlk DY;refine cF (bE.of Cv) at1 ?_;walk_at "go";obtain⟨N,eN⟩:∃N:Nat,L+G+2=N:=⟨_,rfl⟩;rw[show(L:Int)+G+2=(N:Int) by omega];refine Vs YN (by omega) (by omega) (by simp;omega) ?_;intro g H7 n7;rw[gE,List.flatten_replicate_singleton] at n7;have s7:=n7.same;have fg:H6 g=none:=n7.1;have O8:=n7.self;have JS:Nv H7 (List.replicate N (.ref t0)):=λv hv=>⟨t0,_,(List.mem_replicate.mp hv).2,n7.keep ht6,Ct hbM ⟨by omega,by omega⟩⟩;have hlg:lk≠g:=aW Cv fg;have hfg:f≠g:=aW Tv fg;clear n7 YN ht6;walk_at "go";refine qH (λi σ' H'=>aB H6 H'/\∃(us:List V)(y:Option V),σ'=[some (.int c'),some (.int (M:Int)),some (.int (F:Int)),some (.ref l0),some (.ref f),y,some (.ref lk),some (.int (G:Int)),some (.ref g)]/\H' g=some (.lst us)/\us.length=N/\Nv H' us) ?_ ?_ ?_
 .exact⟨s7,_,_,rfl,O8,List.length_replicate ..,JS⟩
 .rintro i σ' H8 hi ⟨s8,us,y,rfl,Ek,qu,GA⟩;have hi:i<M:=by omega
  obtain⟨b,Y4,hb⟩:=bx i (by omega);have Y5:=Om i hi;rw[show((i:Nat):Int)=0+(i:Int) by omega] at Y4 Y5;walk_at "go";refine cF (bE.of (s8 _ _ Tv)) Y4 ?_;walk_at "go";rename_i t1 H9 n9;have O9:H9 t1=some (.tup (Row.pre (.num 2 b (c' % 7) 0))):=n9.self;refine cF (bE.of (n9.keep (s8 _ _ Cv))) Y5 ?_;walk_at "go";refine jM (j:=F+3*i-2) (n9.keep Ek) (by rw[lM (by omega) (by omega)];exact congrArg some (by omega)) ?_;intro zW Cr;have tt:=eT (n9.keep Ek) Cr;have tP:=((GA.same (sT n9.same)).same tt).set (j:=F+3*i-2) (tt _ _ O9) (Ct hb ⟨by omega,by omega⟩);sleep 175;refine cF (bE.of (iJ _ _ Tv)) Y4 ?_;walk_at "go";rename_i t2 zX gO;have Kz:zX t2=some (.tup (Row.pre (.look b 0))):=gO.self;refine cF (bE.of (gO.keep (iJ _ _ Cv))) Y5 ?_;refine jM (j:=F+3*i) (gO.keep xQ) (by rw[lM (by omega) (by rw[eE];omega)];rfl) ?_;intro FJ qy;have tt:=eT (gO.keep xQ) qy;have Ny:=((tP.same (sT gO.same)).same tt).set (j:=F+3*i) (tt _ _ Kz) (Nx hb);sleep 173;refine cF (bE.of (s12 _ _ Tv)) Y4 ?_;walk_at "go";rename_i t3 Gz nD;have Nz:Gz t3=some (.tup (Row.pre (.out b 0))):=nD.self;refine cF (bE.of (nD.keep (s12 _ _ Cv))) Y5 ?_;walk_at "go";refine jM (j:=F+3*i+G) (nD.keep Ga) (by rw[lM (by omega) (by rw[eE,eE];omega)];rfl) ?_;intro Tn xy;have tt:=eT (nD.keep Ga) xy;have Gb:=((Ny.same (sT nD.same)).same tt).set (j:=F+3*i+G) (tt _ _ Nz) (SX hb);walk_at "go";exact⟨xy.same (s12.trans nD.same) fg,_,_,rfl,xy.self,by rw[eE,eE,eE];exact qu,Gb⟩
 rintro σ' H8 ⟨s8,us,y',rfl,Ek,qu,GA⟩;have at2:nE ((List.range M).map λk:Nat=>V.int ((F+3*k:Nat):Int)) (-2)=some (.int ((L:Int)-3)):=by have:=Om (M-2) (by omega);rw[show((F+3*(M-2):Nat):Int)=(L:Int)-3 by omega] at this;rw[<- this];unfold nE EM;rw[if_neg (by decide),if_pos (by rw[av,gT];omega),if_pos (by omega),if_pos (by rw[av,gT];omega),av,gT,show((-2:Int)+(M:Int)).toNat=M-2 by omega];rfl
 clear s7 O8 JS;walk_at "go";rename_i t1 H9 n9;have O9:H9 t1=some (.tup (Row.pre (.mark 0))):=n9.self;refine cF (bE.of (n9.keep (s8 _ _ Cv))) at1 ?_;walk_at "go";refine jM (j:=L+1) (n9.keep Ek) (by rw[lM (by omega) (by omega)];rfl) ?_;intro zW Cr;have tt:=eT (n9.keep Ek) Cr;have tP:=((GA.same (sT n9.same)).same tt).set (j:=L+1) (tt _ _ O9) Er;sleep 175;rename_i t2 zX gO;have Kz:zX t2=some (.tup (Row.pre (.mark 0))):=gO.self;refine cF (bE.of (gO.keep (iJ _ _ Cv))) at2 ?_;walk_at "go";refine jM (j:=L+G-2) (gO.keep xQ) (by rw[lM (by omega) (by rw[eE];omega)];exact congrArg some (by omega)) ?_;intro FJ qy;have tt:=eT (gO.keep xQ) qy;have Ny:=((tP.same (sT gO.same)).same tt).set (j:=L+G-2) (tt _ _ Kz) Er;sleep 173;refine cF (bE.of (s12 _ _ Tv)) (by rw[show(M:Int)+1=((M+1:Nat):Int) by omega];exact ebN) ?_;walk_at "go";rename_i t3 Gz nD;have Nz:Gz t3=some (.tup (Row.pre (.num 2 bN 5 0))):=nD.self;refine jM (j:=N-1) (nD.keep Ga) (by unfold EM;rw[if_neg (by decide),eE,eE,if_pos (by omega)];exact congrArg some (by omega)) ?_;intro Tn xy;have tt:=eT (nD.keep Ga) xy;have Gb:=((Ny.same (sT nD.same)).same tt).set (j:=N-1) (tt _ _ Nz) (Ct hbN ⟨by decide,by decide⟩);have MW:=xy.same (s12.trans nD.same) fg;obtain⟨xs,Xv,Oz,Gb⟩:∃xs,Tn g=some (.lst xs)/\xs.length=N/\Nv Tn xs:=⟨_,xy.self,by rw[eE,eE,eE];exact qu,Gb⟩;clear xy tt Nz nD Ny Ga s12;walk_at "go";refine ia (λi ys H'=>aB Tn H'/\∃rs:List Row,Rows H' ys rs/\rs.length=i/\∀(j:Nat)(r:Row),rs[j]?=some r->r.ok ((N+1:Nat):Int)/\r.ways=[((j+1:Nat):Int)]) ⟨aB.refl _,[],.nil,rfl,λj r h=>nomatch h⟩ ?_ ?_
 .rintro i ys YK hi ⟨Tw,rs,hrs,hlen,hok⟩;have hi:i<N:=by omega
  refine⟨bV (by rw[hrs.length];omega),?_⟩;obtain⟨v,hv,mv⟩:=xo (xs:=xs) (i:=0+(i:Int)) (by omega) (by omega);obtain⟨t,r,rfl,ht,hr⟩:=Gb v mv;obtain⟨k1,k2,k3⟩:=Xu hr (n:=((N+1:Nat):Int)) (q:=0+(i:Int)+1) ⟨by omega,by omega⟩;have Xr:=Kw r;walk_at "go";refine cF (bE.of (Tw _ _ Xv)) hv ?_;walk_at "go";rename_i t5 YL Pc;refine fh (cM.of (Pc.keep (Tw _ _ ht))) (cM.of Pc.self) (by intro h;rw[h] at Xr;simp at Xr) (by simp) (by simp only[eB,mW];omega) ?_;intro t6 H17 Tz;rw[<- k2] at Tz;have JH:=Pc.same.trans Tz.same;refine⟨Tw.trans JH,rs++[_],cI (hrs.same JH) ⟨t6,rfl,Tz.self⟩,by simp[hlen],λj r' h=>?_⟩;rcases aY j rs.length with hj|hj
  .rw[i6 hj] at h;exact hok j r' h
  .rw[iD hj] at h;sleep 68;exact⟨k1,by rw[k3];exact congrArg (· :: []) (by omega)⟩
 rintro ys YK ⟨Tw,rs,hrs,hlen,hok⟩ l1 YL Pc;have hyl:=hrs.length;have hlen:rs.length=N:=by omega
 have MY:=(MW.trans Tw).trans Pc.same;walk_at "go";refine cF (bE.of (MY _ _ Tv)) (by rw[show(M:Int)+1=((M+1:Nat):Int) by omega];exact ebN) ?_;have afx:=Pc.self;have SY:=hrs.same Pc.same;clear Pc Gb Xv MW Tw hrs;walk_at "go";rename_i t7 H17 Tz l2 H18 To l3 H19 n19;have s19:=(Tz.same.trans To.same).trans n19.same;have hle:(rs++[Row.back bN]).length=N+1:=by simp[hlen]
 have hne:rs++[Row.back bN]≠[]:=by simp
 refine q l3 H19 _ (rs++[.back bN]) ((s6.trans MY).trans s19) n19.self (cI (SY.same s19) ⟨t7,rfl,show _=some (.tup (Row.vals (.back bN))) from n19.keep (To.keep Tz.self)⟩) ⟨λr hr=>?_,hne,by omega⟩ (En hne λp r hr z hz=>?_)
 .rw[hle];rcases aO.mp hr with hr|hr
  .obtain⟨j,hj⟩:=fV.mp hr;exact(hok j r hj).1
  .rw[aA.mp hr];exact hbN
 .rcases aY p rs.length with hp|hp
  .rw[i6 hp] at hr;rw[(hok p r hr).2] at hz;rw[aA.mp hz];omega
  .rw[iD hp] at hr;have e:=aA.mp (fz hr);rw[e] at hz;exact nomatch hz
def Es{m:Int}(h:dD rs=some m)(hn:m<=n):qf n rs:=by unfold qf gR;rw[h];exact decide_eq_true hn
def NB(h:qf n rs):∃m,dD rs=some m/\m<=n:=by
 unfold qf gR at h;cases hd:dD rs with
 | none=>rw[hd] at h;exact nomatch h
 | some m=>rw[hd] at h;exact⟨m,rfl,of_decide_eq_true h⟩
def S0(T:Txt w K mg):b8 P w K mg base gS 12 T.law.f T.law.d ["_law_script"] (DJ K):=by
 refine T.law.F.ok kJ (λvs H Q E h=>?_) (λcdv A outer s H vs Q E hr h=>?_)
 .obtain⟨a,ns,rfl,_⟩:=h;rfl
 obtain⟨a,ns,rfl,hS,hn,q⟩:=h;refine⟨_,(ak (aE (i:=1) kJ.nd rfl (ao rfl) (aP T.Mx (Nr T) hr (aa (pv 0) ai)))
 (ak (aE (i:=2) kJ.nd rfl (ao rfl) (aP T.mixed (oU T) hr (aa (aP T.ie (gr T) hr (aa (pv 0) (aa af ai))) (aa af ai))))
 (ak (aE (i:=3) kJ.nd rfl (ao rfl) (ay aZ (aP T.delay (mE T) hr (aa (pv 1) ai)) (ay bh (ay bU (pv 2) af) (aS cO (bB (aa af (aa af (aa af (aa af ai))))) (ay bh (pv 2) af) (λ_ _=>rfl)))))
 (iQ (cN (aG dU (ay bh (ay bU (pv 2) af) af) af (aM _))
 (ak (aE (i:=1) kJ.nd rfl (ao rfl) (aP T.qT (Cu T) hr (aa (aP T.spread (vL T) hr (aa (pv 2) ai)) ai)))
 (au (aE (i:=3) kJ.nd rfl (ao rfl) (aP T.delay (mE T) hr (aa (pv 1) ai)))))
 bw)
 (ak (aE (i:=4) kJ.nd rfl (ao rfl) (aP T.due (SW T) hr (aa (dw nq rfl T.tw BT.sA (aa (pv 1) ai)) (aa (pv 3) ai))))
 (ak (aE (i:=5) kJ.nd rfl (ao rfl) (dw nq rfl T.tw BT.sA (aa (pv 1) ai)))
 (ak (aE (i:=6) kJ.nd rfl (ao rfl) (aP T.Jp (Ej T) hr (aa (pv 5) (aa (pv 3) ai))))
 (nO (cN (PW.pt (rY (wz (rX (aT u7 rfl T.xm BT.wJ (aa (pv 6) (aa (Le (v:=.ty "list") rfl T.tw BT.sA rfl) ai))))) (rY (aG (HQ hr.units) (pv 6) (pv 4) (aM _)) (pL (aG (HQ hr.units) (pv 5) (pv 1) (aM _))))))
 (au (aJ yf))
 bw)
 (ak (cN (wz (aG CF (aP T.delay (mE T) hr (aa (pv 6) ai)) (pv 3) (aM _)))
 (au (aJ yf))
 bw)
 (ak (fj (Be dR PySem.F.slot_list_clear PySem.F.type_list_clear G5 (pv 6)))
 (au (aJ (NH (gG yh (ay bh (ay bU (pv 2) af) af) af (aM _)) (rZ (gG (Bs hr.units) (aP T.Jp (Ej T) hr (aa (pv 5) (aa (pv 3) ai))) (pv 4) (aM _)))))))))))))))),?_⟩
 sleep 145;sleep 6;refine⟨a,ns,rfl,hS,hn,λc H1 us rs s1 hc1 gC ht hh=>?_⟩;walk_at "go";refine⟨a,ns,1,rfl,s1.seq hS,by decide,λc0=>?_⟩;walk_at "go";refine⟨_,9,rfl,λz z0 z1=>?_⟩;walk_at "go";refine⟨c,us,rs,rfl,hc1,gC,ht.ok,ht.len,ht.ne,λH2 s2 lt=>?_⟩;obtain⟨m,hm⟩:=hh lt;rw[hm,show oV (some m)=.int m from rfl];have hc2:=s2 _ _ hc1;have gB:=gC.same s2;have s12:=s1.trans s2;clear s1 s2 hc1 gC;walk_at "go";rename_i t3 H3 n3;have b4:=bH (a:=z) (b:=4) (by decide);obtain⟨g,hg,mg'⟩:=lK (ns:=[1,4,20,2900]) (i:=z % 4) b4.1 (by show _<(4:Int);exact b4.2);have g0:0<g:=by simp only[aI,fX,or_false] at mg';rcases mg' with rfl|rfl|rfl|rfl<;>decide
 refine sD (cM.of n3.self) hg ?_;have hc3:=n3.keep hc2;have fM:=gB.same n3.same;have s3:=s12.trans n3.same;have bg:=bH (a:=z / 4) (b:=g) g0;clear n3 hc2 gB s12;walk_at "go";refine qj (λσ' H'=>∃c us rs n,σ'=[some (.ref a),some (.ref c),some (.int z),some (.int n),none,none,none]/\H' c=some (.lst us)/\Rows H' us rs/\xO rs 200/\qf n rs) ?_ ?_
 .walk_at "go"
  .refine⟨_,rfl,λz2=>?_⟩;walk_at "go";refine⟨_,rfl,λc4 H4 us4 rs4 s4 hc4 j7 t4 h4=>?_⟩;walk_at "go";refine⟨c4,us4,rs4,rfl,hc4,j7,t4.ok,t4.len,t4.ne,λH5 s5 lt4=>?_⟩;obtain⟨m4,YC⟩:=h4 lt4;rw[YC,show oV (some m4)=.int m4 from rfl];walk_at "go";exact⟨c4,us4,rs4,m4,rfl,s5 _ _ hc4,j7.same s5,t4,Es YC (Int.le_refl _)⟩
  .exact⟨c,us,rs,_,rfl,hc3,fM,ht,Es hm (by omega)⟩
 clear hc3 fM ht hm hh lt hg mg' bg g0 s3;rintro _ H4 ⟨c,us,rs,n,rfl,hc4,j7,t4,O6⟩;have qu:=j7.length;have hln:=t4.len;obtain⟨tT,snT,lT⟩:=Ni (n:=n) rs.length rs t4 O6;obtain⟨mT,hmT,hmn⟩:=NB snT;walk_at "go";rename_i l5 H5 n5;have hc5:=n5.keep hc4;have gA:=j7.same n5.same;refine⟨l5,us,rs,n,rfl,n5.self,gA,t4,O6,λd ds H6 s6 OO Pd=>?_⟩;have hc6:=s6 _ _ hc5;have KA:=gA.same s6;clear n5 hc4 j7 hc5 gA s6;walk_at "go";rename_i l7 H7 n7;have hc7:=n7.keep hc6;have JS:=n7.keep OO;have KC:=Pd.same n7.same;have ud:=KA.same n7.same;have hl7:=n7.self;clear n7 hc6 OO Pd KA;refine⟨l7,us,rs,n,rfl,hl7,ud,t4,O6,λf fs H8 s8 ff DS Cw=>?_⟩;have hc8:=s8 _ _ hc7;have GA:=s8 _ _ JS;have YI:=s8 _ _ hl7;have Al:=ud.same s8;have KD:=KC.same s8;walk_at "go"
 .refine N2 (ty:=.type "list") (b:=true) (jl.lst DS) rfl ?_;walk_at "go";refine HR (.list ((e8 n rs.length rs).map Row.data)) 2 (by decide) (.lst (bE.of DS) Cw.rd) (.lst (bE.of GA) KD.rd) (xr tT.ok) ?_;walk_at "go";refine HR (.list (rs.map Row.data)) 2 (by decide) (.lst (bE.of YI) Al.rd) (.lst (bE.of hc8) Al.rd) (xr t4.ok) ?_;walk_at "go"
 .refine⟨f,fs,_,rfl,DS,Cw,tT.ok,tT.len,tT.ne,λH9 s9 _=>?_⟩;rw[hmT,show oV (some mT)=.int mT from rfl];have JE:=s9 _ _ DS;have s79:=s8.trans s9;clear s8 s9 DS Cw hc8 GA YI Al KD;walk_at "go"
  .exact q _
  .rename_i zW Cr hz;have iJ:=Cr.same s79 ff;clear Cr;refine⟨l7,us,rs,n,rfl,iJ _ _ hl7,ud.same iJ,t4,O6,λf2 fs2 zX K3 _ J1 S1=>?_⟩;have Xw:=iJ.trans K3;walk_at "go";refine Q2 (.list ((e8 n rs.length rs).map Row.data)) 2 (by decide) (.lst (bE.of J1) S1.rd) (.lst (bE.of (Xw _ _ JS)) (KC.same Xw).rd) (xr tT.ok) ?_;exact q _
end
def Pe{us:List Value}(h:us.length=1):∃v0,us=[v0]:=match us,h with | [v0],_=>⟨v0,rfl⟩
def Xx{us:List Value}(h:us.length=2):∃v0 v1,us=[v0,v1]:=match us,h with | [v0,v1],_=>⟨v0,v1,rfl⟩
def Xy{us:List Value}(h:us.length=3):∃v0 v1 v2,us=[v0,v1,v2]:=match us,h with | [v0,v1,v2],_=>⟨v0,v1,v2,rfl⟩
def Xz{us:List Value}(h:us.length=4):∃v0 v1 v2 v3,us=[v0,v1,v2,v3]:=match us,h with | [v0,v1,v2,v3],_=>⟨v0,v1,v2,v3,rfl⟩
def XA{us:List Value}(h:us.length=5):∃v0 v1 v2 v3 v4,us=[v0,v1,v2,v3,v4]:=match us,h with | [v0,v1,v2,v3,v4],_=>⟨v0,v1,v2,v3,v4,rfl⟩
def NC{w:World}{h:Heap}{mg:Str->Option Value}(X:K.In h)(G:h.Ns mainGlobals mg){xT:Addr}{S2:Nat}{rj:Addr}{Am:Tok}{rm:Addr}{An:Tok}{rq:Addr}{Ao:Tok}{rA:Addr}{Aq:Tok}{rB:Addr}{Ar:Tok}{rC:Addr}{As:Tok}{rD:Addr}{Au:Tok}{rE:Addr}{Av:Tok}{KH:Nat}{Gd:Option Addr}{Ge:Array (Option Value)}{Aw:Tok}{Ax:Tok}{Ay:Tok}{Az:Tok}{KI:Nat}{Gf:Option Addr}{Gg:Array (Option Value)}{AA:Tok}{AB:Tok}{AD:Tok}{AE:Tok}{KJ:Nat}{Gh:Option Addr}{Gi:Array (Option Value)}{AF:Tok}{AG:Tok}{AH:Tok}{AI:Tok}{AJ:Tok}{AK:Tok}{KL:Nat}{Gj:Option Addr}{Gk:Array (Option Value)}{AL:Tok}{AM:Tok}{KN:Nat}{Gm:Option Addr}{Gn:Array (Option Value)}{AN:Tok}{AO:Tok}{AQ:Tok}{KO:Nat}{Gp:Option Addr}{Gq:Array (Option Value)}{AR:Tok}{AS:Tok}{KP:Nat}{Gr:Option Addr}{Gs:Array (Option Value)}{AU:Tok}{KQ:Nat}{Gu:Option Addr}{Gv:Array (Option Value)}{AV:Tok}(xU:PySem.W.nsIn K mainGlobals "PARTS" = some (some (.ref xT)))(xV:K.lookup xT=some ⟨.type "dict", none,.dict #[{ hash:=PyData.keyHash w.params "num", key:=.str "num" Am,val:=.ref rj },{ hash:=PyData.keyHash w.params "copy", key:=.str "copy" An,val:=.ref rm },{ hash:=PyData.keyHash w.params "op", key:=.str "op" Ao,val:=.ref rq },{ hash:=PyData.keyHash w.params "out", key:=.str "out" Aq,val:=.ref rA },{ hash:=PyData.keyHash w.params "fork", key:=.str "fork" Ar,val:=.ref rB },{ hash:=PyData.keyHash w.params "look", key:=.str "look" As,val:=.ref rC },{ hash:=PyData.keyHash w.params "mark", key:=.str "mark" Au,val:=.ref rD },{ hash:=PyData.keyHash w.params "back", key:=.str "back" Av,val:=.ref rE }] S2,#[]⟩)(xW:(xT==sysModules)=false)(uf:K.lookup rj=some ⟨.type "tuple", Gd,.seq #[.str "side" Aw,.str "box" Ax,.str "value" Ay,.str "place" Az] KH,Ge⟩)(ug:K.lookup rm=some ⟨.type "tuple", Gf,.seq #[.str "side" AA,.str "box" AB,.str "box" AD,.str "place" AE] KI,Gg⟩)(um:K.lookup rq=some ⟨.type "tuple", Gh,.seq #[.str "side" AF,.str "sign" AG,.str "box" AH,.str "box" AI,.str "box" AJ,.str "place" AK] KJ,Gi⟩)(uo:K.lookup rA=some ⟨.type "tuple", Gj,.seq #[.str "box" AL,.str "place" AM] KL,Gk⟩)(uq:K.lookup rB=some ⟨.type "tuple", Gm,.seq #[.str "box" AN,.str "place" AO,.str "place" AQ] KN,Gn⟩)(ur:K.lookup rC=some ⟨.type "tuple", Gp,.seq #[.str "box" AR,.str "place" AS] KO,Gq⟩)(uu:K.lookup rD=some ⟨.type "tuple", Gr,.seq #[.str "place" AU] KP,Gs⟩)(uv:K.lookup rE=some ⟨.type "tuple", Gu,.seq #[.str "box" AV] KQ,Gv⟩):DG w K mg:={ oA:=xT,w5:=PySem.W.mg_of X G xU,oB:=rj,zF:=gW.mk' uf (.cons ⟨_,rfl⟩ (.cons ⟨_,rfl⟩ (.cons ⟨_,rfl⟩ (.cons ⟨_,rfl⟩ (.nil))))) (by show(4:Nat)<=1000;decide),oE:=rm,zG:=gW.mk' ug (.cons ⟨_,rfl⟩ (.cons ⟨_,rfl⟩ (.cons ⟨_,rfl⟩ (.cons ⟨_,rfl⟩ (.nil))))) (by show(4:Nat)<=1000;decide),oF:=rq,zH:=gW.mk' um (.cons ⟨_,rfl⟩ (.cons ⟨_,rfl⟩ (.cons ⟨_,rfl⟩ (.cons ⟨_,rfl⟩ (.cons ⟨_,rfl⟩ (.cons ⟨_,rfl⟩ (.nil))))))) (by show(6:Nat)<=1000;decide),oG:=rA,zI:=gW.mk' uo (.cons ⟨_,rfl⟩ (.cons ⟨_,rfl⟩ (.nil))) (by show(2:Nat)<=1000;decide),oH:=rB,zJ:=gW.mk' uq (.cons ⟨_,rfl⟩ (.cons ⟨_,rfl⟩ (.cons ⟨_,rfl⟩ (.nil)))) (by show(3:Nat)<=1000;decide),oJ:=rC,zK:=gW.mk' ur (.cons ⟨_,rfl⟩ (.cons ⟨_,rfl⟩ (.nil))) (by show(2:Nat)<=1000;decide),oK:=rD,zL:=gW.mk' uu (.cons ⟨_,rfl⟩ (.nil)) (by show(1:Nat)<=1000;decide),oM:=rE,zM:=gW.mk' uv (.cons ⟨_,rfl⟩ (.nil)) (by show(1:Nat)<=1000;decide),w6:=yF.mk' (es:=[("num", Am,.ref rj),("copy", An,.ref rm),("op", Ao,.ref rq),("out", Aq,.ref rA),("fork", Ar,.ref rB),("look", As,.ref rC),("mark", Au,.ref rD),("back", Av,.ref rE)]) xV xW (show(["num", "copy", "op", "out", "fork", "look", "mark", "back"]:List Str).Nodup from by decide +kernel) (.cons ⟨rfl,rfl⟩ (.cons ⟨rfl,rfl⟩ (.cons ⟨rfl,rfl⟩ (.cons ⟨rfl,rfl⟩ (.cons ⟨rfl,rfl⟩ (.cons ⟨rfl,rfl⟩ (.cons ⟨rfl,rfl⟩ (.cons ⟨rfl,rfl⟩ (.nil))))))))) }
def S3{l:PySem.W.OpenLaw}{w:World}{mg:Str->Option Value}{fa:Addr}(T:Txt w K mg)(hfa:mg "law" = some (.ref fa)):∃fd:FuncData,(∀(s:Shared)(v:Value),BindsTo s fd ⟨[v],[]⟩ [("_law_script", v)])/\∀base:Heap,K.In base->base.Ns mainGlobals mg->b8 l.prog w K mg base gS 12 fa fd ["_law_script"] (DJ K):=by have e:=hfa.symm.trans T.law.m;cases e;exact⟨T.law.d,T.law.bind1 (λ_ _ _ _ _ _ us hl=>by obtain⟨v0,rfl⟩:=Pe hl;rfl),λbase kb nb=>S0 T⟩
def walk{l:PySem.W.OpenLaw}{q:Program}{loose:List Str}{XP:(Str->Option Value)->Heap->Prop}{YP:World->Heap->Prop}{d:DefRec}{K:Params->aD}(hn:l.most=some 63)(hdf:d.params.defaults=[])
  (hY:∀(w:World)(h:Heap),YP w h->(K w.params).In h)
  (F:∀(w:World)(mg:Str->Option Value)(fa:Addr)(h:Heap),(K w.params).In h->h.Ns mainGlobals mg->mg d.name=some (.ref fa) ->
   ∃fd:FuncData,(∀(s:Shared)(u:Value),BindsTo s fd ⟨[u],[]⟩ [("_law_script", u)])/\∀base:Heap,(K w.params).In base->base.Ns mainGlobals mg->b8 l.prog w (K w.params) mg base gS 12 fa fd ["_law_script"] (DJ (K w.params))):
  PySem.W.WalkO q loose XP YP l.row.toRowW d [] (λf vs=>PySem.call f vs) :=
 L2.Lu (n:=63) (k:=12) (x := "_law_script") (CX:=λ_=>gS) (sp:=λw=>DJ (K w.params)) hn (by decide) hdf ⟨rfl,by decide,by decide⟩ hY F (λ_ _ a ns hl _ hS=>⟨a,ns,rfl,hS,hl,λ_=>rfl⟩) λ_ _ _ _ _ z=>z
end TG
open PySem PySem.W PyProof.Rows
set_option hygiene false in
local macro_rules | `(tactic| walk_at "bd") => `(tactic| (intro _ _ _ _ _ _ us hl; first | (obtain ⟨v0, rfl⟩ := TG.Pe hl; rfl) | (obtain ⟨v0, v1, rfl⟩ := TG.Xx hl; rfl) | (obtain ⟨v0, v1, v2, rfl⟩ := TG.Xy hl; rfl) | (obtain ⟨v0, v1, v2, v3, rfl⟩ := TG.Xz hl; rfl) | (obtain ⟨v0, v1, v2, v3, v4, rfl⟩ := TG.XA hl; rfl)))
set_option hygiene false in
local macro_rules | `(tactic| walk_at "dd") => `(tactic| (refine' L2.VW KX G ?b ?a ?l ?c ?k; (case b => walk_at "bd"); (case a => k_is); (case l => k_is); (case c => k_is); (case k => k_is)))
set_option hygiene false in
local macro_rules | `(tactic| walk_at "nn") => `(tactic| (refine PySem.W.mg_none_of KX G ?_; k_is))
set_option hygiene false in
local macro_rules | `(tactic| walk_at "ci") => `(tactic| (refine' L2.VX KX G ?a; (case a => k_is)))
set_option hygiene false in
local macro_rules | `(tactic| walk_at "ct") => `(tactic| (refine' L2.VY KX G ?a ?l ?r ?z; (case a => k_is); (case l => k_is); (case r => (repeat (first | exact .nil | refine .cons ⟨_, rfl⟩ ?_))); (case z => exact dY rfl)))
namespace PySem.W.Fast
def tw10820904411186260688:True:=trivial
def tw4647035906453561704:True:=trivial
def tw9494276973495798643:True:=trivial
def tw7776781800934026264:True:=trivial
def tw7469137625710272493:True:=trivial
def tw17097635025327105878:True:=trivial
def tw5277219253594774533:True:=trivial
def tw4522730568106835362:True:=trivial
def tw16341573859768357344:True:=trivial
def tw17427710470886004648:True:=trivial
def tw6095591919630743028:True:=trivial
def tw6957693294248546585:True:=trivial
def tw618165429266269399:True:=trivial
def tw6812696959369118787:True:=trivial
def tw15322870704017209483:True:=trivial
def tw4109097671116745426:True:=trivial
def tw14748935900761052476:True:=trivial
def tw6505845423697845764:True:=trivial
def tw10390661908122347968:True:=trivial
def tw16734491743428322577:True:=trivial
def tw9365757057975238020:True:=trivial
def tw422582564509519886:True:=trivial
def tw6732170400820448579:True:=trivial
def tw13274888180585182538:True:=trivial
def tw228903456490160550:True:=trivial
def tw3234328184343780854:True:=trivial
def tw9221196172235900795:True:=trivial
def tw3669495983988198390:True:=trivial
def tw7605981145732843761:True:=trivial
def tw16642664524421222785:True:=trivial
def tw687195755922309767:True:=trivial
def tw16325952789131708317:True:=trivial
def tw6219342307714099409:True:=trivial
def tw9440146428925882704:True:=trivial
def tw15509456992757466021:True:=trivial
def tw4833576307216981189:True:=trivial
def tw13504466037077487620:True:=trivial
def tw13448356143973797796:True:=trivial
def tw8369826408522606483:True:=trivial
def tw5910872105254024871:True:=trivial
def tw2738146862119715325:True:=trivial
def tw722039845553510018:True:=trivial
def tw9427255339782963476:True:=trivial
def tw15649467587363671765:True:=trivial
def tw775819657623234488:True:=trivial
def tw8210042270344000728:True:=trivial
def tw3225705668410038778:True:=trivial
def tw17741134442660386110:True:=trivial
def tw15679329817127199884:True:=trivial
def tw1372507308980246232:True:=trivial
def tw14485829000555163500:True:=trivial
def tw1528858640302243243:True:=trivial
def tw7386326262611835354:True:=trivial
def tw4315665329006659556:True:=trivial
def tw4542117952393016814:True:=trivial
def tw4037599540795076949:True:=trivial
def tw12324653573321956683:True:=trivial
def tw12021110685727788334:True:=trivial
def tw8730368139680067759:True:=trivial
def tw4369537082716090278:True:=trivial
def tw3547677179271452719:True:=trivial
def tw3279819248126856422:True:=trivial
def tw13228644859395188631:True:=trivial
def tw8137391324850559864:True:=trivial
def tw10762338636043809638:True:=trivial
def tw11808514090543867038:True:=trivial
def tw5265933304169573820:True:=trivial
def tw3324730950032872631:True:=trivial
def tw16065616283318073231:True:=trivial
def tw9134915701048178984:True:=trivial
def tw4298362211565958141:True:=trivial
def tw2936382447119323029:True:=trivial
def tw9698064248963364447:True:=trivial
def tw7421233297553546884:True:=trivial
def tw13570243397970571531:True:=trivial
def tw5092861771696531492:True:=trivial
def tw11385140062008594355:True:=trivial
def tw2662754346203114208:True:=trivial
def tw506007963919116158:True:=trivial
def tw10321125820080733469:True:=trivial
def tw12839498799412413592:True:=trivial
def tw12515824493229145782:True:=trivial
def tw10614379328575392819:True:=trivial
def tw1641905163085802077:True:=trivial
def tw15685293861115055260:True:=trivial
def tw652096639305581964:True:=trivial
def tw4048545947512811111:True:=trivial
def tw3815538805775044237:True:=trivial
def tw7331265516242619734:True:=trivial
def tw9380203068121570319:True:=trivial
def tw473184324108865925:True:=trivial
def tw5594344378610685493:True:=trivial
def tw11605412405229510740:True:=trivial
def tw15372460573350577439:True:=trivial
def tw7500470230231136550:True:=trivial
def tw14973852448484791150:True:=trivial
def tw2671451862506881830:True:=trivial
def tw1272587587751640916:True:=trivial
def tw15089769167799702110:True:=trivial
def tw7487241906896365149:True:=trivial
def tw16295850180551078120:True:=trivial
def tw18437138188037120995:True:=trivial
def tw12792127502877701050:True:=trivial
def tw9780062978448010392:True:=trivial
def tw10003733657674174485:True:=trivial
def tw18372009959646420580:True:=trivial
def tw10477802578563856908:True:=trivial
def tw13293254537797033251:True:=trivial
end PySem.W.Fast
set_option maxRecDepth 100000 in
set_option maxHeartbeats 0 in
theorem PySem.Challenge.cw_turnguard_k64_whole_thinned_holds : PySem.Challenge.rw_turnguard_k64_whole_thinned.Holds := by
 w_on; o_law; k_head; (case hw=>w_witness2)
 k_fill
 refine TG.walk (l:=PySem.Challenge.rw_turnguard_k64_whole_thinned) rfl rfl (λ w h Y=>PySem.W.kIn_of Y) ?F
 case F =>
  intro w mg fa h KX G hmg
  refine' TG.S3 (w:=w) ⟨?q0,?q1,?q2,?q3,?q4,?q5,?q6,?q7,?q8,?q9,?q10,?q11,?q12,?q13,?q14,?q15,?q16,?q17,?q18,?q19,?q20,?q21,?q22,?q23,?q24,?q25,?q26,?q27,?q28,?q29,?q30,?q31,?q32,?q33,?q34,?q35,?q36,?q37,?q38,?q39,?q40,?q41,?q42,?q43,?q44,?q45,?q46,?q47,?q48,?q49,?q50,?q51,?q52,?q53,?q54,?q55,?q56,?q57,?q58,?q59,?q60,?q61,?q62,?q63,?q64,?q65,?q66,?q67,?q68⟩ hmg
  case q0|q1|q2|q3|q4|q5|q6|q7|q8|q9|q10|q11|q12|q13|q14|q15|q16|q17|q18|q19|q20|q21|q22|q23|q24|q25|q26|q27|q28|q29|q30|q31|q32|q33|q34|q35|q36|q37|q38|q39|q40|q41|q42|q43|q44|q45=>walk_at "dd"
  case q46|q47|q48|q49|q50|q51|q52|q53|q54|q55|q56|q57|q58|q59|q60|q61|q62=>walk_at "nn"
  case q63=>walk_at "ci"
  case q64|q65|q66|q68=>walk_at "ct"
  case q67 =>
   refine' TG.NC KX G ?xU ?xV ?xW ?uf ?ug ?um ?uo ?uq ?ur ?uu ?uv
   case xU|xV|uf|ug|um|uo|uq|ur|uu|uv=>k_is
   case xW=>rfl
end
