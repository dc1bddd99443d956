import PyProof.Rows.All
import Wide.All
import OpenK.AllK
import Wide.FinOn
import Lean
import PyProof.EqAt
import PyProof.EqKinds
import PyProof.TupleCall
import KE.KIsAll
import KE.KMinKey
import KE.KTupSum
import KE.KxSplit
import KE.KxAffix
import KE.KIntText
import PyProof.NeKinds
import PyProof.Rows.EqBoolInt
import KE.KSortTup
import KE.KDictLaws
import KE.KNestM
import KE.KDictSum
import PyProof.Conv_int_bool
import PySem.Challenge.RW_rowdam_k43_windows
noncomputable section
set_option Elab.async false
set_option linter.all false
set_option compiler.extract_closed false
set_option bootstrap.genMatcherCode false
set_option genSizeOf false
set_option maxRecDepth 100000
def xaa:=@PySem.wpAny_bind
def xab:=@PySem.wpAny_pure
def xac:=@if_pos
def xad:=@if_neg
def xae:=@List.length_map
def xaf:=@Nat.le_refl
def xag:=@PySem.Heap.get?_push_of_some
def xah:=@Option.map_eq_some_iff
def xai:=@List.getElem?_eq_some_iff
def xaj:=@List.mem_map
def xak:=@List.map_cons
def xal:=@List.mem_cons_of_mem
def xam:=@List.length_append
def xan:=@List.size_toArray
def xao:=@PySem.Heap.lt_size
def xap:=@Nat.lt_of_lt_of_le
def xaq:=@List.mem_cons
def xar:=@List.getElem?_eq_getElem
def xas:=@Bool.false_ne_true
def xat:=@List.getElem?_append_right
def xau:=@PySem.Heap.get?_push_size
theorem xav:type_of%@List.length_cons:=by intros;rfl
def xaw:=@List.getElem?_map
theorem xax:type_of%@Array.length_toList:=by intros;rfl
def xay:=@Nat.le_trans
def xaz:=@List.mem_cons_self
def xaA:=@Option.some.inj
def xaB:=@List.mem_singleton
def xaC:=@Bool.and_eq_true
def xaD:=@List.append_assoc
def xaE:=@List.mem_append_right
theorem xaF:type_of%@List.length_singleton:=by intros;rfl
def xaG:=@List.getElem?_append_left
def xaH:=@decide_eq_false
def xaI:=@Nat.ne_of_lt
def xaJ:=@List.append_nil
def xaK:=@decide_eq_true
def xaL:=@Array.getElem_mem
def xaM:=@List.map_append
def xaN:=@PySem.wpAny_newObj_type
def xaO:=@PySem.sizeLine_eq
def xaP:=@List.mem_of_getElem?
def xaQ:=@List.mem_append
def xaR:=@List.length_set
def xaS:=@Nat.le_of_lt_succ
def xaT:=@Nat.lt_or_ge
def xaU:=@List.mem_filter
def xaV:=@Nat.le_antisymm
def xaW:=@List.filter_cons_of_neg
def xaX:=@List.filter_cons_of_pos
def xaY:=@decide_false
def xaZ:=@List.drop_eq_getElem_cons
def xa0:=@Nat.zero_le
def xa2:=@PySem.Heap.get?_update_other
def xa3:=@Bool.false_eq_true
def xa4:=@PySem.wpAny_mono
def xa5:=@PySem.W.kia_one
def xa6:=@List.nodup_cons
def xa7:=@List.length_replicate
def xa8:=@PySem.F.slot_dict_itemiterator_next
def xa9:=@List.getElem?_replicate
theorem xba:type_of%@List.getElem?_cons_succ:=by intros;rfl
def xbb:=@PySem.F.slot_dict_keyiterator_next
def xbc:=@List.map_map
def xbd:=@Array.getElem?_eq_getElem
def xbe:=@List.pairwise_append
def xbf:=@Nat.le_of_lt
def xbg:=@Nat.lt_succ_self
def xbh:=@beq_eq_false_iff_ne
def xbi:=@Array.getElem?_toList
def xbj:=@List.getElem?_set
def xbk:=@Nat.lt_of_le_of_lt
def xbl:=@PySem.wpAny_call_entry
def xbm:=@List.all_eq_true
def xbn:=@PySem.Heap.SameBut.update
def xbo:=@Array.toList_append
def xbp:=@decide_eq_true_eq
def xbq:=@PySem.wpAny_dictEntries
def xbr:=@PySem.Paired.length
def xbs:=@PySem.wpAny_holding
def xbt:=@if_false
def xbu:=@List.length_filter_le
def xbv:=@PySem.W.mg_none_of
def xbw:=@Int.emod_nonneg
def xbx:=@Ne.symm
def xby:=@Array.mem_toList_iff
def xbz:=@List.mem_reverse
def xbA:=@Array.toList_push
def xbB:=@of_decide_eq_true
def xbC:=@PySem.mem_of_lookup
theorem xbD:type_of%@List.nil_append:=by intros;rfl
theorem xbE:type_of%@List.length_nil:=by intros;rfl
theorem xbF:type_of%@List.extract_eq_take_drop:=by intros;rfl
def xbG:=@if_true
def xbH:=@PySem.Heap.get?_update_self
def xbI:=@List.length_take
def xbJ:=@beq_self_eq_true
def xbK:=@PySem.Obj.data_mapFields
def xbL:=@List.Perm.eq_of_pairwise
def xbM:=@Int.emod_lt_of_pos
theorem xbN:type_of%@List.any_cons:=by intros;rfl
def xbO:=@List.mem_range
def xbP:=@Bool.eq_iff_iff
def xbQ:=@PySem.size_of_entries
theorem xbR:type_of%@List.replicate_succ:=by intros;rfl
def xbS:=@Nat.sub_self
def xbT:=@Nat.lt_irrefl
def xbU:=@Nat.le_of_not_lt
def xbV:=@List.getElem?_eq_none
def xbW:=@PySem.wpAny_field
theorem xbX:type_of%@Option.map_some:=by intros;rfl
theorem xbY:type_of%@List.find?_cons:=by intros;rfl
def xbZ:=@Array.toList_extract
def xb0:=@PySem.wpAny_typeNameOfWhole_itemiter
def xb1:=@PySem.PassesOwn.never
def xb2:=@List.pairwise_map
def xb3:=@PySem.wpAny_typeNameOfWhole_keyiter
def xb4:=@PySem.wpAny_callSpecial?_slot
def xb5:=@Nat.add_le_add_left
def xb6:=@List.reverse_append
def xb7:=@List.mem_map_of_mem
def xb8:=@List.length_drop
theorem xb9:type_of%@List.lookup_cons:=by intros;rfl
def xca:=@PySem.wpAny_fieldsOf
def xcb:=@PyProof.Rows.callWith_type1
def xcc:=@Array.getD_eq_getD_getElem?
theorem xcd:type_of%@List.set_cons_zero:=by intros;rfl
def xce:=@PySem.wpAny_passesOwn
theorem xcf:type_of%@List.foldl_cons:=by intros;rfl
def xcg:=@PySem.wpAny_notOrdered_dict
def xch:=@PySem.wpAny_dictEpoch
theorem xci:type_of%@List.all_cons:=by intros;rfl
def xcj:=@Array.getElem?_eq_some_iff
def xck:=@List.perm_ext_iff_of_nodup
theorem xcl:type_of%@List.flatten_cons:=by intros;rfl
def xcm:=@List.mem_append_left
def xcn:=@beq_iff_eq
def xco:=@PySem.wpAny_typeNameOf_itemiter
def xcp:=@Nat.le_succ
def xcq:=@PySem.W.mg_of
def xcr:=@List.map_nil
def xcs:=@PySem.wpAny_typeNameOf_keyiter
def xct:=@eq_false
theorem xcu:type_of%@List.filterMap_cons:=by intros;rfl
def xcv:=@List.length_reverse
def xcw:=@List.getElem_of_mem
def xcx:=@List.map_congr_left
def xcy:=@PyProof.Rows.slot_tuple_getitem
def xcz:=@PySem.wpAny_getItem_str_slice
def xcA:=@PySem.F.plainAttrs_dict
def xcB:=@PySem.tupleKind_room_in1
def xcC:=@Nat.not_lt_zero
def xcD:=@PySem.wpAny_setField_rec
theorem xcE:type_of%@List.set_cons_succ:=by intros;rfl
def xcF:=@List.getElem?_set_self
def xcG:=@List.take_of_length_le
def xcH:=@List.drop_eq_nil_of_le
def xcI:=@PySem.wpAny_isOneOf_itemiter
def xcJ:=@PySem.wpAny_truthy_bool
def xcK:=@List.reverse_cons
def xcL:=@List.length_range
theorem xcM:type_of%@Int.toNat_natCast:=by intros;rfl
def xcN:=@Nat.ne_of_gt
def xcO:=@PySem.wpAny_setField
def xcP:=@List.take_append_drop
def xcQ:=@Classical.choose_spec
def xcR:=@Int.mul_lt_mul_of_pos_right
def xcS:=@List.getElem?_set_ne
def xcT:=@List.getElem_mem
def xcU:=@PySem.lookup_relabel_local
def xcV:=@Array.toList_reverse
def xcW:=@PySem.Obj.data_mapDictKeys
theorem xcX:type_of%@List.sum_cons:=by intros;rfl
def xcY:=@List.filter_sublist
def xcZ:=@List.cons.injEq
def xc1:=@List.pairwise_iff_getElem
def xc2:=@PySem.F.args_dict_itemiterator_next_1
def xc3:=@List.mem_filterMap
def xc4:=@PySem.codeAny_mono
def xc5:=@PySem.wpAny_Call_Name_kw
def xc6:=@PySem.W.callWith_K
def xc7:=@List.getElem?_take_of_lt
def xc8:=@Array.size_extract
def xc9:=@PySem.F.args_dict_keyiterator_next_1
def xda:=@List.Nodup.sublist
def xdb:=@PySem.F.entry_dict_itemiterator_next
def xdc:=@Int.mul_comm
def xdd:=@List.drop_zero
def xde:=@PySem.F.slot_dict_itemiterator_iter
def xdf:=@PySem.F.entry_dict_keyiterator_next
theorem xdh:type_of%@List.eraseIdx_cons_succ:=by intros;rfl
def xdi:=@List.ext_getElem?
def xdj:=@Nat.le_succ_of_le
def xdk:=@PySem.wpAny_pyIter_slot
def xdl:=@List.nodup_append
def xdm:=@List.flatMap_cons
def xdn:=@PySem.Calls.callWith_builtin
def xdo:=@List.Perm.append_right
def xdp:=@List.map_id
def xdq:=@List.pairwise_lt_range
def xdr:=@PySem.wpAny_attempt
def xds:=@List.drop_length
def xdt:=@PySem.W.methodCall_KW
def xdu:=@PySem.Obj.isFreed_of_fields
def xdv:=@List.Perm.append_left
def xdw:=@List.perm_append_comm
def xdx:=@List.set_append_right
def xdy:=@PySem.wpAny_isOneOf_keyiter
def xdz:=@Array.toList_eraseIdxIfInBounds
def xdA:=@List.range_succ
def xdB:=@List.of_mem_zip
def xdC:=@PySem.SeqAt.EqAt.same
def xdD:=@PySem.post_val_or_str
def xdE:=@PyProof.Rows.get?_update_seq
def xdF:=@Bool.and_eq_true_iff
def xdG:=@Int.mul_le_mul_of_nonneg_left
def xdH:=@PySem.W.plainGet_of
def xdI:=@Array.getElem?_setIfInBounds
def xdJ:=@List.lt_irrefl
def xdK:=@PySem.F.slot_dict_setdefault
def xdL:=@PySem.F.slot_dict_items_iter
def xdM:=@PySem.boot_len
def xdN:=@PyProof.Rows.mirror_perm
def xdO:=@decide_true
def xdP:=@PySem.SeqAt.EqAt.int_str
def xdQ:=@PySem.SeqAt.EqAt.str_int
def xdR:=@PySem.SeqAt.EqAt.int_int
def xdS:=@PySem.SeqAt.EqAt.str_str
def xdT:=@Or.imp
theorem xdU:type_of%@List.zip_cons_cons:=by intros;rfl
def xdV:=@List.filter_append
def xdW:=@PySem.Calls.Name_function_global
def xdX:=@PyProof.Rows.listUpdate_at
def xdY:=@PySem.wpAny_newList
def xdZ:=@Array.toList_setIfInBounds
def xd0:=@List.getD_eq_getElem?_getD
def xd1:=@PySem.W.kdl_slot_keys_iter
def xd2:=@PySem.W.kitx_list
def xd3:=@PySem.W.kitx_dict
def xd4:=@Option.isSome_map
def xd5:=@PySem.atKey_none_of_get
def xd6:=@List.filter_congr
def xd7:=@Nat.not_le
def xd8:=@List.mem_or_eq_of_mem_set
def xd9:=@PySem.Calls.call_function_entry
def xea:=@List.getElem?_eq_none_iff
def xeb:=@Nat.le_of_eq
def xec:=@PySem.Txt.slice_le
def xed:=@PySem.wpAny_isInstance
def xee:=@PySem.wpAny_comprehension_free
def xef:=@PySem.SeqAt.RcAt.lists_lengths
def xeg:=@PySem.F.slot_list_append
def xeh:=@PySem.F.type_list_append
def xei:=@List.eq_of_mem_replicate
def xej:=@Array.toList_inj
def xek:=@Array.size_setIfInBounds
def xel:=@PySem.call_meetsIn
def xem:=@Int.lt_or_le
def xen:=@PySem.F.plainAttrs_list
def xeo:=@PySem.wpAny_Call_method0_late
def xep:=@PySem.F.slot_dict_items
def xeq:=@PySem.F.plain_list_iadd
def xer:=@Int.dvd_of_emod_eq_zero
def xes:=@PySem.wpAny_execs_nil
def xet:=@PySem.wpAny_specialOf
theorem xeu:type_of%@List.filter_nil:=by intros;rfl
def xev:=@PySem.W.cellsFrom_some
def xew:=@Array.getElem?_eq_none
def xex:=@PySem.F.slot_dict_iter
def xey:=@PySem.F.slot_dict_keys
def xez:=@Int.le_ediv_iff_mul_le
def xeA:=@Int.le_refl
def xeB:=@PySem.Heap.size_push
def xeC:=@Bool.and_false
def xeD:=@List.mem_iff_getElem?
def xeE:=@PySem.wpAny_newTuple
def xeF:=@List.drop_drop
theorem xeG:type_of%@List.take_zero:=by intros;rfl
def xeH:=@List.countP_mono_left
def xeI:=@PySem.F.slot_dict_pop
def xeJ:=@Int.emod_add_mul_ediv
def xeK:=@List.pairwise_reverse
def xeL:=@Nat.not_lt
def xeM:=@List.reverse_reverse
def xeN:=@PySem.entry_at
def xeO:=@PySem.wpAny_standAt
def xeP:=@Bool.and_self
def xeQ:=@Bool.and_true
def xeR:=@Nat.sub_lt_sub_left
def xeS:=@Int.toNat_of_nonneg
def xeT:=@List.filter_eq_self
def xeU:=@PySem.evalArgs_none
def xeV:=@Array.append_assoc
def xeW:=@PySem.W.kitx_tuple
def xeX:=@List.filterMap_map
def xeY:=@List.getElem?_drop
def xeZ:=@Int.mul_emod_right
def xe1:=@List.filter_filter
def xe2:=@List.take_sublist
def xe3:=@Nat.lt_succ_of_lt
def xe4:=@Option.some.injEq
def xe5:=@bne_self_eq_false
def xe6:=@List.getElem_drop
def xe7:=@List.getElem_take
def xe8:=@Int.add_mul
abbrev Fgx:=PySem.W.Frag
abbrev Mgx:=PySem.Str->Option PySem.Value
abbrev Pnx:=List (PySem.Addr×PySem.Obj)
local macro_rules | `(tactic| x_go)=> `(tactic| decide +kernel)
namespace HQ
open PySem PySem.W PySem.Calls PyProof.Rows
noncomputable def Ou {α:Type} (t:BT):(BT->α)->α:= @BT.rec (fun _=>(BT->α)->α) (fun k=>k .nil) (fun v _ _ a b k=>a fun l=>b fun r=>k (.node v l r)) t
theorem Ii {α:Type}:∀(t:BT) (k:BT->α),Ou t k=k t
 |.nil,_=>rfl
 |.node _ l r,_=>(Ii l _).trans (Ii r _)
noncomputable def Dm {α:Type} (n:Nat) (k:Nat->α):α:= @Nat.rec (fun _=>α) (k 0) (fun n _=>k (Nat.succ n)) n
theorem Ov {α:Type}(n:Nat)(k:Nat->α):Dm n k=k n:=by cases n<;>rfl
def frs {α:Type}(s:SharedT)(k:SharedT->α):α:= @SharedT.rec (fun _=>α) (fun T n l g d i o=>Ou T fun T=>Dm n fun n=>Dm i fun i=>k ⟨T,n,l,g,d,i,o⟩) s
theorem Wg {α:Type}(s:SharedT)(k:SharedT->α):frs s k=k s:=(Ii _ _).trans ((Ov _ _).trans (Ov _ _))
abbrev qd:Code->Sem Fin:=Fast.tw11892475500146522536 Fast.tw14364793385576792824
noncomputable def KZ (p:Program) (w:World):SharedT->Thread->Option (SharedT×Thread)
  |⟨T,n,l,g,d,i,o⟩,⟨c,cd,q,fs⟩=>match c with
    |.load .. |.update .. |.alloc .. |.loadIfAlive .. =>Fast.tw10156331382660048174 qd p w ⟨T,n,l,g,d,i,o⟩ ⟨c,cd,q,fs⟩
    |c=>match Fast.tw8437177126325714943 qd p w ⟨{},g,d,i,o⟩ ⟨c,cd,q,fs⟩ with
      |.go ⟨_,g,d,i,o⟩ t=>some (⟨T,n,l,g,d,i,o⟩,t)
      |.halt _ _=>none
theorem zdp {p:Program}{w:World}(s:SharedT)(t:Thread):KZ p w s t=stepT (denote treeTable) p w s t:=by
 obtain⟨T,n,l,g,d,i,o⟩:=s;obtain⟨c,cd,q,fs⟩:=t;rw[show denote treeTable=qd by unfold qd;rw[<-Fast.te11892475500146522536, <-Fast.te14364793385576792824]];cases c<;>(unfold KZ;dsimp only;first |rw[<-Fast.te10156331382660048174] |(unfold stepT;dsimp only;rw[<-Fast.te8437177126325714943];cases step qd p w _ _<;>rfl))
abbrev OS:=Option SharedT
noncomputable def bd (p:Program) (w:World) (n:Nat) (ih:SharedT->Thread->OS) (s:SharedT) (t:Thread):OS:=
 @Bool.rec (fun _=>OS) (@Bool.rec (fun _=>OS) none (@Option.rec _ (fun _=>OS) none (fun r=> @Prod.rec _ _ (fun _=>OS) (fun s t=> @Bool.rec (fun _=>OS) (ih s t) (frs s fun s=>ih s t) (Nat.beq (n % 64) 0)) r) (KZ p w s t)) (Fast.tw6613529449190102663 11 (some (.ref 6)) t)) (some s) (through t)
noncomputable def go (p:Program) (w:World) (n:Nat):SharedT->Thread->OS:= @Nat.rec (fun _=>SharedT->Thread->OS) (fun _ _=>none) (bd p w) n
theorem xZ {p:Program}{w:World}:∀{n:Nat} {s s':SharedT} {t:Thread},go p w n s t=some s'->topRun treeTable p w 11 (some (.ref 6)) n s.abs t=some s'.abs
  |0,_,_,_,h=>by cases h
  |n + 1,s,s',t,h=>by
    rw[show go p w (n + 1) s t=bd p w n (go p w n) s t from rfl]at h;unfold bd at h;rw[zdp, <-Fast.te6613529449190102663]at h;unfold topRun
    cases ht:through t with
    |true=>rw[ht]at h;cases h;rfl
    |false=>
      rw[ht]at h
      cases hk:stepOk 11 (some (.ref 6)) t with
      |false=>rw[hk]at h;cases h
      |true=>
        rw[hk]at h
        cases hs:stepT (denote treeTable) p w s t with
        |none=>rw[hs]at h;cases h
        |some r=>
          obtain⟨s₂,t₂⟩:=r;rw[hs]at h;dsimp only at h ⊢;rw[stepT_spec hs];rw[Wg]at h;exact xZ (by revert h;cases Nat.beq (n % 64) 0<;>exact id)
noncomputable def mkT:List Obj->Nat->BT->BT
 | [],_,t=>t
 |o::l,i,t=>mkT l (i + 1) (t.ins i o)
noncomputable def bS (w:World) (o:OsState):SharedT:=⟨mkT (boot_heap w.params).objs.toList 0 .nil,11,{},⟨[]⟩,boot_drawn,boot_toks,o⟩
theorem Ut (w:World)(o:OsState):(bS w o).abs=⟨boot_heap w.params,⟨[]⟩,boot_drawn,boot_toks,o⟩:=by kernel_rfl
theorem Uu (P:Params):((boot_heap P).isNs mainGlobals && (Array.mk []:Array GenState).size==0,(boot_heap P).objs.size,(boot_heap P).nsMap mainGlobals "__annotations__")=(true,11,some (.ref 6)):=by kernel_rfl
noncomputable def lst {α:Type} (T:BT) (n:Nat):List Obj->(List Obj->α)->α:=
 @Nat.rec (fun _=>List Obj->(List Obj->α)->α) (fun a k=>k a) (fun i ih a k=> @Option.rec Obj (fun _=>α) (ih (default::a) k) (fun o=> @Obj.rec (fun _=>α) (fun c d t l=>ih (⟨c,d,t,l⟩::a) k) o) (T.get i)) n
theorem PX {α:Type}(T:BT):∀(n:Nat) (a:List Obj) (k:List Obj->α),lst T n a k=k (T.list n ++ a)
  |0,_,_=>rfl
  |n + 1,a,k=>by
    rw[show T.list (n + 1)=T.list n ++ [(T.get n).getD default] by unfold BT.list;rw[xdA,xaM];rfl,xaD];unfold lst;dsimp only;cases T.get n<;>exact PX T n _ k
noncomputable def Mq {α:Type} (s:SharedT) (k:Shared->α):α:= @SharedT.rec (fun _=>α) (fun T n l g d i o=>lst T n [] fun a=>k ⟨⟨⟨a⟩,l⟩,g,d,i,o⟩) s
theorem Mr {α:Type}(s:SharedT)(k:Shared->α):Mq s k=k s.abs:=(PX _ _ _ _).trans (by rw[xaJ];rfl)
section
variable {p q:Program}{lo:List Str}{Xt:Shared->Bool}{α:Type}{Yf:Shared->α}{Ya:World->α}{N:Nat}{g0:Bool}{B C:Prop}
abbrev Pre (_:LeftO p q lo Xt Yf Ya N g0/\B->C):Prop:=(opening p=plainProg p.main.scope.names/\∀s,fenceModules? p s=some s)/\Nat.ble 600 N=true
abbrev See {β:Type}(p:Program)(N:Nat)(v:World->World)(f:World->Shared->β)(y:World->β):Prop:=∀w o,(go p (v w) N (bS (v w) o) (topStub p)).map (fun s=>Mq s (f (v w)))=some (y (v w))
abbrev lX (v:World->World)(_:LeftO p q lo Xt Yf Ya N g0/\B->C):Prop:=
 See p N v (fun w s=>(staticsOk (importedModules p.main.body) (boot_heap w.params) s.heap && namesBound p s.heap && gensDone s && laidKept (boot_heap w.params) s.heap,Yf s)) fun w=>(true,Ya w)
abbrev lY (v:World->World)(_:LeftO p q lo Xt Yf Ya N g0/\B->C):Prop:=See p N v (fun _ s=>Fast.tw4187177175401517315 q lo (importedModules p.main.body) Xt g0 s) fun _=>openGood q lo
theorem left {v:World->World}{H:LeftO p q lo Xt Yf Ya N g0/\B->C}(e:Pre H)(a:lX v H)(b:lY v H)(w:World):
  (openEnds treeTable p (v w) N).map (fun s=>(openSeen q lo (importedModules p.main.body) Xt g0 s,Yf s))=some (openGood q lo,Ya (v w)):=by
 obtain⟨⟨h,gs,d,k,o⟩,e1,e2⟩:=xah.mp (boot_open e.1.1 e.2 e.1.2 (v w));obtain⟨rfl,rfl,rfl,rfl⟩:h=boot_heap (v w).params/\gs=⟨[]⟩/\d=boot_drawn/\k=boot_toks:=by simpa using e2
 obtain⟨s,hs,hv⟩:=xah.mp (a w o);have hb:=b w o;rw[hs,xbX,Mr, <-Fast.te4187177175401517315]at hb;rw[Mr]at hv;obtain⟨l1,l3⟩:=Prod.mk.inj hv;obtain⟨z1,z2,z3⟩:_/\_/\_:=by simpa only[Prod.mk.injEq] using Uu (v w).params
 have hr:=xZ hs;rw[Ut]at hr;have t:topFrom treeTable p (v w) N ⟨boot_heap (v w).params,⟨[]⟩,boot_drawn,boot_toks,o⟩=some s.abs:=by
  unfold topFrom;dsimp only;rw[z1,z2,z3,hr];dsimp only[Option.bind_some];rw[l1]
 unfold openEnds;rw[e1,Option.bind_some,t];exact congrArg some (Prod.ext (xaA hb) l3)
theorem two (row:String){H:LeftO p q lo Xt Yf Ya N g0/\B->C}(e:Pre H)(a:lX (·.withFollow row false) H)(b:lY (·.withFollow row false) H)(c:lX (·.withFollow row true) H)(d:lY (·.withFollow row true) H)(hB:B):C:=
 H ⟨fun w=>by
  have x:=left e a b w;have y:=left e c d w;have z:=World.withFollow_self w row;cases h:w.params.followText row<;>rw[h]at z<;>simp only[z]at x y<;>assumption,hB⟩
end
end HQ
section
local macro_rules
  | `(tactic| refine $f:term $as:term*)=>do
    let mut bs:= #[]
    let mut hit:=false
    for a in as do
      if a.raw.isOfKind ``Lean.Parser.Term.syntheticHole && a.raw[1].getId== `hl then
        hit:=true
        bs:=bs.push (<- `((And.left ?hx)))
      else if a.raw.isOfKind ``Lean.Parser.Term.syntheticHole && a.raw[1].getId== `hc then
        bs:=bs.push (<- `((And.right ?hx)))
      else bs:=bs.push a
    if hit then `(tactic| refine $f $bs*) else Lean.Macro.throwUnsupported
set_option maxHeartbeats 0 in
open_top My.hdAll for PySem.Challenge.rw_rowdam_k43_windows
theorem My.he:HQ.Pre My.hdAll:=⟨⟨by kernel_rfl,fun _=>by kernel_rfl⟩,by kernel_rfl⟩
theorem My.hBf:HQ.lY (·.withFollow "special-get-raises" false) My.hdAll:=fun _ _=>by kernel_rfl
theorem My.hBt:HQ.lY (·.withFollow "special-get-raises" true) My.hdAll:=fun _ _=>by kernel_rfl
theorem My.hAf:HQ.lX (·.withFollow "special-get-raises" false) My.hdAll:=fun _ _=>by kernel_rfl
theorem My.hAt:HQ.lX (·.withFollow "special-get-raises" true) My.hdAll:=fun _ _=>by kernel_rfl
end
namespace L2
open PySem PySem.Spec PyProof.Rows
abbrev Key:=Sum Int Str
noncomputable def yh:Key->Value->Bool
 |.inl k,v=>Value.isInt k v
 |.inr x,v=>Value.isStrOf x v
def IV (w:World):Key->Int
 |.inl k=>hashInt k
 |.inr x=>hashStr w x
theorem pR:∀{k:Key} {v:Value},yh k v=true->(∃i t,k=Sum.inl i/\v=Value.int i t)\/(∃x t,k=Sum.inr x/\v=Value.str x t)
  |.inl i,v,h=>by
    obtain⟨t,e⟩:=Value.isInt_shape (k:=i) (v:=v) h;exact .inl ⟨i,t,rfl,e⟩
  |.inr x,v,h=>by
    obtain⟨t,e⟩:=Value.isStrOf_shape (x:=x) (v:=v) h;exact .inr ⟨x,t,rfl,e⟩
theorem Xd (i:Int)(t:Tok):yh (.inl i) (.int i t)=true:=by simp[yh,Value.isInt]
theorem Xe (x:Str)(t:Tok):yh (.inr x) (.str x t)=true:=by simp[yh,Value.isStrOf]
theorem Xf (a b:Int):decide ((Sum.inl a:Key)=Sum.inl b)=(a==b):=by
 by_cases e:a=b
 ·subst e;simp
 ·have h:¬ (Sum.inl a:Key)=Sum.inl b:=fun q=>e (Sum.inl.inj q);rw[xaH h];exact(xbh.mpr e).symm
theorem Xi (a b:Str):decide ((Sum.inr a:Key)=Sum.inr b)=decide (a=b):=by
 by_cases e:a=b
 ·subst e;simp
 ·have h:¬ (Sum.inr a:Key)=Sum.inr b:=fun q=>e (Sum.inr.inj q);rw[xaH h,xaH e]
theorem Xg (a:Int)(b:Str):decide ((Sum.inl a:Key)=Sum.inr b)=false:=xaH (fun q=>nomatch q)
theorem Xh (a:Str)(b:Int):decide ((Sum.inr a:Key)=Sum.inl b)=false:=xaH (fun q=>nomatch q)
noncomputable def eX (prog:Program) (w:World):PySem.KeyKind prog w Key where
 is:=yh
 hash:=IV w
 inj:=fun v a b ha hb=>by
  rcases pR ha with⟨i,t,rfl,rfl⟩ |⟨x,t,rfl,rfl⟩
  ·rcases pR hb with⟨j,u,rfl,e⟩ |⟨y,u,rfl,e⟩
   ·injection e with e1 _;rw[e1]
   ·exact nomatch e
  ·rcases pR hb with⟨j,u,rfl,e⟩ |⟨y,u,rfl,e⟩
   ·exact nomatch e
   ·injection e with e1 _;rw[e1]
 byValue:=fun k v h=>by
  rcases pR h with⟨i,t,rfl,rfl⟩ |⟨x,t,rfl,rfl⟩<;>rfl
 pyHash:=fun hv h=>by
  rcases pR hv with⟨i,t,rfl,rfl⟩ |⟨x,t,rfl,rfl⟩
  ·exact wpAny_pyHash_int h
  ·exact wpAny_pyHash_str h
 eqBool:=fun hu hv h=>by
  rcases pR hu with⟨i,t,rfl,rfl⟩ |⟨x,t,rfl,rfl⟩
  ·rcases pR hv with⟨j,u,rfl,rfl⟩ |⟨y,u,rfl,rfl⟩
   ·rw[Xf]at h;exact wpAny_eqBool_int h
   ·rw[Xg]at h;exact xdP i t y u _ _ _ _ h
  ·rcases pR hv with⟨j,u,rfl,rfl⟩ |⟨y,u,rfl,rfl⟩
   ·rw[Xh]at h;exact xdQ x t j u _ _ _ _ h
   ·rw[Xi]at h;exact wpAny_eqBool_str h
 «strs» :=fun k x t v h=>by
  rcases pR h with⟨i,u,rfl,e⟩ |⟨y,u,rfl,e⟩
  ·exact nomatch e
  ·injection e with e1 _
   subst e1;cases v<;>rfl
theorem X6 (prog:Program)(w:World)(i:Int)(t:Tok):(eX prog w).is (.inl i) (.int i t)=true:=Xd i t
theorem X7 (prog:Program)(w:World)(x:Str)(t:Tok):(eX prog w).is (.inr x) (.str x t)=true:=Xe x t
inductive V where
 |non |bl (b:Bool) |int (i:Int) |str (x:Str) |byt (b:Array UInt8) |flt (b:UInt64) |ref (a:Addr) |ty (n:String)
 deriving DecidableEq
noncomputable def RelV:V->Value->Prop
 |.non,u=>u=Value.none
 |.bl b,u=>u=Value.bool b
 |.int i,u=>∃t,u=Value.int i t
 |.str x,u=>∃t,u=Value.str x t
 |.byt b,u=>∃t,u=Value.bytes b t
 |.flt b,u=>∃t,u=Value.float b t
 |.ref a,u=>u=Value.ref a
 |.ty n,u=>u=Value.type n
abbrev Vals:List V->List Value->Prop:=Paired RelV
theorem Vals.length (r:Vals xs us):xs.length=us.length:=xbr r
theorem Vals.get:∀{xs:List V} {us:List Value} {i:Nat} {x:V},Vals xs us->xs[i]? =some x->∃u,us[i]? =some u/\RelV x u
  |_,_,_,_,.nil,e=>by simp at e
  |_,_,0,_,.cons r _,e=>by simp at e;subst e;exact⟨_,rfl,r⟩
  |_,_,i + 1,x,.cons _ t,e=>by
    obtain⟨u,h1,h2⟩:=Vals.get (i:=i) (x:=x) t (by simpa using e);exact⟨u,by simpa using h1,h2⟩
theorem Vals.set (r:RelV x u):∀{xs:List V} {us:List Value} (i:Nat),Vals xs us->Vals (xs.set i x) (us.set i u)
 |_,_,_,.nil=>.nil
 |_,_,0,.cons _ t=>.cons r t
 |_,_,i + 1,.cons q t=>.cons q (Vals.set r i t)
theorem Vals.append:∀{xs ys:List V} {us ws:List Value},Vals xs us->Vals ys ws->Vals (xs ++ ys) (us ++ ws)
 |_,_,_,_,.nil,s=>s
 |_,_,_,_,.cons r t,s=>.cons r (Vals.append t s)
theorem Vals.take:∀{xs:List V} {us:List Value} (n:Nat),Vals xs us->Vals (xs.take n) (us.take n)
 |_,_,0,_=>.nil
 |_,_,_ + 1,.nil=>.nil
 |_,_,n + 1,.cons r t=>.cons r (Vals.take n t)
theorem Vals.drop:∀{xs:List V} {us:List Value} (n:Nat),Vals xs us->Vals (xs.drop n) (us.drop n)
 |_,_,0,r=>r
 |_,_,_ + 1,.nil=>.nil
 |_,_,n + 1,.cons _ t=>Vals.drop n t
noncomputable def cI:Option V->Option Value->Prop
 |some v,some u=>RelV v u
 |none,none=>True
 |_,_=>False
def KV {κ:Type}:List (κ×V)->List (κ×Value)->Prop:=Paired fun(p:κ×V) (q:κ×Value)=>p.1=q.1/\RelV p.2 q.2
def kV:Key->V
 |.inl i=>.int i
 |.inr x=>.str x
inductive HO where
  |lst (xs:List V)
  |tup (xs:List V)
  |dK (kvs:List (Key×V)) |dT (kvs:List (List Key×V))
  |set (S:Int->Bool) (n:Nat)
  |ins (C dx:Addr) (fs:List (Str×V))
  |own (x:Addr)
  |xd (fs:List (Str×V))
  |met (f x:Addr)
  |rng (lo hi:Int)
  |frz (o:Obj) (u:HO)
  |tbl (ps:Array Value)
  |ext (φ:Heap->Prop)
abbrev Hp:=Addr->Option HO
noncomputable def upd (H:Hp) (a:Addr) (o:HO):Hp:=fun b=>if b=a then some o else H b
theorem bJ:upd H a o a=some o:=by unfold upd;rw[xac rfl]
theorem aW (h:b≠a):upd H a o b=H b:=by unfold upd;rw[xad h]
theorem Lw:upd (upd H a o) a u=upd H a u:=by
 funext b;unfold upd;split<;>rfl
theorem D_ {H:Hp}{a b:Addr}{o u:HO}(h:H a=some o)(h':H b=some u)(d:o≠u):a≠b:=by
 intro e;subst e;rw[h]at h';exact d (xaA h')
theorem j5 {H:Hp}{a b:Addr}{o:HO}(h:H a=some o)(h':H b=none):a≠b:=by
 intro e;subst e;rw[h]at h';cases h'
section
variable (P:Program)(w:World)
noncomputable def cH (H:Hp) (h:Heap) (a:Addr):HO->Prop
 |.lst xs=>xs.length<=sizeLine/\∃(its:List Value) (n:Nat),Vals xs its/\h.get? a=some {cls:=.type "list",data:=.seq its.toArray n}
 |.tup xs=>xs.length<=sizeLine/\∃its:List Value,Vals xs its/\IsTup h a its.toArray
 |.dK kvs=>kvs.length<=sizeLine/\(a==sysModules)=false/\∃vs,KV kvs vs/\h.DictOf (eX P w) a vs
 |.dT kvs=>kvs.length<=sizeLine/\(a==sysModules)=false/\∃xs:List (List Key×Addr×Value),
   Paired (fun(p:List Key×V) (q:List Key×Addr×Value)=>p.1=q.1/\H q.2.1=some (.tup (p.1.map kV))/\RelV p.2 q.2.2) kvs xs/\
   ∃o es ep,h.get? a=some o/\o.ExactDict/\o.data=.dict es ep/\es.toList=xs.map (entryOfKey (tupleKind (eX P w)))/\(xs.map (·.1)).Nodup
 |.set S n=>h.SetOf (intKind P w) a S n
 |.ins C dx fs=>H dx=some (.own a)/\fs.length<=1000/\dx≠a/\h.get? a=some (PySem.W.instObj C dx)/\
   ∃mA,h.Ns1 dx mA/\(∀f,cI (fs.lookup f) (mA f))/\PySem.Within mA (fs.map (·.1))
 |.own _=>∃o,h.get? a=some o
 |.xd fs=>∃mA,h.Ns1 a mA/\∀f,cI (fs.lookup f) (mA f)
 |.rng lo hi=>∃t u v,h.get? a=some {cls:=.type "range",data:=.fields #[.int lo t,.int hi u,.int 1 v]}
 |.frz o u=>h.get? a=some o/\cH H h a u
 |.tbl ps=>h.get? a=some {cls:=.none,data:=.fields ps}
 |.met f x=>h.get? a=some (PySem.W.methodObj (.ref f) (.ref x))
 |.ext φ=>φ h/\(∃o,h.get? a=some o)/\∀h1 h2:Heap,φ h1->(∀o,h1.get? a=some o->h2.get? a=some o)->φ h2
def bZ (H:Hp)(h:Heap):Prop:=∀a o,H a=some o->cH P w H h a o
end
section
variable {P:Program}{w:World}{H H':Hp}{h h':Heap}{a:Addr}{o:HO}
theorem cH.lt (x:cH P w H h a o):a<h.objs.size:=by
 cases o with
 |lst xs=>obtain⟨_,_,_,_,e⟩:=x;exact xao e
 |tup xs=>obtain⟨_,_,_,p⟩:=x;exact p.lt
 |dK kvs=>obtain⟨_,_,_,_,o,_,_,e,_⟩:=x;exact xao e
 |dT kvs=>obtain⟨_,_,_,_,o,_,_,e,_⟩:=x;exact xao e
 |set S n=>obtain⟨o,_,_,_,e,_⟩:=x;exact xao e
 |ins C dx fs=>obtain⟨_,_,_,e,_⟩:=x;exact xao e
 |own y=>obtain⟨_,e⟩:=x;exact xao e
 |xd fs=>obtain⟨_,⟨_,_,_,e,_⟩,_⟩:=x;exact xao e
 |rng lo hi=>obtain⟨_,_,_,e⟩:=x;exact xao e
 |frz ob u=>obtain⟨e,_⟩:=x;exact xao e
 |tbl ps=>exact xao (show h.get? a=some _ from x)
 |met f y=>exact xao (show h.get? a=some _ from x)
 |ext φ=>obtain⟨_,⟨_,e⟩,_⟩:=x;exact xao e
theorem Paired.mapP:∀{l₁:List α} {l₂:List β},Paired F l₁ l₂->(∀a b,F a b->G a b)->Paired G l₁ l₂
 |_,_,.nil,_=>.nil
 |_,_,.cons r t,f=>.cons (f _ _ r) (Paired.mapP t f)
theorem cH.stay (x:cH P w H h a o)(k:∀b u,(b=a\/H b=some (.own a))->h.get? b=some u->h'.get? b=some u)
    (ho:∀b,H b=some (.own a)->H' b=some (.own a)) (ht:∀b xs,H b=some (.tup xs)->H' b=some (.tup xs)):cH P w H' h' a o:=by
  induction o with
  |lst xs=>obtain⟨z,its,n,r,e⟩:=x;exact⟨z,its,n,r,k _ _ (.inl rfl) e⟩
  |tup xs=>obtain⟨z,its,r,ob,e,c⟩:=x;exact⟨z,its,r,ob,k _ _ (.inl rfl) e,c⟩
  |dK kvs=>obtain⟨z,y,vs,r,ob,es,ep,e,c⟩:=x;exact⟨z,y,vs,r,ob,es,ep,k _ _ (.inl rfl) e,c⟩
  |dT kvs=>
    obtain⟨z,y,xs,r,ob,es,ep,e,c⟩:=x;exact⟨z,y,xs,Paired.mapP r fun p q z=>⟨z.1,ht _ _ z.2.1,z.2.2⟩,ob,es,ep,k _ _ (.inl rfl) e,c⟩
  |set S n=>obtain⟨ob,es,ep,t,e,c⟩:=x;exact⟨ob,es,ep,t,k _ _ (.inl rfl) e,c⟩
  |ins C dx fs=>
    obtain⟨d,z,ne,e,mA,⟨od,es,ep,e2,c⟩,r⟩:=x;exact⟨ho _ d,z,ne,k _ _ (.inl rfl) e,mA,⟨od,es,ep,k _ _ (.inr d) e2,c⟩,r⟩
  |own y=>obtain⟨ob,e⟩:=x;exact⟨ob,k _ _ (.inl rfl) e⟩
  |xd fs=>obtain⟨mA,⟨od,es,ep,e,c⟩,r⟩:=x;exact⟨mA,⟨od,es,ep,k _ _ (.inl rfl) e,c⟩,r⟩
  |rng lo hi=>obtain⟨t,u,v,e⟩:=x;exact⟨t,u,v,k _ _ (.inl rfl) e⟩
  |frz ob u ih=>obtain⟨e,q⟩:=x;exact⟨k _ _ (.inl rfl) e,ih q⟩
  |tbl ps=>
    have e:h.get? a=some {cls:=.none,data:=.fields ps}:=x;show h'.get? a=some {cls:=.none,data:=.fields ps};exact k a _ (.inl rfl) e
  |met f y=>
    have e:h.get? a=some (PySem.W.methodObj (.ref f) (.ref y)):=x;show h'.get? a=some (PySem.W.methodObj (.ref f) (.ref y));exact k a _ (.inl rfl) e
  |ext φ=>obtain⟨p,⟨o,e⟩,st⟩:=x;exact⟨st _ _ p fun o q=>k _ _ (.inl rfl) q,⟨o,k _ _ (.inl rfl) e⟩,st⟩
theorem bZ.lt (x:bZ P w H h)(e:H a=some o):a<h.objs.size:=(x a o e).lt
theorem bZ.fresh (x:bZ P w H h)(e:h.objs.size<=a):H a=none:=by
 cases q:H a with
 |none=>rfl
 |some u=>exact absurd (xap (x.lt q) e) (xbT _)
theorem bZ.kept (x:bZ P w H h)(k:∀b u,h.get? b=some u->h'.get? b=some u):bZ P w H h':=fun a o e=>
 (x a o e).stay (fun b u _ q=>k b u q) (fun _ q=>q) fun _ _ q=>q
theorem bZ.laid (x:bZ P w H h)(k:∀b u,h.get? b=some u->h'.get? b=some u)(hp:h.objs.size<=a)(new:cH P w (upd H a o) h' a o):bZ P w (upd H a o) h':=fun b u e=>by
 have hn:=x.fresh hp
 by_cases hb:b=a
 ·subst hb;rw[bJ]at e;cases e;exact new
 ·rw[aW hb]at e;exact(x b u e).stay (fun c v _ q=>k c v q) (fun c q=>by rw[aW (j5 q hn)];exact q) fun c xs q=>by rw[aW (j5 q hn)];exact q
end
def Rd (H:Hp)(a:Addr)(u:HO):Prop:=H a=some u\/∃o,H a=some (.frz o u)
theorem Rd.ok (r:Rd H a u)(x:bZ P w H h):cH P w H h a u:=by
 rcases r with r |⟨o,r⟩
 ·exact x a u r
 ·obtain⟨_,q⟩:=x a _ r;exact q
noncomputable def yM:Option HO->Prop
 |some (.lst _)=>True
 |some (.dK _)=>True
 |some (.dT _)=>True
 |some (.set _ _)=>True
 |some (.ins _ _ _)=>True
 |some (.ext _)=>True
 |_=>False
section
variable {P:Program}{w:World}{H:Hp}{h h':Heap}{x e:Addr}{o':HO}
theorem bZ.write (ok:bZ P w H h)(mu:yM (H x))(he:e=x\/H e=some (.own x))(k:∀b u,b≠e->h.get? b=some u->h'.get? b=some u)(heo:∃u,h'.get? e=some u)
  (new:cH P w (upd H x o') h' x o'):bZ P w (upd H x o') h':=fun b u q=>by
 have nown:∀c y,H c=some (.own y)->c≠x:=fun c y r z=>by subst z;rw[r]at mu;exact mu
 have ntup:∀c xs,H c=some (.tup xs)->c≠x:=fun c xs r z=>by subst z;rw[r]at mu;exact mu
 by_cases hb:b=x
 ·subst hb;rw[bJ]at q;cases q;exact new
 ·rw[aW hb]at q
  by_cases hbe:b=e
  ·have q':H b=some (.own x):=by
    rcases he with z |z
    ·exact absurd (hbe.trans z) hb
    ·rw[hbe];exact z
   rw[q]at q';cases q';obtain⟨v,hv⟩:=heo;exact⟨v,by rw[hbe];exact hv⟩
  ·refine(ok b u q).stay (fun c v hc r=>k c v ?_ r) (fun c r=>by rw[aW (nown c b r)];exact r) fun c xs r=>by rw[aW (ntup c xs r)];exact r
   rcases hc with rfl |hc
   ·exact hbe
   ·rintro rfl;rcases he with z |z
    ·exact nown c b hc z
    ·rw[hc]at z;cases z;exact hb rfl
end
structure Un (fs ex:List Addr)(H H':Hp)(h h':Heap):Prop where
 keep:∀b o,h.get? b=some o->H b=none->b∉fs->b∉ex->h'.get? b=some o
 slot:∀b o,h.get? b=some o->H b=none->b∈fs->b∉ex->∃sl,h'.get? b=some {o with slots:=sl}
 free:∀b o,h.get? b=some o->H b=none->b∉ex->H' b=none
 there:∀b o,h.get? b=some o->b∉ex->∃o',h'.get? b=some o'
 tups:∀b xs,H b=some (.tup xs)->H' b=some (.tup xs)
 frzs:∀b o u,H b=some (.frz o u)->H' b=some (.frz o u)
 tbls:∀b ps,H b=some (.tbl ps)->∃more,H' b=some (.tbl (ps ++ more))
section
variable {fs fs' ex ex':List Addr}{H H1 H2:Hp}{h h1 h2 h':Heap}{a x e:Addr}{o:HO}
theorem Un.any (u:Un fs ex H H1 h h1)(q:h.get? b=some ob)(n:H b=none)(hx:b∉ex):∃sl,h1.get? b=some {ob with slots:=sl}:=by
 by_cases hb:b∈fs
 ·exact u.slot b ob q n hb hx
 ·exact⟨ob.slots,u.keep b ob q n hb hx⟩
theorem Un.trans (a:Un fs ex H H1 h h1)(b:Un fs ex H1 H2 h1 h2):Un fs ex H H2 h h2 where
 keep:=fun c ob q n hc hx=>b.keep c ob (a.keep c ob q n hc hx) (a.free c ob q n hx) hc hx
 slot:=fun c ob q n hc hx=>by
  obtain⟨sl,e1⟩:=a.slot c ob q n hc hx;obtain⟨sl',e2⟩:=b.slot c _ e1 (a.free c ob q n hx) hc hx;exact⟨sl',e2⟩
 free:=fun c ob q n hx=>by
  obtain⟨o',e1⟩:=a.there c ob q hx;exact b.free c o' e1 (a.free c ob q n hx) hx
 there:=fun c ob q hx=>by
  obtain⟨o',e1⟩:=a.there c ob q hx;exact b.there c o' e1 hx
 tups:=fun c xs q=>b.tups c xs (a.tups c xs q)
 frzs:=fun c ob xs q=>b.frzs c ob xs (a.frzs c ob xs q)
 tbls:=fun c ps q=>by
  obtain⟨m1,e1⟩:=a.tbls c ps q;obtain⟨m2,e2⟩:=b.tbls c _ e1;exact⟨m1 ++ m2,by rw[e2,xeV]⟩
theorem Un.kept (k:∀b u,h.get? b=some u->h'.get? b=some u):Un fs ex H H h h':=
 ⟨fun b ob q _ _ _=>k b ob q,fun b ob q _ _ _=>⟨ob.slots,k b ob q⟩,fun _ _ _ n _=>n,fun b ob q _=>⟨ob,k b ob q⟩,fun _ _ q=>q,fun _ _ _ q=>q,fun _ ps q=>⟨#[],by rw[q];simp⟩⟩
theorem Un.refl:Un fs ex H H h h:=Un.kept fun _ _ q=>q
theorem Un.laid (k:∀b u,h.get? b=some u->h'.get? b=some u)(hp:h.objs.size<=a)(hn:H a=none):Un fs ex H (upd H a o) h h' where
 keep:=fun b u q _ _ _=>k b u q
 slot:=fun b u q _ _ _=>⟨u.slots,k b u q⟩
 free:=fun b u q n _=>by rw[aW (xaI (xap (xao q) hp))];exact n
 there:=fun b u q _=>⟨u,k b u q⟩
 tups:=fun b xs q=>by rw[aW (j5 q hn)];exact q
 frzs:=fun b u xs q=>by rw[aW (j5 q hn)];exact q
 tbls:=fun b ps q=>⟨#[],by rw[aW (j5 q hn),q];simp⟩
theorem Un.write (mu:yM (H x))(he:e=x\/H e=some (.own x))(k:∀b u,b≠e->h.get? b=some u->h'.get? b=some u)(heo:∃u,h'.get? e=some u):Un fs ex H (upd H x o) h h':=by
 have hx:∀b,H b=none->b≠x:=fun b n z=>by subst z;rw[n]at mu;exact mu
 have hb:∀b,H b=none->b≠e:=fun b n z=>by
  subst z;rcases he with r |r
  ·exact hx b n r
  ·rw[n]at r;cases r
 have hm:∀b u,H b=some u->¬ yM (some u)->b≠x:=fun b u q nm z=>by subst z;rw[q]at mu;exact nm mu
 refine ⟨fun b u q n _ _=>k b u (hb b n) q,fun b u q n _ _=>⟨u.slots,k b u (hb b n) q⟩,fun b u q n _=>by rw[aW (hx b n)];exact n,fun b u q _=>?_,
  fun b xs q=>by rw[aW (hm b _ q fun z=>z)];exact q,fun b u xs q=>by rw[aW (hm b _ q fun z=>z)];exact q,fun b ps q=>⟨#[],by rw[aW (hm b _ q fun z=>z),q];simp⟩⟩
 by_cases hbe:b=e
 ·subst hbe;exact heo
 ·exact⟨u,k b u hbe q⟩
theorem Un.mono (u:Un fs ex H H1 h h1)(hs:∀b∈fs,b∈fs')(hx:∀b∈ex,b∈ex'):Un fs' ex' H H1 h h1:=
 ⟨fun b ob q n hb he=>u.keep b ob q n (fun z=>hb (hs b z)) fun z=>he (hx b z),fun _ _ q n _ he=>u.any q n fun z=>he (hx _ z),fun b ob q n he=>u.free b ob q n fun z=>he (hx b z),fun b ob q he=>u.there b ob q fun z=>he (hx b z),u.tups,u.frzs,u.tbls⟩
end
noncomputable def Gf (h:Heap) (H:Hp):List Addr:=(List.range h.objs.size).filter fun a=>(H a).isSome
def eV (h:Heap)(H:Hp):Heap:=PySem.W.hideAll h (Gf h H)
theorem Wr (h:Heap)(H:Hp):(eV h H).objs.size=h.objs.size:=PySem.W.hideAll_size _ _
theorem Wq (e:h.get? b=some o)(n:H b=none):(eV h H).get? b=some o:=
 PySem.W.hideAll_get _ e fun hm=>by
  have q:(H b).isSome=true:=(xaU.mp hm).2;rw[n]at q;simp at q
theorem YT (e:(eV h H).get? b=some o):h.get? b=some o/\H b=none:=by
  have e':h.get? b=some o:=PySem.W.of_hideAll (Gf h H) e;refine⟨e',?_⟩
  cases q:H b with
  |none=>rfl
  |some x=>
    have hm:b∈Gf h H:=xaU.mpr ⟨xbO.mpr (xao e'),by simp[q]⟩;have z:(eV h H).get? b=none:=PySem.W.hideAll_none (Gf h H) hm;rw[z]at e;cases e
structure Mod (K:Fgx)(mg:Mgx)(base:Heap):Prop where
 kin:K.In base
 glob:base.Ns mainGlobals mg
 blt:∃mb,base.Ns builtinsNs mb/\∀x:Str,x≠"__name__"->mb x=bootBuiltins x
 nolimit:base.NoLimit
structure Cx where
 prog:Program
 w:World
 K:Fgx
 mg:Mgx
 base:Heap
 A:Around
 N:List Str
 s₀:Shared
 H₀:Hp
 env:Env
 outer:List Env
 stack:List Env
 ex:List Addr
 fn:Str->Bool
 calm:Bool
 pn:Pnx
 xe:Value->Shared->Prop
def frs (l:List Env):List Addr:=l.filterMap (·.frame)
abbrev Cx.fs (X:Cx):List Addr:=frs X.outer
def uc (sc:Scope)(x:Str):Prop:=sc.names.lookup x=some .local\/sc.names.lookup x=some .cell\/sc.names.lookup x=some .free
def Loc (sc:Scope)(x:Str):Prop:=sc.names.lookup x=some .local\/sc.names.lookup x=some .cell
def Look (env:Env)(h:Heap)(m:Mgx)(x:Str)(u:Value):Prop:=
 (env.kindOf x=some .local/\m x=some u)\/((env.kindOf x=some .cell\/env.kindOf x=some .free)/\∃c,env.cells.lookup x=some c/\h.IsCell c (some u))
structure Cx.Ok (X:Cx):Prop where
 mod:Mod X.K X.mg X.base
 kind:X.env.scope.kind=.function
 glob:X.env.globals=mainGlobals
 blt:X.env.builtins=builtinsNs
 above:X.s₀.heap.objs.size<=X.env.locals
 inj:∀x y c,X.env.cells.lookup x=some c->X.env.cells.lookup y=some c->x=y
 has:∀x,(X.env.kindOf x=some .cell\/X.env.kindOf x=some .free)->∃c,X.env.cells.lookup x=some c
 cab:∀x c,X.fn x=true->X.env.cells.lookup x=some c->X.s₀.heap.objs.size<=c
 hd:X.calm=true->X.A.handled=none
 frames:X.A.frames=some X.stack
 stk:X.stack=X.outer\/(X.stack=X.env::X.outer/\X.env.frame=some X.env.locals)
 exf:∀b∈X.ex,b≠X.env.locals/\∀x c,X.env.cells.lookup x=some c->c≠b
 bs:∀b o,X.base.get? b=some o->X.s₀.heap.get? b=some o/\X.H₀ b=none
 bsz:X.base.objs.size<=X.s₀.heap.objs.size
 noex:∀b o,X.base.get? b=some o->b∉X.ex
 exfs:∀b∈X.ex,b∉X.fs
 funs:X.s₀.heap.FunFrames X.base X.outer
 frf:∀b∈X.fs,X.H₀ b=none
structure Inv (X:Cx)(pins:Pnx)(σ:List (Option V))(H:Hp)(s:Shared):Prop where
 ok:X.Ok
 os:s.os=X.s₀.os
 bare:AllBare s.gens
 base:Un X.fs X.ex X.H₀ H X.s₀.heap s.heap
 loc:∃m,s.heap.Ns X.env.locals m/\∀(i:Nat) (x:Str) (v:V),X.N[i]? =some x->σ[i]? =some (some v)->uc X.env.scope x->∃u,RelV v u/\Look X.env s.heap m x u
 cell:∀x c,X.env.cells.lookup x=some c->∃v,s.heap.IsCell c v
 free:H X.env.locals=none
 freeC:∀x c,X.env.cells.lookup x=some c->H c=none\/(X.fn x=false/\∃o u,H c=some (.frz o u))
 pin:∀p∈X.pn ++ pins,s.heap.get? p.1=some p.2/\H p.1=none/\p.1≠X.env.locals/\p.1∉X.fs/\∀v,p.2.data≠ .cell v
 hok:bZ X.prog X.w H s.heap
 len:σ.length=X.N.length
section
variable {X:Cx}{pins:Pnx}{σ:List (Option V)}{H H':Hp}{s:Shared}{h':Heap}
theorem Cx.Ok.nofr (ok:X.Ok)(e:X.base.get? b=some o):b∉X.fs:=fun hb=>by
 have:=(ok.funs.mem hb).1;rw[e]at this;cases this
theorem Inv.bs (I:Inv X pins σ H s):∀b o,X.base.get? b=some o->s.heap.get? b=some o/\H b=none:=fun b o e=>
 ⟨I.base.keep b o (I.ok.bs b o e).1 (I.ok.bs b o e).2 (I.ok.nofr e) (I.ok.noex b o e),I.base.free b o (I.ok.bs b o e).1 (I.ok.bs b o e).2 (I.ok.noex b o e)⟩
theorem Inv.bk (I:Inv X pins σ H s):∀b o,X.base.get? b=some o->s.heap.get? b=some o:=fun b o e=>(I.bs b o e).1
theorem Inv.mod (I:Inv X pins σ H s):Mod X.K X.mg X.base:=I.ok.mod
theorem Inv.kIn (I:Inv X pins σ H s):X.K.In s.heap:=I.ok.mod.kin.keeps I.bk
theorem Inv.fr (I:Inv X pins σ H s):∃m,Fr X.base X.env.locals s.heap m:=
 let ⟨m,hn,_⟩:=I.loc
 ⟨m,hn,I.bk,xay I.ok.bsz I.ok.above⟩
theorem Inv.lt (I:Inv X pins σ H s):X.env.locals<s.heap.objs.size:=let ⟨_,hn,_⟩:=I.loc;hn.lt
theorem Inv.sz (I:Inv X pins σ H s):X.s₀.heap.objs.size<=s.heap.objs.size:=xay I.ok.above (xbf I.lt)
theorem Inv.nofs (I:Inv X pins σ H s)(h:s.heap.objs.size<=a):a∉X.fs:=fun hb=>by
 obtain⟨_,o,ho,_⟩:=I.ok.funs.mem hb;exact absurd (xap (xao ho) (xay I.sz h)) (xbT _)
theorem Inv.cne (I:Inv X pins σ H s):∀x c,X.env.cells.lookup x=some c->c≠X.env.locals:=fun x c e z=>by
 obtain⟨v,o,ho,hd⟩:=I.cell x c e;obtain⟨m,⟨o',es,ep,ho',hd',_⟩,_⟩:=I.loc;rw[z,ho']at ho;cases ho;rw[hd']at hd;cases hd
theorem Inv.funs (I:Inv X pins σ H s):s.heap.FunFrames X.base X.outer:=by
  have all:∀(l:List Env),(∀b∈frs l,b∈X.fs)->X.s₀.heap.FunFrames X.base l->s.heap.FunFrames X.base l:=by
    intro l
    induction l with
    |nil=>intro _ _;trivial
    |cons env r ih=>
      intro hs hl;obtain⟨hk,⟨L,o,hf,hn,ho,hd⟩,hr⟩:=hl;have hL:L∈X.fs:=hs L (by unfold frs;rw[xcu,hf];exact xaz);obtain⟨sl,e⟩:=I.base.slot L o ho (I.ok.frf L hL) hL fun z=>I.ok.exfs L z hL;exact⟨hk,⟨L,_,hf,hn,e,hd⟩,ih (fun b hb=>hs b (by unfold frs;rw[xcu,hf];exact xal _ hb)) hr⟩
  exact all X.outer (fun _ hb=>hb) I.ok.funs
theorem Inv.stack (I:Inv X pins σ H s):s.heap.FunFrames X.base X.stack:=by
 rcases I.ok.stk with e |⟨e,hf⟩
 ·rw[e];exact I.funs
 ·rw[e];obtain⟨m,hn,_⟩:=I.loc;refine .cons (by rw[I.ok.kind];decide) hf hn ?_ I.funs;exact Heap.get?_none_of_le (xay I.ok.bsz I.ok.above)
theorem Inv.stkSub (I:Inv X pins σ H s):∀b∈frs X.stack,b∈X.env.locals::X.fs:=fun b hb=>by
 rcases I.ok.stk with e |⟨e,hf⟩
 ·rw[e]at hb;exact xal _ hb
 ·rw[e]at hb;unfold frs at hb;rw[xcu,hf]at hb;exact hb
theorem Inv.stkFree (I:Inv X pins σ H s):∀b∈frs X.stack,H b=none:=fun b hb=>by
 rcases xaq.mp (I.stkSub b hb) with e |hb
 ·rw[e];exact I.free
 ·obtain⟨_,o,ho,_⟩:=I.ok.funs.mem hb;exact I.base.free b o ho (I.ok.frf b hb) fun z=>I.ok.exfs b z hb
theorem Inv.step {g':Array GenState}{t':Nat}{d':Drawn}{ch:List Addr}(I:Inv X pins σ H s)
  (hch:∀b∈ch,(b∈X.ex\/X.s₀.heap.objs.size<=b)/\b≠X.env.locals/\(∀x c,X.env.cells.lookup x=some c->c≠b)/\∀p∈X.pn ++ pins,p.1≠b)
  (keep:∀b o,b≠X.env.locals->b∉X.fs->b∉ch->s.heap.get? b=some o->H b=none->h'.get? b=some o)
  (slot:∀b o,b≠X.env.locals->b∈X.fs->b∉ch->s.heap.get? b=some o->H b=none->∃sl,h'.get? b=some {o with slots:=sl}) (free:∀b o,b∉ch->s.heap.get? b=some o->H b=none->H' b=none)
  (there:∀b o,b∉ch->s.heap.get? b=some o->∃o',h'.get? b=some o')
  (tups:∀b xs,H b=some (.tup xs)->H' b=some (.tup xs)) (frzs:∀b o u,H b=some (.frz o u)->H' b=some (.frz o u)) (tbls:∀b ps,H b=some (.tbl ps)->∃more,H' b=some (.tbl (ps ++ more)))
  (ns:∀m,s.heap.Ns X.env.locals m->h'.Ns X.env.locals m) (hok:bZ X.prog X.w H' h') (hg:AllBare g'):
  Inv X pins σ H' {s with heap:=h',gens:=g',drawn:=d',toks:=t'}:=by
 have neL:∀b o,X.s₀.heap.get? b=some o->b≠X.env.locals:=fun b o e=>xaI (xap (xao e) I.ok.above);have neC:∀b o,X.s₀.heap.get? b=some o->b∉X.ex->b∉ch:=fun b o e hx hb=>by
  rcases(hch b hb).1 with z |z
  ·exact hx z
  ·exact absurd (xap (xao e) z) (xbT _)
 have cellK:∀x c,X.env.cells.lookup x=some c->∀v,s.heap.IsCell c v->h'.IsCell c v:=fun x c e v ⟨o,ho,hd⟩=>by
  have nch:c∉ch:=fun z=>(hch c z).2.2.1 x c e rfl;rcases I.freeC x c e with fc |⟨_,o',u',fc⟩
  ·by_cases hc:c∈X.fs
   ·obtain⟨sl,q⟩:=slot c o (I.cne x c e) hc nch ho fc;exact⟨_,q,hd⟩
   ·exact⟨o,keep c o (I.cne x c e) hc nch ho fc,hd⟩
  ·obtain⟨e1,_⟩:=I.hok c _ fc;obtain⟨e2,_⟩:=hok c _ (frzs c _ _ fc);rw[ho]at e1;cases e1;exact⟨o,e2,hd⟩
 refine⟨I.ok,I.os,hg,⟨fun b o e n hb hx=>?_,fun b o e n hb hx=>?_,fun b o e n hx=>?_,fun b o e hx=>?_,fun b xs e=>tups b xs (I.base.tups b xs e),fun b o xs e=>frzs b o xs (I.base.frzs b o xs e),fun b ps e=>?_⟩,?_,fun x c e=>?_,?_,fun x c e=>?_,fun p hp=>?_,hok,I.len⟩
 ·exact keep b o (neL b o e) hb (neC b o e hx) (I.base.keep b o e n hb hx) (I.base.free b o e n hx)
 ·obtain⟨sl,e1⟩:=I.base.slot b o e n hb hx;obtain⟨sl',e2⟩:=slot b _ (neL b o e) hb (neC b o e hx) e1 (I.base.free b o e n hx);exact⟨sl',e2⟩
 ·obtain⟨o',e1⟩:=I.base.there b o e hx;exact free b o' (neC b o e hx) e1 (I.base.free b o e n hx)
 ·obtain⟨o',e1⟩:=I.base.there b o e hx;exact there b o' (neC b o e hx) e1
 ·obtain⟨m1,e1⟩:=I.base.tbls b ps e;obtain⟨m2,e2⟩:=tbls b _ e1;exact⟨m1 ++ m2,by rw[e2,xeV]⟩
 ·obtain⟨m,hn,hl⟩:=I.loc;refine⟨m,ns m hn,fun i x v e1 e2 e3=>?_⟩;obtain⟨u,r,l⟩:=hl i x v e1 e2 e3;refine⟨u,r,?_⟩;rcases l with l |⟨k,c,e,z⟩
  ·exact .inl l
  ·exact .inr ⟨k,c,e,cellK x c e _ z⟩
 ·obtain⟨v,z⟩:=I.cell x c e;exact⟨v,cellK x c e v z⟩
 ·obtain⟨m,⟨o,_,_,ho,_⟩,_⟩:=I.loc;exact free _ o (fun z=>(hch _ z).2.1 rfl) ho I.free
 ·obtain⟨v,o,ho,hd⟩:=I.cell x c e;rcases I.freeC x c e with fc |⟨fn,o',u',fc⟩
  ·exact .inl (free c o (fun z=>(hch c z).2.2.1 x c e rfl) ho fc)
  ·exact .inr ⟨fn,o',u',frzs c _ _ fc⟩
 ·obtain⟨e,n,ne,nf,d⟩:=I.pin p hp;have nch:p.1∉ch:=fun z=>(hch p.1 z).2.2.2 p hp rfl;exact⟨keep p.1 p.2 ne nf nch e n,free p.1 p.2 nch e n,ne,nf,d⟩
theorem Inv.un {t':Nat}(I:Inv X pins σ H s)(u:Un X.fs [] H H' s.heap h')(hok:bZ X.prog X.w H' h'):Inv X pins σ H' {s with heap:=h',toks:=t'}:=by
 obtain ⟨m, ⟨o, es, ep, ho, r⟩, _⟩ := id I.loc;obtain ⟨sl, hL⟩ := u.any ho I.free (by simp);exact I.step (g' := s.gens) (d' := s.drawn) (ch := []) (fun _ z => nomatch z) (fun b o _ hb _ e n => u.keep b o e n hb (by simp)) (fun b o _ hb _ e n => u.slot b o e n hb (by simp)) (fun b o _ e n => u.free b o e n (by simp)) (fun b o _ e => u.there b o e (by simp)) u.tups u.frzs u.tbls (fun m' hm=>by
  obtain⟨o',es',ep',ho',r'⟩:=hm;rw[ho]at ho';cases ho';exact⟨_,es',ep',hL,r'⟩) hok I.bare
theorem Inv.call {g':Array GenState}{t':Nat}{d':Drawn}{ch:List Addr}(I:Inv X pins σ H s)(u:Un (frs X.stack) ch H H' s.heap h')(hok:bZ X.prog X.w H' h')(hg:AllBare g')
  (hch:∀b∈ch,(b∈X.ex\/X.s₀.heap.objs.size<=b)/\b≠X.env.locals/\(∀x c,X.env.cells.lookup x=some c->c≠b)/\∀p∈X.pn ++ pins,p.1≠b):
  Inv X pins σ H' {s with heap:=h',gens:=g',drawn:=d',toks:=t'}:=by
 obtain ⟨m, ⟨o, es, ep, ho, r⟩, _⟩ := id I.loc;obtain ⟨sl, hL⟩ := u.any ho I.free fun z => (hch _ z).2.1 rfl;exact I.step (ch := ch) hch (fun b o hL hb hc e n => u.keep b o e n (fun z => (xaq.mp (I.stkSub b z)).elim hL hb) hc) (fun b o _ _ hc e n => u.any e n hc) (fun b o hc e n => u.free b o e n hc) (fun b o hc e => u.there b o e hc) u.tups u.frzs u.tbls (fun m' hm=>by
  obtain⟨o',es',ep',ho',r'⟩:=hm;rw[ho]at ho';cases ho';exact⟨_,es',ep',hL,r'⟩) hok hg
theorem Inv.turned {t':Nat}{it:Addr}(I:Inv X pins σ H s)(k:∀b o,b≠it->s.heap.get? b=some o->h'.get? b=some o)(hn:H it=none)(hL:it≠X.env.locals)
  (h1:it∈X.ex\/X.s₀.heap.objs.size<=it) (h2:∀x c,X.env.cells.lookup x=some c->c≠it) (h3:∀p∈X.pn ++ pins,p.1≠it):Inv X pins σ H {s with heap:=h',toks:=t'}:=by
 have nit:∀b u,H b=some u->b≠it:=fun b u e z=>by rw[z,hn]at e;cases e
 refine I.step (g':=s.gens) (d':=s.drawn) (ch:=[it]) (fun b hb=>?_) (fun b o _ _ hc e _=>k b o (fun z=>hc (by simp[z])) e) (fun b o _ _ hc e _=>⟨o.slots,k b o (fun z=>hc (by simp[z])) e⟩) (fun _ _ _ _ n=>n)
  (fun b o hc e=>⟨o,k b o (fun z=>hc (by simp[z])) e⟩) (fun _ _ e=>e) (fun _ _ _ e=>e) (fun b ps e=>⟨#[],by rw[e];simp⟩) (fun m hm=>?_) (fun b u e=>?_) I.bare
 ·have e:b=it:=by simpa using hb
  subst e;exact⟨h1,hL,h2,h3⟩
 ·obtain⟨o,es,ep,ho,r⟩:=hm;exact⟨o,es,ep,k _ o (xbx hL) ho,r⟩
 ·refine(I.hok b u e).stay (fun c v hc q=>k c v ?_ q) (fun _ q=>q) fun _ _ q=>q;rcases hc with z |z
  ·rw[z];exact nit b u e
  ·exact nit c _ z
theorem Inv.tok (I:Inv X pins σ H s)(t:Nat):Inv X pins σ H {s with toks:=t}:=I.un (h':=s.heap) (t':=t) Un.refl I.hok
theorem Inv.kept (I:Inv X pins σ H s)(k:∀b u,s.heap.get? b=some u->h'.get? b=some u):Inv X pins σ H {s with heap:=h',toks:=t'}:=I.un (Un.kept k) (I.hok.kept k)
theorem Inv.laid (I:Inv X pins σ H s)(k:∀b u,s.heap.get? b=some u->h'.get? b=some u)(hp:s.heap.objs.size<=a)(new:cH X.prog X.w (upd H a o) h' a o):
  Inv X pins σ (upd H a o) {s with heap:=h',toks:=t'}:=I.un (Un.laid k hp (I.hok.fresh hp)) (I.hok.laid k hp new)
theorem Inv.write (I:Inv X pins σ H s)(mu:yM (H x))(he:e=x\/H e=some (.own x))(k:∀b u,b≠e->s.heap.get? b=some u->h'.get? b=some u)(heo:∃u,h'.get? e=some u)
  (new:cH X.prog X.w (upd H x o) h' x o):Inv X pins σ (upd H x o) {s with heap:=h',toks:=t'}:=I.un (Un.write mu he k heo) (I.hok.write mu he k heo new)
theorem Inv.pins_of (I:Inv X pins σ H s)(h:∀p∈pins',s.heap.get? p.1=some p.2/\H p.1=none/\p.1≠X.env.locals/\p.1∉X.fs/\∀v,p.2.data≠ .cell v):Inv X pins' σ H s:=
 ⟨I.ok,I.os,I.bare,I.base,I.loc,I.cell,I.free,I.freeC,fun p hp=>(xaQ.mp hp).elim (fun z=>I.pin p (xcm _ z)) (h p),I.hok,I.len⟩
theorem Qj {N:List Str}(hN:N.Nodup){i j:Nat}{x:Str}(a:N[i]? =some x)(b:N[j]? =some x):i=j:=by
 obtain⟨h1,e1⟩:=xai.mp a;obtain⟨h2,e2⟩:=xai.mp b;exact(List.getElem_inj hN).mp (e1.trans e2.symm)
theorem zaR {M:Model}{A:Around}{E:Value->Shared->Prop}{i:Nat}{x:Str}{v:V}{u:Value}{Q:Unit->Shared->Prop}(I:Inv X pins σ H s)(hN:X.N.Nodup)(hi:X.N[i]? =some x)(hx:Loc X.env.scope x)(r:RelV v u)
    (h:∀s',Inv X pins (σ.set i (some v)) H s'->(∃a,Heap.SameBut a s.heap s'.heap/\(a=X.env.locals\/X.env.cells.lookup x=some a))->Q () s') (hf:X.fn x=true\/X.env.scope.names.lookup x=some .local:=by first |exact .inl rfl |exact .inr rfl |assumption):wpAny M A (storeName X.env x u) Q E s:=by
  obtain⟨m,hn,hl⟩:=id I.loc;have hcls:(X.env.scope.kind==.class || (X.env.scope.kind==.module && X.env.locals !=X.env.globals))=false:=by rw[I.ok.kind];rfl
  have hiσ:i<σ.length:=by rw[I.len];exact(xai.mp hi).1
  have cne:=I.cne;have tracked:∀{a:Addr} {h':Heap},(∃o,s.heap.get? a=some o/\H a=none)->Heap.SameBut a s.heap h'->bZ X.prog X.w H h':=fun {a h'} ha hs b ob e=>by
    obtain⟨_,_,hfree⟩:=ha;refine(I.hok b ob e).stay (fun c w' hc q=>(hs.2 c ?_).trans q) (fun _ q=>q) fun _ _ q=>q;rintro rfl;rcases hc with rfl |hc
    · rw[hfree]at e;cases e
    · rw[hfree]at hc;cases hc
  rcases hx with hk |hk
  · refine wpAny_storeName_local hk hn (fun h' hn' hs=>?_) hcls;obtain⟨oL,_,_,hoL,_⟩:=id hn;refine h _ ⟨I.ok,I.os,I.bare,⟨fun b o e n hb hx=>?_,fun b o e n hb hx=>?_,I.base.free,fun b o e hx=>?_,I.base.tups,I.base.frzs,I.base.tbls⟩,⟨_,hn',fun j y v' e1 e2 e3=>?_⟩,fun y c e=>?_,I.free,I.freeC,fun p hp=>?_,tracked ⟨oL,hoL,I.free⟩ hs,by simpa using I.len⟩ ⟨_,hs,.inl rfl⟩
    · exact(hs.2 b (xaI (xap (xao e) I.ok.above))).trans (I.base.keep b o e n hb hx)
    · obtain⟨sl,e1⟩:=I.base.slot b o e n hb hx;exact⟨sl,(hs.2 b (xaI (xap (xao e) I.ok.above))).trans e1⟩
    · obtain⟨o',e1⟩:=I.base.there b o e hx;exact⟨o',(hs.2 b (xaI (xap (xao e) I.ok.above))).trans e1⟩
    · by_cases hj:j=i
      · subst hj;rw[hi]at e1;cases e1;rw[xcF hiσ]at e2;cases e2;exact⟨u,r,.inl ⟨hk,by simp⟩⟩
      · rw[xcS (xbx hj)]at e2;obtain⟨u',r',q⟩:=hl j y v' e1 e2 e3;refine⟨u',r',?_⟩;rcases q with⟨k,e⟩ |⟨k,c,e,z⟩
        · refine .inl ⟨k,?_⟩;have:y≠x:=fun e=>hj (Qj hN e1 (e ▸ hi))
          simp[this,e]
        · exact .inr ⟨k,c,e,z.sameBut hs (cne y c e)⟩
    · obtain⟨w',z⟩:=I.cell y c e;exact⟨w',z.sameBut hs (cne y c e)⟩
    · obtain⟨e,n,ne,nf,d⟩:=I.pin p hp;exact⟨(hs.2 p.1 ne).trans e,n,ne,nf,d⟩
  · have hfn:X.fn x=true:=by
      rcases hf with z |z
      · exact z
      · rw[z]at hk;cases hk
    obtain⟨c,hc⟩:=I.ok.has x (.inl hk);obtain⟨w',z⟩:=I.cell x c hc;refine wpAny_storeName_cell I.ok.kind hk hc z (fun h' hc' hs=>?_);obtain⟨oc,hoc,hocd⟩:=id z;refine h {s with heap:=h'} ⟨I.ok,I.os,I.bare,⟨fun b o e n hb hx=>?_,fun b o e n hb hx=>?_,I.base.free,fun b o e hx=>?_,I.base.tups,I.base.frzs,I.base.tbls⟩,⟨m,hn.sameBut hs (xbx (cne x c hc)),fun j y v' e1 e2 e3=>?_⟩,fun y c' e=>?_,I.free,I.freeC,fun p hp=>?_,tracked ⟨oc,hoc,(I.freeC x c hc).resolve_right fun z=>by rw[z.1]at hfn;cases hfn⟩ hs,by simpa using I.len⟩ ⟨c,hs,.inr hc⟩
    · exact(hs.2 b (xaI (xap (xao e) (I.ok.cab x c hfn hc)))).trans (I.base.keep b o e n hb hx)
    · obtain⟨sl,e1⟩:=I.base.slot b o e n hb hx;exact⟨sl,(hs.2 b (xaI (xap (xao e) (I.ok.cab x c hfn hc)))).trans e1⟩
    · obtain⟨o',e1⟩:=I.base.there b o e hx;exact⟨o',(hs.2 b (xaI (xap (xao e) (I.ok.cab x c hfn hc)))).trans e1⟩
    · by_cases hj:j=i
      · subst hj;rw[hi]at e1;cases e1;rw[xcF hiσ]at e2;cases e2;exact⟨u,r,.inr ⟨.inl hk,c,hc,hc'⟩⟩
      · rw[xcS (xbx hj)]at e2;obtain⟨u',r',q⟩:=hl j y v' e1 e2 e3;refine⟨u',r',?_⟩;rcases q with q |⟨k,c',e,z'⟩
        · exact .inl q
        · refine .inr ⟨k,c',e,z'.sameBut hs ?_⟩;rintro rfl;exact hj (Qj hN e1 (I.ok.inj _ _ _ e hc ▸ hi))
    · by_cases hcc:c'=c
      · subst hcc;exact⟨_,hc'⟩
      · obtain⟨w2,z2⟩:=I.cell y c' e;exact⟨w2,z2.sameBut hs hcc⟩
    · obtain⟨e,n,ne,nf,d⟩:=I.pin p hp;refine⟨(hs.2 p.1 ?_).trans e,n,ne,nf,d⟩;intro q;rw[q,hoc]at e;have q':oc=p.2:=xaA e;exact d w' (by rw[<-q'];exact hocd)
theorem FW (I:Inv X pins σ H s)(hN:X.N.Nodup)(hi:X.N[i]? =some x)(hx:Loc X.env.scope x)(r:RelV v u)
  (h:∀s',Inv X pins (σ.set i (some v)) H s'->Q () s') (hf:X.fn x=true\/X.env.scope.names.lookup x=some .local:=by first |exact .inl rfl |exact .inr rfl |assumption):wpAny M A (storeName X.env x u) Q E s:=
 zaR I hN hi hx r (fun s' I' _=>h s' I') hf
theorem Inv.call' (I:Inv X pins σ H s)(ho:s'.os=s.os)(u:Un (frs X.stack) ch H H' s.heap s'.heap)(hok:bZ X.prog X.w H' s'.heap)(hg:AllBare s'.gens)
  (hch:∀b∈ch,(b∈X.ex\/X.s₀.heap.objs.size<=b)/\b≠X.env.locals/\(∀x c,X.env.cells.lookup x=some c->c≠b)/\∀p∈X.pn ++ pins,p.1≠b):Inv X pins σ H' s':=by
 obtain⟨h',g',d',t',o'⟩:=s';have e:o'=s.os:=ho;subst e;exact I.call (g':=g') (t':=t') (d':=d') u hok hg hch
end
abbrev XK:=Value->Option Addr->Hp->Prop
abbrev St:=List (Option V)
abbrev VK:=V->Hp->Prop
abbrev TE:=St->Hp->VK->Prop
abbrev TT:=St->Hp->(Bool->Hp->Prop)->Prop
abbrev TA:=St->Hp->(List V->Hp->Prop)->Prop
structure Ends where
 nx:St->Hp->Prop
 rt:VK
 bk:St->Hp->Prop:=fun _ _=>False
 ct:St->Hp->Prop:=fun _ _=>False
abbrev TS:=Ends->St->Hp->Prop
def EP (X:Cx)(pins:Pnx)(σ:St)(Q:VK)(u:Value)(s':Shared):Prop:=∃v H',Inv X pins σ H' s'/\RelV v u/\Q v H'
def TP (X:Cx)(pins:Pnx)(σ:St)(Q:Bool->Hp->Prop)(b:Bool)(s':Shared):Prop:=∃H',Inv X pins σ H' s'/\Q b H'
def AP (X:Cx)(pins:Pnx)(σ:St)(Q:List V->Hp->Prop)(us:List Value)(s':Shared):Prop:=∃vs H',Inv X pins σ H' s'/\Vals vs us/\Q vs H'
def SP (X:Cx)(pins:Pnx)(D:Ends)(f:Flow)(s':Shared):Prop:=
 match f with
 |.next=>∃σ' H',Inv X pins σ' H' s'/\D.nx σ' H'
 |.brk=>∃σ' H',Inv X pins σ' H' s'/\D.bk σ' H'
 |.cont=>∃σ' H',Inv X pins σ' H' s'/\D.ct σ' H'
 |.ret u=>∃v σ' H',Inv X pins σ' H' s'/\RelV v u/\D.rt v H'
def PE (X:Cx)(e:Expr)(t:TE):Prop:=
 ∀(pins:Pnx) (s:Shared) (σ:St) (H:Hp) (Q:VK),Inv X pins σ H s->t σ H Q->wpAny (model X.prog X.w) X.A (eval e X.env) (EP X pins σ Q) X.xe s
def PT (X:Cx)(e:Expr)(t:TT):Prop:=
 ∀(pins:Pnx) (s:Shared) (σ:St) (H:Hp) (Q:Bool->Hp->Prop),Inv X pins σ H s->t σ H Q->wpAny (model X.prog X.w) X.A (isTrue e X.env (eval e X.env)) (TP X pins σ Q) X.xe s
def PW (X:Cx)(e:Expr)(t:TT):Prop:=
 ∀(whole:Sem Value) (pins:Pnx) (s:Shared) (σ:St) (H:Hp) (Q:Bool->Hp->Prop),Inv X pins σ H s->t σ H Q->wpAny (model X.prog X.w) X.A (isTrue e X.env whole) (TP X pins σ Q) X.xe s
theorem PW.pt (h:PW X e t):PT X e t:=h _
def PA (X:Cx)(es:List Expr)(t:TA):Prop:=
 ∀(pos:Pos) (pins:Pnx) (s:Shared) (σ:St) (H:Hp) (Q:List V->Hp->Prop),Inv X pins σ H s->t σ H Q->wpAny (model X.prog X.w) X.A (spliced (backTo pos (starEach es X.env))) (AP X pins σ Q) X.xe s
def PS (X:Cx)(st:Stmt)(t:TS):Prop:=
 ∀(pins:Pnx) (s:Shared) (σ:St) (H:Hp) (D:Ends),Inv X pins σ H s->t D σ H->wpAny (model X.prog X.w) X.A (exec st X.env) (SP X pins D) X.xe s
def gw (X:Cx)(st:List Stmt)(t:TS):Prop:=
 ∀(pins:Pnx) (s:Shared) (σ:St) (H:Hp) (D:Ends),Inv X pins σ H s->t D σ H->wpAny (model X.prog X.w) X.A (execs st X.env) (SP X pins D) X.xe s
theorem aN (h:wpAny M A t Q E s)(hQ:∀a s,Q a s->Q' a s):wpAny M A t Q' E s:=xa4 h hQ fun _ _ x=>x
section
variable {X:Cx}
def Lg (i:Nat):TE:=fun σ H Q=>∃v,σ[i]? =some (some v)/\Q v H
def tC (v:V):TE:=fun _ H Q=>Q v H
theorem Jy (hN:X.N[i]? =some x)(hv:uc X.env.scope x)(hd:(x==("__debug__":Str))=false:=by decide)(hcd:(x==("__classdict__":Str))=false:=by decide):PE X (.Name x pos) (Lg i):=by
 intro pins s σ H Q I h;obtain⟨v,e,h⟩:=h;obtain⟨m,hn,hl⟩:=I.loc;obtain⟨u,r,l⟩:=hl i x v hN e hv;have fin:EP X pins σ Q u s:=⟨v,H,I,r,h⟩;rcases l with⟨hk,hm⟩ |⟨hk,c,hc,hcell⟩
 ·exact wpAny_Name (wpAny_loadName_local I.ok.kind hk hn hm fin) hd
 ·rcases hk with hk |hk
  ·exact wpAny_Name (wpAny_loadName_cell I.ok.kind hk hc hcell fin) hd
  ·exact wpAny_Name (wpAny_loadName_free I.ok.kind hk hc hcell fin hcd) hd
theorem ZL {i j pos}:PE X (.Constant (.int i) j pos) (tC (.int i)):=fun _ _ _ H _ I h=>wpAny_Constant_int ⟨.int i,H,I.tok _,⟨_,rfl⟩,h⟩
theorem Zy {b j pos}:PE X (.Constant (.bool b) j pos) (tC (.bl b)):=fun _ _ _ H _ I h=>Constant_bool ⟨.bl b,H,I,rfl,h⟩
theorem Z4 {x j pos}:PE X (.Constant (.str x) j pos) (tC (.str x)):=fun _ _ _ H _ I h=>Calls.Constant_str ⟨.str x,H,I.tok _,⟨_,rfl⟩,h⟩
def Gl (X:Cx)(x:Str):Prop:=X.env.kindOf x=some .globalImplicit
theorem Du (I:Inv X pins σ H s)(hg:Gl X x)(hm:X.mg x=some u)(h:Q u s)
  (hd:(x==("__debug__":Str))=false:=by decide):wpAny (model X.prog X.w) X.A (eval (.Name x pos) X.env) Q E s:=
 xdW I.ok.kind hg (Calls.loadGlobal_global (by rw[I.ok.glob];exact I.mod.glob.keeps I.bk) hm h) hd
theorem yj (I:Inv X pins σ H s)(hg:Gl X x)(hm:X.mg x=none)(hv:bootBuiltins x=some u)(h:Q u s)
  (hn:x≠"__name__":=by decide) (hd:(x==("__debug__":Str))=false:=by decide):wpAny (model X.prog X.w) X.A (eval (.Name x pos) X.env) Q E s:=by
 obtain⟨mb,h1,h2⟩:=I.mod.blt;exact xdW I.ok.kind hg (Calls.loadGlobal_builtin (by rw[I.ok.glob];exact I.mod.glob.keeps I.bk) hm (by rw[I.ok.blt];exact h1.keeps I.bk) ((h2 x hn).trans hv) h) hd
theorem A_ (hg:Gl X x)(hm:X.mg x=some u)(r:RelV v u)(hd:(x==("__debug__":Str))=false:=by decide):PE X (.Name x pos) (tC v):=
 fun _ _ _ H _ I h=>Du I hg hm ⟨v,H,I,r,h⟩ hd
theorem Zz (hg:Gl X x)(hm:X.mg x=none)(hv:bootBuiltins x=some u)(r:RelV v u)(hn:x≠"__name__":=by decide)(hd:(x==("__debug__":Str))=false:=by decide):PE X (.Name x pos) (tC v):=
 fun _ _ _ H _ I h=>yj I hg hm hv ⟨v,H,I,r,h⟩ hn hd
variable {a b:Expr}{ta tb:TE}{pos:Pos}
def PC (X:Cx)(op:CmpOp)(a b:Expr)(t:TE):Prop:=
 ∀(pins:Pnx) (s:Shared) (σ:St) (H:Hp) (Q:VK),Inv X pins σ H s->t σ H Q->
  wpAny (model X.prog X.w) X.A (eval a X.env) (fun v s₁=>wpAny (model X.prog X.w) X.A (eval b X.env) (fun u s₂=>wpAny (model X.prog X.w) X.A (compareOp op v u) (EP X pins σ Q) X.xe s₂) X.xe s₁) X.xe s
def tB (t:TE):TT:=fun σ H Q=>t σ H fun x H1=>∃c,x=.bl c/\Q c H1
theorem zdq (h:PC X op a b t)(h1:behindInMarks op b=false:=by first |exact nobehind _ (by decide) (by decide) |rfl):PT X (.Compare a [op] [b] pos) (tB t):=by
 intro pins s σ H Q I hw;refine wpAny_isTrue_Compare1 (aN (h pins s σ H _ I hw) fun v s1 h1=>aN h1 fun u s2 h2=>aN h2 fun c s3 ⟨x,H1,I1,r1,q1⟩=>?_) h1;obtain⟨d,rfl,q⟩:=q1;cases r1;exact xcJ ⟨H1,I1,q⟩
variable {tA tB':TT}{rest:List Expr}
noncomputable def K3 (t u:TT):TT:=fun σ H Q=>t σ H fun c H1=>if c=true then u σ H1 Q else Q false H1
noncomputable def tOr (t u:TT):TT:=fun σ H Q=>t σ H fun c H1=>if c=true then Q true H1 else u σ H1 Q
def Lb (t:TT):TT:=fun σ H Q=>t σ H fun c H1=>Q (!c) H1
theorem zcn (ha:PT X a tA):PW X (.BoolOp .And [a] pos) tA:=by
 intro wh pins s σ H Q I h;refine isTrue_and (aN (ha pins s σ H Q I h) fun c s1 e=>?_)
 cases c with
 |true=>exact isTrue_and_nil e
 |false=>exact e
theorem zc3 (ha:PT X a tA):PW X (.BoolOp .Or [a] pos) tA:=by
 intro wh pins s σ H Q I h;refine isTrue_or (aN (ha pins s σ H Q I h) fun c s1 e=>?_)
 cases c with
 |false=>exact isTrue_or_nil e
 |true=>exact e
theorem zdx (ha:PT X a tA)(hb:PW X (.BoolOp .And (b::rest) pos) tB'):PW X (.BoolOp .And (a::b::rest) pos) (K3 tA tB'):=by
 intro wh pins s σ H Q I h;refine isTrue_and (aN (ha pins s σ H _ I h) fun c s1 ⟨H1,I1,q1⟩=>?_)
 cases c with
 |true=>exact hb wh pins s1 σ H1 Q I1 q1
 |false=>exact⟨H1,I1,q1⟩
theorem zd0 (ha:PT X a tA)(hb:PW X (.BoolOp .Or (b::rest) pos) tB'):PW X (.BoolOp .Or (a::b::rest) pos) (tOr tA tB'):=by
 intro wh pins s σ H Q I h;refine isTrue_or (aN (ha pins s σ H _ I h) fun c s1 ⟨H1,I1,q1⟩=>?_)
 cases c with
 |true=>exact⟨H1,I1,q1⟩
 |false=>exact hb wh pins s1 σ H1 Q I1 q1
theorem zdf (ha:PT X a tA):PT X (.UnaryOp .Not a pos) (Lb tA):=by
 intro pins s σ H Q I h;exact isTrue_not (ha pins s σ H (fun c H1=>Q (!c) H1) I h)
noncomputable def zeB (ta tb:TE):TE:=fun σ H Q=>ta σ H fun x H1=>∃c,x=.bl c/\if c=true then tb σ H1 Q else Q (.bl false) H1
theorem Z2 {op}(h:PE X a t):PE X (.BoolOp op [a] pos) t:=fun pins s σ H Q I hw=>BoolOp_one (h pins s σ H Q I hw)
theorem Zx (ha:PE X a ta)(hb:PE X (.BoolOp .And (b::rest) pos) tb):PE X (.BoolOp .And (a::b::rest) pos) (zeB ta tb):=by
 intro pins s σ H Q I h;refine BoolOp_and (aN (ha pins s σ H _ I h) fun v s1 ⟨x,H1,I1,r1,q1⟩=>?_);obtain⟨c,rfl,q1⟩:=q1;cases r1;refine xcJ ?_
 cases c with
 |true=>exact hb pins s1 σ H1 Q I1 q1
 |false=>exact⟨.bl false,H1,I1,rfl,q1⟩
noncomputable def tIf (t:TT) (ta tb:TE):TE:=fun σ H Q=>t σ H fun c H1=>if c=true then ta σ H1 Q else tb σ H1 Q
theorem ZK (hc:PT X c tA)(ha:PE X a ta)(hb:PE X b tb):PE X (.IfExp c a b pos) (tIf tA ta tb):=by
 intro pins s σ H Q I h;refine wpAny_IfExp (aN (hc pins s σ H _ I h) fun d s1 ⟨H1,I1,q1⟩=>?_)
 cases d with
 |true=>exact ha pins s1 σ H1 Q I1 q1
 |false=>exact hb pins s1 σ H1 Q I1 q1
end
def bI (K:Fgx)(H:Hp)(a:Addr)(xs:List V):Prop:=
 Rd H a (.lst xs)\/
  ∃(o:Obj) (its:Array Value) (n:Nat),K.lookup a=some o/\o.cls=.type "list"/\o.dict=none/\o.data=.seq its n/\its.size<=sizeLine/\Vals xs its.toList
def cZ (K:Fgx)(H:Hp)(a:Addr)(xs:List V):Prop:=
 Rd H a (.tup xs)\/
  ∃(o:Obj) (its:Array Value) (n:Nat),K.lookup a=some o/\o.cls=.type "tuple"/\o.data=.seq its n/\its.size<=sizeLine/\Vals xs its.toList
noncomputable def GF:Value->Option V
 |.none=>some .non
 |.bool b=>some (.bl b)
 |.int i _=>some (.int i)
 |.str x _=>some (.str x)
 |.bytes b _=>some (.byt b)
 |.float b _=>some (.flt b)
 |.ref a=>some (.ref a)
 |.type n=>some (.ty n)
 |_=>none
theorem RelV.abs (r:RelV x u):GF u=some x:=by
 cases x with
 |non=>cases r;rfl
 |bl _=>cases r;rfl
 |int _=>obtain⟨t,rfl⟩:=r;rfl
 |str _=>obtain⟨t,rfl⟩:=r;rfl
 |byt _=>obtain⟨t,rfl⟩:=r;rfl
 |flt _=>obtain⟨t,rfl⟩:=r;rfl
 |ref _=>cases r;rfl
 |ty _=>cases r;rfl
theorem RelV.inj (r:RelV x u)(q:RelV y u):x=y:=xaA (r.abs.symm.trans q.abs)
theorem Vals.inj:∀{xs ys:List V} {us:List Value},Vals xs us->Vals ys us->xs=ys
 |_,_,_,.nil,.nil=>rfl
 |_,_,_,.cons r t,.cons r' t'=>by rw[r.inj r',Vals.inj t t']
section
variable {X:Cx}{pins:Pnx}{σ:St}{H:Hp}{s:Shared}{a:Addr}{xs ys:List V}
theorem Inv.list (I:Inv X pins σ H s)(h:bI X.K H a xs):∃its:List Value,Vals xs its/\PlainL s.heap a its.toArray/\xs.length<=sizeLine:=by
 rcases h with h |⟨o,its,n,hk,hc,hd,hs,hz,r⟩
 ·obtain⟨z,its,n,r,e⟩:=h.ok I.hok;exact⟨its,r,⟨_,n,e,rfl,rfl,rfl⟩,z⟩
 ·refine⟨its.toList,r,⟨o,n,I.kIn a o hk,hc,hd,by simpa using hs⟩,?_⟩;have e:=r.length;simp only[xax]at e;lia
theorem Inv.tuple (I:Inv X pins σ H s)(h:cZ X.K H a xs):∃its:List Value,Vals xs its/\IsTup s.heap a its.toArray/\xs.length<=sizeLine:=by
 rcases h with h |⟨o,its,n,hk,hc,hs,hz,r⟩
 ·obtain⟨z,its,r,p⟩:=h.ok I.hok;exact⟨its,r,p,z⟩
 ·refine⟨its.toList,r,⟨o,I.kIn a o hk,hc,n,by simpa using hs⟩,?_⟩;have e:=r.length;simp only[xax]at e;lia
theorem Inv.list_inj (I:Inv X pins σ H s)(h:bI X.K H a xs)(h':bI X.K H a ys):xs=ys:=by
 obtain⟨its,r,⟨o,n,e,_,_,d⟩,_⟩:=I.list h;obtain⟨its',r',⟨o',n',e',_,_,d'⟩,_⟩:=I.list h';rw[e]at e';cases e';rw[d]at d'
 injection d' with d1 _
 have:its=its':=by simpa using congrArg Array.toList d1
 subst this;exact r.inj r'
theorem Inv.tuple_inj (I:Inv X pins σ H s)(h:cZ X.K H a xs)(h':cZ X.K H a ys):xs=ys:=by
 obtain⟨its,r,⟨o,e,_,n,d⟩,_⟩:=I.tuple h;obtain⟨its',r',⟨o',e',_,n',d'⟩,_⟩:=I.tuple h';rw[e]at e';cases e';rw[d]at d'
 injection d' with d1 _
 have:its=its':=by simpa using congrArg Array.toList d1
 subst this;exact r.inj r'
end
abbrev Cx.wish (X:Cx)(E:Value->Shared->Prop):Cx:={X with xe:=E}
abbrev Cx.nox (X:Cx):Cx:=X.wish fun _ _=>False
theorem Cx.Ok.wish {X:Cx}(ok:X.Ok)(E:Value->Shared->Prop):(X.wish E).Ok:=
 ⟨ok.mod,ok.kind,ok.glob,ok.blt,ok.above,ok.inj,ok.has,ok.cab,ok.hd,ok.frames,ok.stk,ok.exf,ok.bs,ok.bsz,ok.noex,ok.exfs,ok.funs,ok.frf⟩
theorem Cx.Ok.unwish {X:Cx}{E:Value->Shared->Prop}(ok:(X.wish E).Ok):X.Ok:=
 ⟨ok.mod,ok.kind,ok.glob,ok.blt,ok.above,ok.inj,ok.has,ok.cab,ok.hd,ok.frames,ok.stk,ok.exf,ok.bs,ok.bsz,ok.noex,ok.exfs,ok.funs,ok.frf⟩
section
variable {X:Cx}{pins:Pnx}{σ:St}{H:Hp}{s:Shared}{E:Value->Shared->Prop}
theorem Inv.wish (I:Inv X pins σ H s)(E:Value->Shared->Prop):Inv (X.wish E) pins σ H s:=⟨I.ok.wish E,I.os,I.bare,I.base,I.loc,I.cell,I.free,I.freeC,I.pin,I.hok,I.len⟩
theorem Inv.unwish (I:Inv (X.wish E) pins σ H s):Inv X pins σ H s:=⟨I.ok.unwish,I.os,I.bare,I.base,I.loc,I.cell,I.free,I.freeC,I.pin,I.hok,I.len⟩
theorem SP.unwish (h:SP (X.wish E) pins D f s'):SP X pins D f s':=by
 cases f with
 |next=>obtain⟨σ',H',I,q⟩:=h;exact⟨σ',H',I.unwish,q⟩
 |brk=>obtain⟨σ',H',I,q⟩:=h;exact⟨σ',H',I.unwish,q⟩
 |cont=>obtain⟨σ',H',I,q⟩:=h;exact⟨σ',H',I.unwish,q⟩
 |ret u=>obtain⟨v,σ',H',I,r,q⟩:=h;exact⟨v,σ',H',I.unwish,r,q⟩
theorem gw.nox {st:List Stmt}{t:TS}(h:gw X.nox st t):gw X st t:=fun pins s σ H D I hw=>
 xa4 (h pins s σ H D (I.wish _) hw) (fun _ _ q=>q.unwish) fun _ _ z=>False.elim z
end
section
variable {X:Cx}{st:Stmt}{rest:List Stmt}{t u:TS}{e:Expr}{te:TE}{pos:Pos}
def zee:TS:=fun D σ H=>D.nx σ H
def Le (t u:TS):TS:=fun D σ H=>t {D with nx:=u D} σ H
theorem zbK:gw X [] zee:=fun _ _ σ H _ I h=>xes ⟨σ,H,I,h⟩
theorem zbj (h1:PS X st t)(h2:gw X rest u):gw X (st::rest) (Le t u):=by
  intro pins s σ H D I h;refine wpAny_execs_cons (aN (h1 pins s σ H {D with nx:=u D} I h) fun f s1 q=>?_)
  cases f with
  |next=>
    obtain⟨σ',H',I',q⟩:=q;exact h2 pins s1 σ' H' D I' q
  |ret v=>exact q
  |brk=>exact q
  |cont=>exact q
theorem Inv.quiet (I:Inv X pins σ H s):interactive X.env=false:=by simp[interactive,I.ok.kind]
def zet (te:TE):TS:=fun D σ H=>te σ H fun _ H1=>D.nx σ H1
theorem JD (he:PE X e te)(hs:swapsWith e none pos.line X.env=pure false:=by rfl):PS X (.Expr e pos) (zet te):=by
 intro pins s σ H D I h;exact wpAny_Expr_any (aN (he pins s σ H _ I h) fun v s1 ⟨x,H1,I1,r1,q1⟩=>⟨σ,H1,I1,q1⟩) I.quiet hs
def Ld (te:TE):TS:=fun D σ H=>te σ H D.rt
theorem zcR (he:PE X e te):PS X (.Return (some e) pos) (Ld te):=by
 intro pins s σ H D I h;exact wpAny_Return_some (aN (he pins s σ H _ I h) fun v s1 ⟨x,H1,I1,r1,q1⟩=>⟨x,σ,H1,I1,r1,q1⟩)
noncomputable def K_ (c:TT) (t u:TS):TS:=fun D σ H=>c σ H fun b H1=>if b=true then t D σ H1 else u D σ H1
theorem zd4 (hc:PT X c tc)(ha:gw X a t)(hb:gw X b u):PS X (.If c a b pos) (K_ tc t u):=by
 intro pins s σ H D I h;refine wpAny_If (aN (hc pins s σ H _ I h) fun d s1 ⟨H1,I1,q1⟩=>?_)
 cases d with
 |true=>exact ha pins s1 σ H1 D I1 q1
 |false=>exact hb pins s1 σ H1 D I1 q1
end
abbrev TG:=V->St->Hp->(St->Hp->Prop)->Prop
abbrev yP:=List V->St->Hp->(St->Hp->Prop)->Prop
def PG (X:Cx)(target:Expr)(t:TG):Prop:=
 ∀(pins:Pnx) (s:Shared) (σ:St) (H:Hp) (v:V) (u:Value) (Q:St->Hp->Prop),Inv X pins σ H s->RelV v u->t v σ H Q->
  wpAny (model X.prog X.w) X.A (assign target X.env u) (fun _ s'=>∃σ' H',Inv X pins σ' H' s'/\Q σ' H') X.xe s
def yN (X:Cx)(ts:List Expr)(t:yP):Prop:=
 ∀(pins:Pnx) (s:Shared) (σ:St) (H:Hp) (vs:List V) (us:List Value) (Q:St->Hp->Prop),Inv X pins σ H s->Vals vs us->t vs σ H Q->
  wpAny (model X.prog X.w) X.A (assignInOrder ((assignEach ts X.env).map (·.2)) us) (fun _ s'=>∃σ' H',Inv X pins σ' H' s'/\Q σ' H') X.xe s
abbrev yQ:=V->V->V->Hp->(Hp->Prop)->Prop
def yO (X:Cx)(t:yQ):Prop:=
 ∀(pins:Pnx) (s:Shared) (σ:St) (H:Hp) (o i v:V) (ov iv u:Value) (Q:Hp->Prop),Inv X pins σ H s->RelV o ov->RelV i iv->RelV v u->t o i v H Q->
  wpAny (model X.prog X.w) X.A (setItem ov iv u) (fun _ s'=>∃H',Inv X pins σ H' s'/\Q H') X.xe s
abbrev GC:=V->V->Hp->VK->Prop
def Gx (X:Cx)(op:Operator)(t:GC):Prop:=
 ∀(pins:Pnx) (s:Shared) (σ:St) (H:Hp) (x y:V) (v u:Value) (Q:VK),Inv X pins σ H s->RelV x v->RelV y u->t x y H Q->
  wpAny (model X.prog X.w) X.A (inplaceOp op v u) (EP X pins σ Q) X.xe s
section
variable {X:Cx}{pos:Pos}
def pN (i:Nat):TG:=fun v σ H Q=>Q (σ.set i (some v)) H
theorem yu (hN:X.N.Nodup)(hi:X.N[i]? =some x)(hx:Loc X.env.scope x)(hf:X.fn x=true\/X.env.scope.names.lookup x=some .local:=by first |exact .inl rfl |exact .inr rfl |assumption):PG X (.Name x pos) (pN i):=by
 intro pins s σ H v u Q I r h;exact wpAny_assign_Name (FW I hN hi hx r (fun s' I'=>⟨_,H,I',h⟩) hf)
def vp:yP:=fun vs σ H Q=>vs=[]/\Q σ H
noncomputable def zG (t:TG) (u:yP):yP:=fun vs σ H Q=>∃v r,vs=v::r/\t v σ H fun σ' H'=>u r σ' H' Q
theorem Qz:yN X [] vp:=by
 intro pins s σ H vs us Q I r h;obtain⟨e,h⟩:=h;subst e;cases r;exact assignInOrder_nil ⟨σ,H,I,h⟩
theorem Jz (h1:PG X e t)(h2:yN X es u)
    (hs:(assignEach (e::es) X.env).map (·.2)=assign e X.env::(assignEach es X.env).map (·.2):=by rfl):yN X (e::es) (zG t u):=by
  intro pins s σ H vs us Q I r h;obtain⟨v,vr,e1,h⟩:=h;subst e1
  cases r with
  |cons r rr=>
    rw[hs];refine assignInOrder_cons (aN (h1 pins s σ H _ _ _ I r h) fun _ s1 ⟨σ1,H1,I1,q1⟩=>?_);exact h2 pins s1 σ1 H1 _ _ Q I1 rr q1
noncomputable def vq (K:Fgx) (n:Nat) (t:yP):TG:=fun v σ H Q=>∃a xs,v=.ref a/\cZ K H a xs/\xs.length=n/\t xs σ H Q
theorem Qx (hc:X.calm=true)(h:yN X es t)
  (hn:(assignEach es X.env).length=n:=by rfl) (hst:(assignEach es X.env).findIdx? (·.1)=none:=by rfl):PG X (.Tuple es k pos) (vq X.K n t):=by
 intro pins s σ H v u Q I r hw;obtain⟨a,xs,e1,hq,hl,hw⟩:=hw;subst e1;cases r;obtain⟨its,rv,ht,hz⟩:=I.tuple hq;refine assign_Tuple_tuple (I.ok.hd hc) ht (by simp[hn, <-hl,rv.length]) hst fun h' hx=>?_;have I1:Inv X pins σ H {s with heap:=h'}:=I.kept (t':=s.toks) fun b o e=>hx b o (xaI (xao e)) e;exact h pins _ σ H xs _ Q I1 (by simpa using rv) hw
noncomputable def Ik (to ti:TE) (t:yQ):TG:=fun v σ H Q=>to σ H fun o H1=>ti σ H1 fun i H2=>t o i v H2 fun H3=>Q σ H3
theorem Z7 (ho:PE X o to)(hi:PE X i ti)(hs:yO X t)
  (ha : ∀ v, assign (.Subscript o i pos) X.env v = (do
   let ov <-holding [v] (eval o X.env)
   let iv <-holding [v,ov] (eval i X.env)
   standAt pos
   holding [v,ov,iv] (setItem ov iv v)
   release [v,ov,iv] []):=by intro _;rfl):PG X (.Subscript o i pos) (Ik to ti t):=by
 intro pins s σ H v u Q I r h;rw[ha];refine xaa (xbs (aN (ho pins s σ H _ I h) fun ov s1 ⟨x,H1,I1,r1,q1⟩=>?_));refine xaa (xbs (aN (hi pins s1 σ H1 _ I1 q1) fun iv s2 ⟨y,H2,I2,r2,q2⟩=>?_));refine xaa (xeO (xaa (xbs (aN (hs pins s2 σ H2 x y v ov iv u _ I2 r1 r2 r q2) fun _ s3 ⟨H3,I3,q3⟩=>?_))));exact wpAny_release ⟨σ,H3,I3,q3⟩
noncomputable def BK (te:TE) (g:TG):TS:=fun D σ H=>te σ H fun x H1=>g x σ H1 D.nx
theorem zdl (he:PE X e te)(hg:PG X tg g)(hs:swapsWithSole [tg] e pos.line X.env=pure false:=by rfl)(hw:swappedStores [tg] e X.env=pure none:=by rfl)
  (h1:(assignEach [tg] X.env).map (·.2)=[assign tg X.env]:=by rfl):PS X (.Assign [tg] e pos) (BK te g):=by
 intro pins s σ H D I h;refine wpAny_Assign_stores (aN (he pins s σ H _ I h) fun v s1 ⟨x,H1,I1,r1,q1⟩=>?_) hs hw;rw[h1];exact aN (hg pins s1 σ H1 x v _ I1 r1 q1) fun _ s2 q=>q
theorem QD (hN:X.N.Nodup)(hi:X.N[i]? =some x)(hx:Loc X.env.scope x)(he:PE X e te)(hs:swapsWith e (some (.Name x pos')) pos.line X.env=pure false:=by rfl)(hf:X.fn x=true\/X.env.scope.names.lookup x=some .local:=by first |exact .inl rfl |exact .inr rfl |assumption):
  PS X (.Assign [.Name x pos'] e pos) (BK te (pN i)):=by
 intro pins s σ H D I h;refine wpAny_Assign_Name (aN (he pins s σ H _ I h) fun v s1 ⟨y,H1,I1,r1,q1⟩=>?_) hs;exact FW I1 hN hi hx r1 (fun s2 I2=>⟨_,H1,I2,q1⟩) hf
noncomputable def K4 (i:Nat) (te:TE) (ti:GC):TS:=fun D σ H=>∃x,σ[i]? =some (some x)/\te σ H fun y H1=>ti x y H1 fun z H2=>D.nx (σ.set i (some z)) H2
theorem zde (hN:X.N.Nodup)(hi:X.N[i]? =some x)(hx:Loc X.env.scope x)(he:PE X e te)(ho:Gx X op ti)(hf:X.fn x=true\/X.env.scope.names.lookup x=some .local:=by first |exact .inl rfl |exact .inr rfl |assumption):
  PS X (.AugAssign (.Name x pos') op e pos) (K4 i te ti):=by
 intro pins s σ H D I h;obtain⟨v,e1,h⟩:=h;obtain⟨m,hn,hl⟩:=I.loc;have vis:uc X.env.scope x:=by rcases hx with k |k;exact .inl k;exact .inr (.inl k)
 obtain⟨u,r,l⟩:=hl i x v hi e1 vis;refine wpAny_AugAssign_Name ?_;have go:wpAny (model X.prog X.w) X.A (eval e X.env) (fun w s₂=>wpAny (model X.prog X.w) X.A (inplaceOp op u w) (fun r s₃=>wpAny (model X.prog X.w) X.A (storeName X.env x r) (fun _=>SP X pins D .next) X.xe s₃) X.xe s₂) X.xe s:=by
  refine aN (he pins s σ H _ I h) fun w s1 ⟨y,H1,I1,r1,q1⟩=>?_;refine aN (ho pins s1 σ H1 v y u w _ I1 r r1 q1) fun z s2 ⟨zv,H2,I2,r2,q2⟩=>?_;exact FW I2 hN hi hx r2 (fun s3 I3=>⟨_,H2,I3,q2⟩) hf
 rcases l with⟨hk,hm⟩ |⟨hk,c,hc,hcell⟩
 ·exact wpAny_loadName_local I.ok.kind hk hn hm go
 ·rcases hk with hk |hk
  ·exact wpAny_loadName_cell I.ok.kind hk hc hcell go
  ·rcases hx with k |k
   ·have:X.env.scope.names.lookup x=some .free:=hk;rw[k]at this;cases this
   ·have:X.env.scope.names.lookup x=some .free:=hk;rw[k]at this;cases this
noncomputable def O4 (f:Int->Int->Int):GC:=fun x y H Q=>∃i j,x=.int i/\y=.int j/\Q (.int (f i j)) H
theorem WR:Gx X .Sub (O4 fun i j=>i - j):=by
 intro pins s σ H x y v u Q I r1 r2 h;obtain⟨i,j,e1,e2,q⟩:=h;subst e1;subst e2;obtain⟨t,rfl⟩:=r1;obtain⟨t',rfl⟩:=r2;exact isub_int ⟨.int _,H,I.tok _,⟨_,rfl⟩,q⟩
end
section
variable {X:Cx}{pos:Pos}
noncomputable def Ti (c:TT) (tb:TS):TS:=fun D σ H=>∃W:Nat->St->Hp->Prop,(∃m,W m σ H)/\∀m σ H,W m σ H->
 c σ H fun b H1=>if b=true then ∃N:St->Hp->Prop,(∀σ' H',N σ' H'->∃m',m'<m/\W m' σ' H')/\tb {D with nx:=N,ct:=N,bk:=D.nx} σ H1 else D.nx σ H1
theorem zbn (hp:PassesOwn (model X.prog X.w) X.A X.env X.xe)(hc:PT X c tc)(hb:gw X body tb):PS X (.While c body [] pos) (Ti tc tb):=by
  intro pins s σ H D I h;obtain⟨W,⟨m0,w0⟩,turn⟩:=h;refine wpAny_While (codeAny_whileLoop (fun n s'=>∃σ' H',Inv X pins σ' H' s'/\W n σ' H') ?_ m0 ⟨σ,H,I,w0⟩);rintro n s1 ⟨σ1,H1,I1,w1⟩;refine xce hp (aN (hc pins s1 σ1 H1 _ I1 (turn n σ1 H1 w1)) fun b s2 ⟨H2,I2,q2⟩=>?_)
  cases b with
  |true=>
    obtain⟨N,hN,q2⟩:=q2;rw[xac rfl];refine xce hp (aN (hb pins s2 σ1 H2 _ I2 q2) fun f s3 q3=>?_)
    cases f with
    |next=>
      obtain⟨σ3,H3,I3,n3⟩:=q3;obtain⟨m',hm,w3⟩:=hN σ3 H3 n3;exact⟨m',hm,σ3,H3,I3,w3⟩
    |cont=>
      obtain⟨σ3,H3,I3,n3⟩:=q3;obtain⟨m',hm,w3⟩:=hN σ3 H3 n3;exact⟨m',hm,σ3,H3,I3,w3⟩
    |brk=>exact q3
    |ret v=>exact q3
  |false=>
    rw[xad xas];exact xes ⟨σ1,H2,I2,q2⟩
end
structure It where
 go:Nat->Hp->Prop
 yld:Nat->Hp->V->Hp->Prop
 stop:Nat->Hp->Prop
def dY (X:Cx)(pins:Pnx)(H:Hp)(b:Addr):Prop:=
 H b=none/\b≠X.env.locals/\b∉X.fs/\(b∈X.ex\/X.s₀.heap.objs.size<=b)/\(∀x c,X.env.cells.lookup x=some c->c≠b)/\∀p∈X.pn ++ pins,p.1≠b
theorem Inv.fpOk (I:Inv X pins σ H s)(hb:s.heap.objs.size<=b)(hn:H' b=none):dY X pins H' b:=by
 refine⟨hn,xcN (xap I.lt hb),I.nofs hb,.inr (xay I.sz hb),fun x c e z=>?_,fun p hp z=>?_⟩
 ·obtain⟨v,q⟩:=I.cell x c e;exact absurd (xap q.lt (by rw[z];exact hb)) (xbT _)
 ·exact absurd (xap (xao (I.pin p hp).1) (by rw[z];exact hb)) (xbT _)
structure Turn (P:Program)(w:World)(K:Fgx)(tg:Expr)(J:It)(fp:List Addr)(it:Addr)(tn:Nat->Heap->Prop):Prop where
 mem:it∈fp
 obj:∀i h,tn i h->∀b∈fp,∃o,h.get? b=some o/\∀v,o.data≠ .cell v
 keep:∀i h h',tn i h->(∀b∈fp,∀o,h.get? b=some o->h'.get? b=some o)->tn i h'
 item:∀(X:Cx),X.prog=P->X.w=w->X.K=K->X.calm=true->∀(i:Nat) (pins:Pnx) (s:Shared) (σ:St) (H:Hp) (E:Value->Shared->Prop),Inv X pins σ H s->(∀b∈fp,dY X pins H b)->tn i s.heap->J.go i H->
  wpAny (model P w) X.A (pyNext (.ref it)) (fun r s1=>∃u,r=some u/\
   wpAny (model P w) X.A (letOwnedTupleGo tg (.ref it) u) (fun _ s2=>∃x H',Inv X pins σ H' s2/\RelV x u/\J.yld i H x H'/\tn (i + 1) s2.heap/\∀b∈fp,H' b=none) E s1) E s
 done:∀(X:Cx),X.prog=P->X.w=w->X.K=K->X.calm=true->∀(i:Nat) (pins:Pnx) (s:Shared) (σ:St) (H:Hp) (E:Value->Shared->Prop),Inv X pins σ H s->(∀b∈fp,dY X pins H b)->tn i s.heap->J.stop i H->
  wpAny (model P w) X.A (pyNext (.ref it)) (fun r s1=>r=none/\Inv X pins σ H s1) E s
 self:∀(A:Around) (i:Nat) (s:Shared) (Q:Value->Shared->Prop) (E:Value->Shared->Prop),tn i s.heap->Q (.ref it) s->wpAny (model P w) A (pyIter (.ref it)) Q E s
abbrev TI:=St->Hp->(It->Hp->Prop)->Prop
def PIE (X:Cx)(pins:Pnx)(σ:St)(tg:Expr)(R:It->Hp->Prop)(itv:Value)(s2:Shared):Prop:=
 ∃(it:Addr) (fp:List Addr) (tn:Nat->Heap->Prop) (J:It) (H':Hp),itv=.ref it/\Inv X pins σ H' s2/\Turn X.prog X.w X.K tg J fp it tn/\tn 0 s2.heap/\(∀b∈fp,dY X pins H' b)/\R J H'
def PI (X:Cx)(tg iter:Expr)(wi:TI):Prop:=
 ∀(pins:Pnx) (s:Shared) (σ:St) (H:Hp) (R:It->Hp->Prop),Inv X pins σ H s->wi σ H R->
  wpAny (model X.prog X.w) X.A (eval iter X.env) (fun v s1=>wpAny (model X.prog X.w) X.A (pyIter v) (PIE X pins σ tg R) X.xe s1) X.xe s
theorem xZ {M:Model}{A:Around}{E:Value->Shared->Prop}{s:Shared}{tg:Expr}{it:Addr}{u:Value}{o:Obj}{n:String}{vs:Array Value}{Q:Unit->Shared->Prop}(ho:s.heap.get? it=some o)(hc:o.cls=.type n)(hd:o.data=.fields vs)
    (hn:["enumerate","zip","dict_itemiterator","dict_reverseitemiterator","odict_iterator","itertools.zip_longest","itertools.pairwise"].contains n=false) (hQ:Q () s):wpAny M A (letOwnedTupleGo tg (.ref it) u) Q E s:=by
  unfold letOwnedTupleGo;cases tg<;>first
    |exact xab hQ
    | (cases u<;>first
        |exact xab hQ
        | (refine xaa (wpAny_load ho ?_)
           rw[hc,hd];show wpAny M A (if (["enumerate","zip","dict_itemiterator","dict_reverseitemiterator","odict_iterator","itertools.zip_longest","itertools.pairwise"].contains n && vs[0]? ==some (rawInt _))=true then _ else _) Q E s
           rw[xad (by intro h;rw[hn,Bool.false_and]at h;cases h)];exact xab hQ))
noncomputable def Mf (K:Fgx) (a:Addr):It:=
 ⟨fun i H=>∃xs x,bI K H a xs/\xs[i]? =some x,fun i H x H'=>H'=H/\∀xs,bI K H a xs->xs[i]? =some x,fun i H=>∃xs,bI K H a xs/\xs.length<=i⟩
noncomputable def Cq (lo:Int) (n:Nat):It:=⟨fun i _=>i<n,fun i H x H'=>H'=H/\x=.int (lo + i),fun i _=>n<=i⟩
theorem zaK {P:Program}{w:World}{K:Fgx}{tg:Expr}(a it:Addr):Turn P w K tg (Mf K a) [it] it (fun i h=>h.IsListIter it a i) where
 mem:=by simp
 obj:=fun i h st b hb=>by
  have e:b=it:=by simpa using hb
  subst e;obtain⟨o,e,c,d⟩:=st;exact⟨o,e,fun v z=>by rw[d]at z;cases z⟩
 keep:=fun i h h' st k=>st.at fun o e=>k it (by simp) o e
 item:=by
  intro X hP hw hK hc i pins s σ H E I hf st hg;subst hP hw hK;obtain⟨xs,x,hq,hx⟩:=hg;obtain⟨its,rv,p,hz⟩:=I.list hq;obtain⟨u,hu,ru⟩:=rv.get hx;obtain⟨f0,f1,f2,f3,f4,f5⟩:=hf it (by simp);refine wpAny_pyNext_list_item st p.isList (x:=u) (by simpa using hu) fun h' st' sb=>?_;have I1:Inv X pins σ H {s with heap:=h'}:=I.turned (t':=s.toks) (fun b o hb e=>(sb.2 b hb).trans e) f0 f1 f3 f4 f5;obtain⟨o,e,c,d⟩:=id st';exact⟨u,rfl,xZ (s:={s with heap:=h'}) e c d (by decide) ⟨x,H,I1,ru,⟨rfl,fun ys hy=>by rw[I.list_inj hy hq];exact hx⟩,st',fun b hb=>(hf b hb).1⟩⟩
 done:=by
  intro X hP hw hK hc i pins s σ H E I hf st hg;subst hP hw hK;obtain⟨xs,hq,hx⟩:=hg;obtain⟨its,rv,p,hz⟩:=I.list hq;obtain⟨f0,f1,f2,f3,f4,f5⟩:=hf it (by simp);have hl:=rv.length;exact wpAny_pyNext_list_end (I.ok.hd hc) st p.isList (by simp;lia) fun h' eb=>⟨rfl,I.turned (t':=s.toks) (fun b o hb e=>eb b o hb e) f0 f1 f3 f4 f5⟩
 self:=fun _ _ _ _ _ st h=>wpAny_pyIter_listiter st h
theorem zaB {P:Program}{w:World}{K:Fgx}{tg:Expr}(it:Addr)(lo:Int)(n:Nat):Turn P w K tg (Cq lo n) [it] it (fun i h=>IsRangeIter h it (lo + (i:Nat) * 1) ((n:Int) - (i:Nat)) 1) where
 mem:=by simp
 obj:=fun i h st b hb=>by
  have e:b=it:=by simpa using hb
  subst e;exact ⟨_,st,fun v z=>by
   have z':Data.fields _=Data.cell v:=z;cases z'⟩
 keep:=fun i h h' st k=>k it (by simp) _ st
 item:=by
  intro X hP hw hK hc i pins s σ H E I hf st hg;subst hP hw hK;obtain⟨f0,f1,f2,f3,f4,f5⟩:=hf it (by simp);have W:=Walks.range (prog:=X.prog) (w:=X.w) (I.ok.hd hc) it lo 1 n;refine W.item i s _ _ hg st fun v h' tk hv st' kk=>?_;obtain⟨t,rfl⟩:=hv;have I1:Inv X pins σ H {s with heap:=h',toks:=tk}:=I.turned (fun b o hb e=>kk b o (by simpa using hb) e) f0 f1 f3 f4 f5;refine⟨_,rfl,xZ (s:={s with heap:=h',toks:=tk}) (n:="range_iterator") st' rfl rfl (by decide) ⟨.int (lo + i),H,I1,⟨t,?_⟩,⟨rfl,rfl⟩,st',fun b hb=>(hf b hb).1⟩⟩;rw[Int.mul_one]
 done:=by
  intro X hP hw hK hc i pins s σ H E I hf st hg;subst hP hw hK;obtain⟨f0,f1,f2,f3,f4,f5⟩:=hf it (by simp);exact wpAny_pyNext_range_end (I.ok.hd hc) st (by have:n<=i:=hg;lia) fun h' eb=>⟨rfl,I.turned (t':=s.toks) (fun b o hb e=>eb b o hb e) f0 f1 f3 f4 f5⟩
 self:=fun _ _ _ _ _ st h=>wpAny_pyIter_rangeiter st h
section
variable {X:Cx}{tg:Expr}
noncomputable def O1 (K:Fgx) (tl:TE):TI:=fun σ H R=>tl σ H fun x H1=>∃a,x=.ref a/\(∃xs,bI K H1 a xs)/\R (Mf K a) H1
theorem JC {l:Expr}{tl:TE}(hl:PE X l tl):PI X tg l (O1 X.K tl):=by
 intro pins s σ H R I h;refine aN (hl pins s σ H _ I h) fun v s1 ⟨x,H1,I1,r1,q1⟩=>?_;obtain⟨a,e,⟨xs,hq⟩,q⟩:=q1;subst e;cases r1;obtain⟨its,rv,p,hz⟩:=I1.list hq;refine wpAny_pyIter_list p.isList ?_;refine⟨s1.heap.objs.size,[s1.heap.objs.size],_,_,H1,rfl,I1.kept (t':=s1.toks) fun b o e=>xag _ e,zaK a _,⟨_,xau _ rfl,rfl,rfl⟩,fun b hb=>?_,q⟩;have e:b=s1.heap.objs.size:=by simpa using hb
 subst e;exact I1.fpOk (xaf _) (I1.hok.fresh (xaf _))
theorem za4 {pins:Pnx}{σ:St}{H:Hp}{s:Shared}{R:It->Hp->Prop}{E:Value->Shared->Prop}{lo hi:Int}{t u v:Tok}{tk:Nat}(I:Inv X pins σ H s)(h1: -(2 ^ 62)<=lo)(h2:lo<2 ^ 62)(h3: -(2 ^ 62)<=hi)(h4:hi<2 ^ 62)
  (q:R (Cq lo (hi - lo).toNat) H):wpAny (model X.prog X.w) X.A (pyIter (.ref s.heap.objs.size)) (PIE X pins σ tg R) E {s with heap:=s.heap.push {cls:=.type "range",data:=.fields #[.int lo t,.int hi u,.int 1 v]},toks:=tk}:=by
 refine wpAny_pyIter_range (IsRange.new ..) (small_one h1 h2 h3 h4) ?_;have I1 : Inv X pins σ H { s with heap := s.heap.push { cls := .type "range", data := .fields #[.int lo t, .int hi u, .int 1 v] }, toks := tk } := I.kept fun b o e => xag _ e;refine ⟨(s.heap.push {cls:=.type "range",data:=.fields #[.int lo t,.int hi u,.int 1 v]}).objs.size,[(s.heap.push {cls:=.type "range",data:=.fields #[.int lo t,.int hi u,.int 1 v]}).objs.size],_,_,H,rfl,
  I1.kept (t':=tk) fun b o e=>xag _ e,zaB _ lo (hi - lo).toNat,?_,fun b hb=>?_,q⟩
 ·have e1:lo + ((0:Nat):Int) * 1=lo:=by simp
  have e2:(((hi - lo).toNat:Nat):Int) - ((0:Nat):Int)=Builtin.Range.rangeSize lo hi 1:=by rw[rangeSize_one];split<;>lia
  show IsRangeIter _ _ (lo + ((0:Nat):Int) * 1) ((((hi - lo).toNat:Nat):Int) - ((0:Nat):Int)) 1;rw[e1,e2];exact xau _ rfl
 ·have e:b=(s.heap.push {cls:=.type "range",data:=.fields #[.int lo t,.int hi u,.int 1 v]}).objs.size:=by simpa using hb
  subst e;exact I1.fpOk (xaf _) (I1.hok.fresh (xaf _))
noncomputable def yc (ta:TA):TI:=fun σ H R=>ta σ H fun vs H1=>∃j:Int,vs=[.int j]/\ -(2 ^ 62)<=j/\j<2 ^ 62/\R (Cq 0 j.toNat) H1
theorem Z_ {a:Expr}{ta:TA}{p pos:Pos}(hg:Gl X "range")(hm:X.mg "range"=none)(ha:PA X [a] ta)(hs:starEach [a] X.env=[(false,eval a X.env)]:=by rfl):PI X tg (.Call (.Name "range" p) [a] [] pos) (yc ta):=by
  intro pins s σ H R I h;refine Call_ (yj I hg hm boot_range (xcb (aN (ha pos pins s σ H _ I h) fun us s1 ⟨vs,H1,I1,r1,q1⟩=>?_) hs rfl));obtain⟨j,e,q1,q2,q⟩:=q1;subst e
  cases r1 with
  |cons r rr=>
    cases rr;obtain⟨t,rfl⟩:=r;exact call_range_1 (za4 I1 (by lia) (by lia) q1 q2 (by simpa using q))
noncomputable def K9 (wi:TI) (g:TG) (tb:TS):TS:=fun D σ H=>wi σ H fun J H1=>∃W:Nat->Nat->St->Hp->Prop,(∃m,W 0 m σ H1)/\∀i m σ H,W i m σ H->
 (J.stop i H/\D.nx σ H)\/(J.go i H/\∃N:St->Hp->Prop,(∀σ' H',N σ' H'->∃m',m'<m/\W (i + 1) m' σ' H')/\∀x H',J.yld i H x H'->g x σ H' fun σ2 H2=>tb {D with nx:=N,ct:=N,bk:=D.nx} σ2 H2)
noncomputable def Ba (fp:List Addr) (h:Heap):Pnx:=fp.filterMap fun b=>(h.get? b).map fun o=>(b,o)
theorem DK (hb:b∈fp)(e:h.get? b=some o):(b,o)∈Ba fp h:=xc3.mpr ⟨b,hb,by rw[e];rfl⟩
theorem YX (hp:p∈Ba fp h):p.1∈fp/\h.get? p.1=some p.2:=by
  obtain⟨b,hb,e⟩:=xc3.mp hp
  cases q:h.get? b with
  |none=>rw[q]at e;cases e
  |some o=>
    rw[q]at e;have e':(b,o)=p:=xaA e;subst e';exact⟨hb,q⟩
theorem Inv.pinned (I:Inv X pins σ H s)(hf:∀b∈fp,dY X pins H b)(ho:∀b∈fp,∃o,s.heap.get? b=some o/\∀v,o.data≠ .cell v):Inv X (pins ++ Ba fp s.heap) σ H s:=
 I.pins_of fun p hp=>(xaQ.mp hp).elim (fun z=>I.pin p (xaE _ z)) fun z=>by
  obtain⟨hb,e⟩:=YX z;obtain⟨f0,f1,f2,_⟩:=hf p.1 hb;obtain⟨o,e',d⟩:=ho p.1 hb;rw[e]at e';cases e';exact⟨e,f0,f1,f2,d⟩
theorem Inv.unpinned (I:Inv X (pins ++ pl) σ H s):Inv X pins σ H s:=I.pins_of fun p hp=>I.pin p (xaE _ (xcm _ hp))
theorem QC (hp:PassesOwn (model X.prog X.w) X.A X.env X.xe)(hc:X.calm=true)(hi:PI X tg iter wi)(hg:PG X tg g)(hb:gw X body tb)
  (hs:∀x,foldedSetIterable iter X.env x=pure x:=by intro _;rfl):PS X (.For tg iter body [] pos) (K9 wi g tb):=by
 intro pins s σ H D I h;refine wpAny_For (aN (hi pins s σ H _ I h) fun v s1 h1=>aN h1 fun itv s2 h2=>?_) hs;obtain⟨it,fp,tn,J,H2,e,I2,T,st2,f2,W,⟨m0,w0⟩,turn⟩:=h2;subst e
 -- what stays true of the iterator's objects through the loop
 have stat:∀{H':Hp},(∀b∈fp,H' b=none)->∀b∈fp,dY X pins H' b:=fun hn b hb=>⟨hn b hb,(f2 b hb).2⟩;refine codeAny_forLoop_any (fun n s'=>∃i σ' H',Inv X pins σ' H' s'/\tn i s'.heap/\(∀b∈fp,H' b=none)/\W i n σ' H') ?_ m0 ⟨0,σ,H2,I2,st2,fun b hb=>(f2 b hb).1,w0⟩;rintro n s3 ⟨i,σ3,H3,I3,st3,fr3,w3⟩;rcases turn i n σ3 H3 w3 with⟨stop,qn⟩ |⟨go,N,hN,step⟩
 ·refine xce hp (aN (T.done X rfl rfl rfl hc i pins s3 σ3 H3 X.xe I3 (stat fr3) st3 stop) fun r s4 ⟨hr,I4⟩=>?_);subst hr;exact xes ⟨σ3,H3,I4,qn⟩
 ·refine xce hp (aN (T.item X rfl rfl rfl hc i pins s3 σ3 H3 X.xe I3 (stat fr3) st3 go) fun r s4 ⟨u,hr,h4⟩=>?_);subst hr;refine xce hp (aN h4 fun _ s5 ⟨x,H5,I5,r5,y5,st5,fr5⟩=>?_);have I5':=I5.pinned (stat fr5) (T.obj _ _ st5);refine xce hp (aN (hg _ s5 σ3 H5 x u _ I5' r5 (step x H5 y5)) fun _ s6 ⟨σ6,H6,I6,q6⟩=>?_);refine xce hp (aN (hb _ s6 σ6 H6 _ I6 q6) fun f s7 q7=>?_);have again:∀{σ7:St} {H7:Hp},Inv X (pins ++ Ba fp s5.heap) σ7 H7 s7->N σ7 H7->∃m,m<n/\∃i σ' H',Inv X pins σ' H' s7/\tn i s7.heap/\(∀b∈fp,H' b=none)/\W i m σ' H':=fun {σ7 H7} I7 n7=>by
   obtain⟨m',hm,w7⟩:=hN σ7 H7 n7;refine⟨m',hm,i + 1,σ7,H7,I7.unpinned,T.keep _ _ _ st5 fun b hb o e=>(I7.pin (b,o) (xaE _ (xaE _ (DK hb e)))).1,fun b hb=>?_,w7⟩;obtain⟨o,e,d⟩:=T.obj _ _ st5 b hb;exact(I7.pin (b,o) (xaE _ (xaE _ (DK hb e)))).2.1
  cases f with
  |next=>obtain⟨σ7,H7,I7,n7⟩:=q7;exact again I7 n7
  |cont=>obtain⟨σ7,H7,I7,n7⟩:=q7;exact again I7 n7
  |brk=>obtain⟨σ7,H7,I7,q7⟩:=q7;exact⟨σ7,H7,I7.unpinned,q7⟩
  |ret v=>obtain⟨x7,σ7,H7,I7,r7,q7⟩:=q7;exact⟨x7,σ7,H7,I7.unpinned,r7,q7⟩
end
theorem L_ {c:TT}{tb:TS}{D:Ends}{σ:St}{H:Hp}(Pv:St->Hp->Prop)(μ:St->Hp->Nat)(h0:Pv σ H)
  (hs:∀σ H,Pv σ H->c σ H fun b H1=>if b=true then tb {D with nx:=fun σ' H'=>Pv σ' H'/\μ σ' H'<μ σ H,ct:=fun σ' H'=>Pv σ' H'/\μ σ' H'<μ σ H,bk:=D.nx} σ H1 else D.nx σ H1)
  (mono:∀σ H Q Q',(∀b H1,Q b H1->Q' b H1)->c σ H Q->c σ H Q'):Ti c tb D σ H:=by
 refine⟨fun m σ H=>m=μ σ H/\Pv σ H,⟨_,rfl,h0⟩,?_⟩;rintro m σ H ⟨rfl,p⟩;refine mono σ H _ _ (fun b H1 q=>?_) (hs σ H p)
 cases b with
 |true=>exact⟨_,fun σ' H' ⟨p',l⟩=>⟨_,l,rfl,p'⟩,q⟩
 |false=>exact q
abbrev R2:=V->V->Hp->VK->Prop
def bU (X:Cx)(f:Value->Value->Sem Value)(r:R2):Prop:=
 ∀(pins:Pnx) (s:Shared) (σ:St) (H:Hp) (x y:V) (v u:Value) (Q:VK),Inv X pins σ H s->RelV x v->RelV y u->r x y H Q->
  wpAny (model X.prog X.w) X.A (f v u) (EP X pins σ Q) X.xe s
def Cr (X:Cx)(f:Value->Sem Value)(r:V->Hp->VK->Prop):Prop:=
 ∀(pins:Pnx) (s:Shared) (σ:St) (H:Hp) (x:V) (v:Value) (Q:VK),Inv X pins σ H s->RelV x v->r x H Q->
  wpAny (model X.prog X.w) X.A (f v) (EP X pins σ Q) X.xe s
def c7 (X:Cx)(f:Value)(r:List V->Hp->VK->Prop):Prop:=
 ∀(pins:Pnx) (s:Shared) (σ:St) (H:Hp) (xs:List V) (us:List Value) (Q:VK),Inv X pins σ H s->Vals xs us->r xs H Q->
  wpAny (model X.prog X.w) X.A (call f us) (EP X pins σ Q) X.xe s
def GD (X:Cx)(r:V->Hp->(Bool->Hp->Prop)->Prop):Prop:=
 ∀(pins:Pnx) (s:Shared) (σ:St) (H:Hp) (x:V) (v:Value) (Q:Bool->Hp->Prop),Inv X pins σ H s->RelV x v->r x H Q->
  wpAny (model X.prog X.w) X.A (truthy v) (TP X pins σ Q) X.xe s
noncomputable def BP (r:R2) (ta tb:TE):TE:=fun σ H Q=>ta σ H fun x H1=>tb σ H1 fun y H2=>r x y H2 Q
noncomputable def Tg (r:V->Hp->VK->Prop) (ta:TE):TE:=fun σ H Q=>ta σ H fun x H1=>r x H1 Q
noncomputable def rI (C:Int->Int->Prop) (g:Int->Int->V):R2:=fun x y H Q=>∃i j,x=.int i/\y=.int j/\C i j/\Q (g i j) H
noncomputable def gO (g:Int->Int->V):R2:=fun x y H Q=>∃i j,x=.int i/\y=.int j/\Q (g i j) H
def rU (g:Int->V):V->Hp->VK->Prop:=fun x H Q=>∃i,x=.int i/\Q (g i) H
section
variable {X:Cx}{a b c:Expr}{ta tb tc:TE}{pos:Pos}
theorem u6 (ha:PE X a ta)(hb:PE X b tb){pins:Pnx}{s:Shared}{σ:St}{H:Hp}{R:V->V->Hp->Prop}(I:Inv X pins σ H s)
  (h:ta σ H fun x H1=>tb σ H1 fun y H2=>R x y H2) {Q:Value->Shared->Prop} {f:Value->Value->Sem Value}
  (hf:∀v u s2 x y H2,Inv X pins σ H2 s2->RelV x v->RelV y u->R x y H2->wpAny (model X.prog X.w) X.A (f v u) Q X.xe s2):
  wpAny (model X.prog X.w) X.A (eval a X.env) (fun v s₁=>wpAny (model X.prog X.w) X.A (eval b X.env) (fun u s₂=>wpAny (model X.prog X.w) X.A (f v u) Q X.xe s₂) X.xe s₁) X.xe s:=by
 refine aN (ha pins s σ H _ I h) fun v s1 ⟨x,H1,I1,r1,q1⟩=>?_;refine aN (hb pins s1 σ H1 _ I1 q1) fun u s2 ⟨y,H2,I2,r2,q2⟩=>?_;exact hf v u s2 x y H2 I2 r1 r2 q2
theorem Qv {op:Operator}{r:R2}(ho:bU X (binaryOp op) r)(ha:PE X a ta)(hb:PE X b tb):PE X (.BinOp a op b pos) (BP r ta tb):=by
 intro pins s σ H Q I h;exact wpAny_BinOp (u6 ha hb I h fun v u s2 x y H2 I2 rx ry q=>ho pins s2 σ H2 x y v u Q I2 rx ry q)
theorem Z5 (ho:Cr X (unaryOp op) r)(ha:PE X a ta):PE X (.UnaryOp op a pos) (Tg r ta):=by
 intro pins s σ H Q I h;exact UnaryOp_ (aN (ha pins s σ H _ I h) fun v s1 ⟨x,H1,I1,r1,q1⟩=>ho pins s1 σ H1 x v Q I1 r1 q1)
theorem Eh {f:Value->Value->Sem Value}{C:Int->Int->Prop}{g:Int->Int->Int}
  (rule:∀(i j:Int) (t u:Tok) (s:Shared) (Q:Value->Shared->Prop) (E:Value->Shared->Prop),C i j->Q (.int (g i j) s.toks) {s with toks:=s.toks + 1}->wpAny (model X.prog X.w) X.A (f (.int i t) (.int j u)) Q E s):
  bU X f (rI C fun i j=>.int (g i j)):=by
 intro pins s σ H x y v u Q I rx ry h;obtain⟨i,j,rfl,rfl,hc,q⟩:=h;obtain⟨t,rfl⟩:=rx;obtain⟨t',rfl⟩:=ry;exact rule i j t t' s _ _ hc ⟨.int (g i j),H,I.tok _,⟨_,rfl⟩,q⟩
theorem Av {f:Value->Value->Sem Value}{g:Int->Int->Int}
  (rule:∀(i j:Int) (t u:Tok) (s:Shared) (Q:Value->Shared->Prop) (E:Value->Shared->Prop),Q (.int (g i j) s.toks) {s with toks:=s.toks + 1}->wpAny (model X.prog X.w) X.A (f (.int i t) (.int j u)) Q E s):
  bU X f (gO fun i j=>.int (g i j)):=by
 intro pins s σ H x y v u Q I rx ry h;obtain⟨i,j,rfl,rfl,q⟩:=h;obtain⟨t,rfl⟩:=rx;obtain⟨t',rfl⟩:=ry;exact rule i j t t' s _ _ ⟨.int (g i j),H,I.tok _,⟨_,rfl⟩,q⟩
theorem pZ {f:Value->Value->Sem Value}{g:Int->Int->Bool}
  (rule:∀(i j:Int) (t u:Tok) (s:Shared) (Q:Value->Shared->Prop) (E:Value->Shared->Prop),Q (.bool (g i j)) s->wpAny (model X.prog X.w) X.A (f (.int i t) (.int j u)) Q E s):
  bU X f (gO fun i j=>.bl (g i j)):=by
 intro pins s σ H x y v u Q I rx ry h;obtain⟨i,j,rfl,rfl,q⟩:=h;obtain⟨t,rfl⟩:=rx;obtain⟨t',rfl⟩:=ry;exact rule i j t t' s _ _ ⟨.bl (g i j),H,I,rfl,q⟩
def yJ (i j:Int):Prop:=0<j/\j<1073741824
def tX (i j:Int):Prop:=0<=j/\j<=1000000/\i.natAbs<2 ^ 64
def n_ (i j:Int):Prop:=(-(2 ^ 64)<i/\i<2 ^ 64)\/(-(2 ^ 64)<j/\j<2 ^ 64)
theorem n_.ok (h:n_ i j):IntMulOk i j:=by
 rcases h with⟨h1,h2⟩ |⟨h1,h2⟩
 ·exact .of_left (intBits_le_64 h1 h2)
 ·exact .of_right (intBits_le_64 h1 h2)
theorem Y_:bU X (binaryOp .Add) (gO fun i j=>.int (i + j)):=Av fun _ _ _ _ _ _ _ q=>add_int q
theorem sy:bU X (binaryOp .Sub) (gO fun i j=>.int (i - j)):=Av fun _ _ _ _ _ _ _ q=>sub_int q
theorem lE:bU X (binaryOp .FloorDiv) (rI yJ fun i j=>.int (i / j)):=Eh fun i j _ _ _ _ _ hc q=>by
 have h1:(0:Int)<j:=hc.1;have h2:j<1073741824:=hc.2;exact floordiv_int (by lia) (by rw[Int.fdiv_eq_ediv_of_nonneg i (by lia)];exact q) (.inl (PyProof.noPylong_small (by lia)))
theorem gb:bU X (binaryOp .Mod) (rI (fun _ j=>0<j) fun i j=>.int (i % j)):=Eh fun i j _ _ _ _ _ hc q=>by
 have h1:(0:Int)<j:=hc;exact mod_int' (by lia) (by rw[Int.fmod_eq_emod_of_nonneg i (by lia)];exact q)
theorem Aw:bU X (binaryOp .Pow) (rI tX fun i j=>.int (i ^ j.toNat)):=Eh fun _ _ _ _ _ _ _ hc q=>pow_int_small hc.1 hc.2.1 hc.2.2 q
theorem unI {f:Value->Sem Value}{g:Int->Int}
  (rule:∀(i:Int) (t:Tok) (s:Shared) (Q:Value->Shared->Prop) (E:Value->Shared->Prop),Q (.int (g i) s.toks) {s with toks:=s.toks + 1}->wpAny (model X.prog X.w) X.A (f (.int i t)) Q E s):
  Cr X f (rU fun i=>.int (g i)):=by
 intro pins s σ H x v Q I rx h;obtain⟨i,rfl,q⟩:=h;obtain⟨t,rfl⟩:=rx;exact rule i t s _ _ ⟨.int (g i),H,I.tok _,⟨_,rfl⟩,q⟩
theorem Lr:Cr X (unaryOp .USub) (rU fun i=>.int (-i)):=unI fun _ _ _ _ _ q=>neg_int q
end
noncomputable def rF:V->V->Bool
 |.non,.non=>true |.non,.int _=>true |.int _,.non=>true |.non,.bl _=>true |.bl _,.non=>true |.non,.str _=>true |.str _,.non=>true
 |.int _,.int _=>true |.bl _,.bl _=>true |.str _,.str _=>true |.byt _,.byt _=>true
 |.int _,.str _=>true |.str _,.int _=>true |.bl _,.str _=>true |.str _,.bl _=>true
 |_,_=>false
def rEq:R2:=fun x y H Q=>rF x y=true/\Q (.bl (decide (x=y))) H
def rNe:R2:=fun x y H Q=>rF x y=true/\Q (.bl (!decide (x=y))) H
theorem Ny:decide (V.int i=V.int j)=(i==j):=by
 rw[xbP]
 simp
theorem Dd:decide (V.bl i=V.bl j)=(i==j):=by
 rw[xbP]
 simp
theorem Nz:decide (V.str i=V.str j)=(i==j):=by
 rw[xbP]
 simp
theorem Nx:decide (V.byt i=V.byt j)=(i.toList==j.toList):=by
 rw[xbP];cases i;cases j
 simp
section
variable {X:Cx}{a b c:Expr}{ta tb tc:TE}{pos:Pos}
theorem bA (I:Inv X pins σ H s)(q:Q (.bl k) H)(e:k=k'):EP X pins σ Q (.bool k') s:=by
 subst e;exact⟨.bl k,H,I,rfl,q⟩
theorem Zc:bU X (compareOp .Eq) rEq:=by
  intro pins s σ H x y v u Q I rx ry h;obtain⟨hs,q⟩:=h
  cases x with
  |non=>
    cases rx
    cases y with
    |non=>cases ry;exact PySem.EqNone.eq_none_none (bA I q (by simp))
    |bl j=>cases ry;exact PySem.EqNone.eq_none_bool (bA I q (by simp))
    |int j=>obtain⟨t',rfl⟩:=ry;exact PySem.EqNone.eq_none_int (bA I q (by simp))
    |str j=>obtain⟨t',rfl⟩:=ry;exact PySem.EqNone.eq_none_str (bA I q (by simp))
    |_=>exact absurd (show false=true from hs) xas
  |bl i=>
    cases rx
    cases y with
    |non=>cases ry;exact PySem.EqNone.eq_bool_none (bA I q (by simp))
    |bl j=>cases ry;exact eq_bool (bA I q Dd)
    |str j=>obtain⟨t',rfl⟩:=ry;exact PySem.EqMixed.eq_bool_str (bA I q (by simp))
    |_=>exact absurd (show false=true from hs) xas
  |int i=>
    obtain⟨t,rfl⟩:=rx
    cases y with
    |non=>cases ry;exact PySem.EqNone.eq_int_none (bA I q (by simp))
    |int j=>obtain⟨t',rfl⟩:=ry;exact eq_int (bA I q Ny)
    |str j=>obtain⟨t',rfl⟩:=ry;exact PySem.EqMixed.eq_int_str (bA I q (by simp))
    |_=>exact absurd (show false=true from hs) xas
  |str i=>
    obtain⟨t,rfl⟩:=rx
    cases y with
    |non=>cases ry;exact PySem.EqNone.eq_str_none (bA I q (by simp))
    |bl j=>cases ry;exact PySem.EqMixed.eq_str_bool (bA I q (by simp))
    |int j=>obtain⟨t',rfl⟩:=ry;exact PySem.EqMixed.eq_str_int (bA I q (by simp))
    |str j=>obtain⟨t',rfl⟩:=ry;exact eq_str (bA I q Nz)
    |_=>exact absurd (show false=true from hs) xas
  |byt i=>
    obtain⟨t,rfl⟩:=rx
    cases y with
    |byt j=>obtain⟨t',rfl⟩:=ry;exact PySem.W.eq_bytes (bA I q Nx)
    |_=>exact absurd (show false=true from hs) xas
  |_=>cases y<;>exact absurd (show false=true from hs) xas
theorem Zo:bU X (compareOp .NotEq) rNe:=by
  intro pins s σ H x y v u Q I rx ry h;obtain⟨hs,q⟩:=h
  cases x with
  |non=>
    cases rx
    cases y with
    |non=>cases ry;exact PySem.EqNone.ne_none_none (bA I q (by simp))
    |bl j=>cases ry;exact PySem.EqNone.ne_none_bool (bA I q (by simp))
    |int j=>obtain⟨t',rfl⟩:=ry;exact PySem.EqNone.ne_none_int (bA I q (by simp))
    |str j=>obtain⟨t',rfl⟩:=ry;exact PySem.EqNone.ne_none_str (bA I q (by simp))
    |_=>exact absurd (show false=true from hs) xas
  |bl i=>
    cases rx
    cases y with
    |non=>cases ry;exact PySem.EqNone.ne_bool_none (bA I q (by simp))
    |bl j=>cases ry;exact ne_bool (bA I q (congrArg not Dd))
    |str j=>obtain⟨t',rfl⟩:=ry;exact PySem.EqMixed.ne_bool_str (bA I q (by simp))
    |_=>exact absurd (show false=true from hs) xas
  |int i=>
    obtain⟨t,rfl⟩:=rx
    cases y with
    |non=>cases ry;exact PySem.EqNone.ne_int_none (bA I q (by simp))
    |int j=>obtain⟨t',rfl⟩:=ry;exact ne_int (bA I q (congrArg not Ny))
    |str j=>obtain⟨t',rfl⟩:=ry;exact PySem.EqMixed.ne_int_str (bA I q (by simp))
    |_=>exact absurd (show false=true from hs) xas
  |str i=>
    obtain⟨t,rfl⟩:=rx
    cases y with
    |non=>cases ry;exact PySem.EqNone.ne_str_none (bA I q (by simp))
    |bl j=>cases ry;exact PySem.EqMixed.ne_str_bool (bA I q (by simp))
    |int j=>obtain⟨t',rfl⟩:=ry;exact PySem.EqMixed.ne_str_int (bA I q (by simp))
    |str j=>obtain⟨t',rfl⟩:=ry;exact ne_str (bA I q (congrArg not Nz))
    |_=>exact absurd (show false=true from hs) xas
  |byt i=>
    obtain⟨t,rfl⟩:=rx
    cases y with
    |byt j=>obtain⟨t',rfl⟩:=ry;exact PySem.W.ne_bytes (bA I q (congrArg not Nx))
    |_=>exact absurd (show false=true from hs) xas
  |_=>cases y<;>exact absurd (show false=true from hs) xas
theorem Zn:bU X (compareOp .Lt) (gO fun i j=>.bl (decide (i<j))):=pZ fun _ _ _ _ _ _ _ q=>lt_int q
theorem Zm:bU X (compareOp .LtE) (gO fun i j=>.bl (decide (i<=j))):=pZ fun _ _ _ _ _ _ _ q=>le_int q
theorem Zf:bU X (compareOp .Gt) (gO fun i j=>.bl (decide (j<i))):=pZ fun _ _ _ _ _ _ _ q=>gt_int q
theorem Ze:bU X (compareOp .GtE) (gO fun i j=>.bl (decide (j<=i))):=pZ fun _ _ _ _ _ _ _ q=>ge_int q
theorem Zh:bU X (compareOp .In) (fun x y H Q=>∃i j,x=.str i/\y=.str j/\Q (.bl (!(Builtin.Str.occurrences j i 0 j.length 1).isEmpty)) H):=by
 intro pins s σ H x y v u Q I rx ry h;obtain⟨i,j,rfl,rfl,q⟩:=h;obtain⟨t,rfl⟩:=rx;obtain⟨t',rfl⟩:=ry;exact in_str (bA I q rfl)
theorem Zj:bU X (compareOp .Is) (fun x y H Q=>y=.non/\Q (.bl (decide (x=.non))) H):=by
 intro pins s σ H x y v u Q I rx ry h;obtain⟨rfl,q⟩:=h;cases ry;refine is_none_gen (bA I q ?_);cases x<;>first
  |(cases rx;rfl)
  |(obtain⟨t,rfl⟩:=rx;rfl)
theorem Zt:bU X (compareOp .IsNot) (fun x y H Q=>y=.non/\Q (.bl (!decide (x=.non))) H):=by
 intro pins s σ H x y v u Q I rx ry h;obtain⟨rfl,q⟩:=h;cases ry;refine isnot_none_gen (bA I q ?_);cases x<;>first
  |(cases rx;rfl)
  |(obtain⟨t,rfl⟩:=rx;rfl)
theorem Zu:bU X (compareOp .NotIn) (fun x y H Q=>∃i j,x=.str i/\y=.str j/\Q (.bl (!(!(Builtin.Str.occurrences j i 0 j.length 1).isEmpty))) H):=by
 intro pins s σ H x y v u Q I rx ry h;obtain⟨i,j,rfl,rfl,q⟩:=h;obtain⟨t,rfl⟩:=rx;obtain⟨t',rfl⟩:=ry;exact notIn_str (bA I q rfl)
theorem bU.or (h:bU X f r)(h':bU X f r'):bU X f (fun x y H Q=>r x y H Q\/r' x y H Q):=by
 intro pins s σ H x y v u Q I rx ry q;rcases q with q |q
 ·exact h pins s σ H x y v u Q I rx ry q
 ·exact h' pins s σ H x y v u Q I rx ry q
theorem ZD {op:CmpOp}{r:R2}(ho:bU X (compareOp op) r)(ha:PE X a ta)(hb:PE X b tb)(hm:behindInMarks op b=false):PE X (.Compare a [op] [b] pos) (BP r ta tb):=by
 intro pins s σ H Q I h;exact wpAny_Compare1 (u6 ha hb I h fun v u s2 x y H2 I2 rx ry q=>ho pins s2 σ H2 x y v u Q I2 rx ry q) hm
noncomputable def Tf (t:TE):TT:=fun σ H Q=>t σ H fun x H'=>∃k,x=.bl k/\Q k H'
theorem zcc (ho:bU X (compareOp op) r)(ha:PE X a ta)(hb:PE X b tb)(hm:behindInMarks op b=false):PT X (.Compare a [op] [b] pos) (Tf (BP r ta tb)):=by
 intro pins s σ H Q I h;refine wpAny_isTrue_Compare1 (aN (ha pins s σ H _ I h) fun v s1 ⟨x,H1,I1,r1,q1⟩=>aN (hb pins s1 σ H1 _ I1 q1) fun u s2 ⟨y,H2,I2,r2,q2⟩=>
  aN (ho pins s2 σ H2 x y v u _ I2 r1 r2 q2) fun c s3 ⟨z,H3,I3,r3,k,e,q3⟩=>?_) hm
 subst e;cases r3;exact xcJ ⟨H3,I3,q3⟩
def o_ (K:Fgx)(x:V)(H:Hp)(k:Bool):Prop:=
 match x with
 |.non=>k=false
 |.bl b=>k=b
 |.int i=>k=(i !=0)
 |.str y=>y.length<=sizeLine/\k=((y.length:Int) !=0)
 |.byt y=>y.size<=sizeLine/\k=((y.size:Int) !=0)
 |.ref p=>(∃xs,bI K H p xs/\k= !xs.isEmpty)\/(∃xs,cZ K H p xs/\k= !xs.isEmpty)\/∃kvs,H p=some (.dK kvs)/\k= !kvs.isEmpty
 |_=>False
theorem WT (r:KV kvs vs):(!vs.isEmpty)= !kvs.isEmpty:=by
 cases r<;>rfl
theorem O5 (r:Vals xs its):(!its.toArray.isEmpty)= !xs.isEmpty:=by
 cases r<;>simp
theorem wG:(sizeLine:Nat)<2 ^ 63:=by rw[xaO];decide
theorem Tr:GD X (fun x H Q=>∃k,o_ X.K x H k/\Q k H):=by
  intro pins s σ H x v Q I rx h;obtain⟨k,e,q⟩:=h;have hl:=wG;have hs:sizeLine=16777216:=xaO
  cases x with
  |non=>
    cases rx;have e':k=false:=e;subst e';exact truthy_none ⟨H,I,q⟩
  |bl b=>
    cases rx;have e':k=b:=e;subst e';exact xcJ ⟨H,I,q⟩
  |int i=>
    obtain⟨t,rfl⟩:=rx;have e':k=(i !=0):=e;subst e';exact PySem.P.truthy_int ⟨H,I,q⟩
  |str y=>
    obtain⟨t,rfl⟩:=rx;obtain⟨hy,e'⟩:y.length<=sizeLine/\k=((y.length:Int) !=0):=e;subst e';exact PySem.P.truthy_str (by lia) ⟨H,I.tok _,q⟩
  |byt y=>
    obtain⟨t,rfl⟩:=rx;obtain⟨hy,e'⟩:y.size<=sizeLine/\k=((y.size:Int) !=0):=e;subst e';exact PySem.W.truthy_bytes (by lia) ⟨H,I.tok _,q⟩
  |ref p=>
    cases rx;have e':(∃xs,bI X.K H p xs/\k= !xs.isEmpty)\/(∃xs,cZ X.K H p xs/\k= !xs.isEmpty)\/∃kvs,H p=some (.dK kvs)/\k= !kvs.isEmpty:=e;rcases e' with⟨xs,hx,e'⟩ |⟨xs,hx,e'⟩ |⟨kvs,hx,e'⟩
    · subst e';obtain⟨its,r,pl,hz⟩:=I.list hx;have hlen:=r.length;exact wpAny_truthy_list pl.isList (by simp only[xan];lia) ⟨H,I.tok _,by rw[O5 r];exact q⟩
    · subst e';obtain⟨its,r,pl,hz⟩:=I.tuple hx;have hlen:=r.length;exact truthy_tuple pl (by simp only[xan];lia) ⟨H,I.tok _,by rw[O5 r];exact q⟩
    · subst e';obtain⟨hz,hS,vs,r,m⟩:kvs.length<=sizeLine/\(p==sysModules)=false/\∃vs,KV kvs vs/\s.heap.DictOf (eX X.prog X.w) p vs:=I.hok p _ hx;have hlen:kvs.length=vs.length:=xbr r;exact wpAny_truthy_dict hS m (by lia) ⟨H,I.tok _,by rw[WT r];exact q⟩
  |_=>exact(show False from e).elim
theorem zba (ha:PE X a ta)(he:∀whole,isTrue a X.env whole=(do let v <-whole;standAt a.pos;holding [v] (truthy v))):
  PT X a (fun σ H Q=>ta σ H fun x H'=>∃k,o_ X.K x H' k/\Q k H'):=by
 intro pins s σ H Q I h;exact isTrue_plain (aN (ha pins s σ H _ I h) fun v s1 ⟨x,H1,I1,r1,q1⟩=>Tr pins s1 σ H1 x v Q I1 r1 q1) (he _)
theorem Za:bU X (binaryOp .Add) (fun x y H Q=>∃i j,x=.str i/\y=.str j/\i.length + j.length<=sizeLine/\Q (.str (i ++ j)) H):=by
 intro pins s σ H x y v u Q I rx ry h;obtain⟨i,j,rfl,rfl,hz,q⟩:=h;obtain⟨t,rfl⟩:=rx;obtain⟨t',rfl⟩:=ry;exact add_str (fun t' tk=>⟨.str (i ++ j),H,I.tok _,⟨_,rfl⟩,q⟩) hz
theorem vals1 (r:Vals [x] us):∃u,us=[u]/\RelV x u:=by
 cases r with
 |cons r1 r2=>cases r2;exact⟨_,rfl,r1⟩
theorem vals2 (r:Vals [x,y] us):∃u w',us=[u,w']/\RelV x u/\RelV y w':=by
  cases r with
  |cons r1 r2=>
    cases r2 with
    |cons r3 r4=>cases r4;exact⟨_,_,rfl,r1,r3⟩
theorem U4 (hc:X.calm=true):c7 X (.builtin "max") (fun xs H Q=>∃i j,xs=[.int i,.int j]/\Q (.int (if j > i then j else i)) H):=by
 intro pins s σ H xs us Q I r h;obtain⟨i,j,rfl,q⟩:=h;obtain⟨u,w',rfl,⟨t,rfl⟩,⟨t',rfl⟩⟩:=vals2 r;refine max_two_ints (I.ok.hd hc) fun h' tk k=>⟨_,H,I.kept k,?_,q⟩
 by_cases hj:j > i
 ·rw[xac hj,xac hj];exact⟨_,rfl⟩
 ·rw[xad hj,xad hj];exact⟨_,rfl⟩
theorem Hj (hc:X.calm=true):c7 X (.builtin "min") (fun xs H Q=>∃i j,xs=[.int i,.int j]/\Q (.int (if j<i then j else i)) H):=by
 intro pins s σ H xs us Q I r h;obtain⟨i,j,rfl,q⟩:=h;obtain⟨u,w',rfl,⟨t,rfl⟩,⟨t',rfl⟩⟩:=vals2 r;refine min_two_ints (I.ok.hd hc) fun h' tk k=>⟨_,H,I.kept k,?_,q⟩
 by_cases hj:j<i
 ·rw[xac hj,xac hj];exact⟨_,rfl⟩
 ·rw[xad hj,xad hj];exact⟨_,rfl⟩
theorem Hl:c7 X (.type "str") (fun xs H Q=>∃i,xs=[.int i]/\i.natAbs.log2<1920/\Q (.str (toString i)) H):=by
 intro pins s σ H xs us Q I r h;obtain⟨i,rfl,hz,q⟩:=h;obtain⟨u,rfl,t,rfl⟩:=vals1 r;exact PySem.P.str_of_int hz ⟨.str _,H,I.tok _,⟨_,rfl⟩,q⟩
end
structure ObjM (h:Heap)(x dx C:Addr)(mA:Mgx):Prop where
 obj:h.get? x=some (PySem.W.instObj C dx)
 ns:h.Ns1 dx mA
 ne:dx≠x
theorem Xy {h:Heap}{dx:Addr}{mA:Mgx}(n:h.Ns1 dx mA):∃od,h.get? dx=some od/\∀name,PySem.W.lookIn name od=some (mA name):=by
 obtain⟨o,es,ep,ho,hd,hk,_,hm⟩:=n;refine⟨o,ho,fun name=>?_⟩;have e:=hm name;unfold nsFind findBy at e;rw[<-Array.find?_toList]at e;unfold PySem.W.lookIn;rw[hd];dsimp only
 split
 ·rename_i y q;rw[q]at e;exact congrArg some e
 ·rename_i q;rw[q]at e;have a:es.toList.any (·.refKey)=false:=by
   rw[List.any_eq_false];intro y hy;obtain⟨z,t,hkey⟩:=hk y (xby.mp hy)
   simp[DictEntry.refKey,hkey]
  have a':¬ es.toList.any (·.refKey)=true:=by rw[a];exact xas
  rw[xad a'];exact congrArg some e
theorem ObjM.look (I:ObjM h x dx C mA):∃od,PySem.W.InstAt h x (PySem.W.instObj C dx) C (some od)/\∀name,PySem.W.lookIn name od=some (mA name):=
 let ⟨od,ho,hl⟩:=Xy I.ns
 ⟨od,⟨I.obj,rfl,rfl,ho⟩,hl⟩
section
variable {prog:Program}{w:World}{A:Around}{E:Value->Shared->Prop}{s:Shared}{K:Fgx}{x dx C f:Addr}{mA:Mgx}{name:Str}{v:Value}
theorem get_map (X:K.In s.heap)(I:ObjM s.heap x dx C mA)(hg:PySem.W.plainGet K C name=true)(hh:PySem.W.hasDictIn K C=true)
  (ha:PySem.W.findIn K (.ref C) name=some none) (hv:mA name=some v) (hv':PySem.W.handedIn v=true) (h:Q v {s with toks:=s.toks + 1}):
  wpAny (model prog w) A (getAttr (.ref x) name expr) Q E s:=by
 obtain⟨od,J,hl⟩:=I.look;exact PySem.W.get_value X J (xdH hg).1 (PySem.W.findObj_own hh ha rfl (by rw[hl,hv])) hv' h
theorem Wm (X:K.In s.heap)(I:ObjM s.heap x dx C mA)(hg:PySem.W.plainGet K C name=true)
  (hf:PySem.W.findIn K (.ref C) name=some (some (.ref f))) (ht:PySem.W.isFn K (.ref f)=true) (hv:mA name=none) (h:Q (.ref f,[.ref x]) s):
  wpAny (model prog w) A (getMethod (.ref x) name pl) Q E s:=by
 obtain⟨od,J,hl⟩:=I.look;exact PySem.W.method_fn X J (xdH hg).1 (xdH hg).2 hf (xcn.mp ht) (by show(PySem.W.lookIn name od).map (·.isSome)=some false;rw[hl,hv];rfl) h
theorem zcl (X:K.In s.heap)(I:ObjM s.heap x dx C mA)
  (hs:PySem.W.findIn K (.ref C) "__setattr__"=some (some (.builtin "object.__setattr__"))) (hp:PySem.W.plainOver K C=true) (ht:PySem.W.takerIn K C name=some none) (hh:PySem.W.hasDictIn K C=true)
  (hw:PySem.Within mA ns) (hsz:ns.length<=sizeLine)
  (h:∀h',ObjM h' x dx C (fun y=>if y=name then some v else mA y)->Heap.SameBut dx s.heap h'->Q () {s with heap:=h',toks:=s.toks + 2}):
  wpAny (model prog w) A (setAttr (.ref x) name v) Q E s:=by
 obtain⟨od,J,hl⟩:=I.look;refine PySem.W.set_plain X J hs (PySem.W.osa_open (s:={s with toks:=s.toks + 1}) (r:=none) X J hp ht fun b=>?_);obtain⟨cd,hc,hd'⟩:=PySem.W.any_some hh;have hx:s.heap.get? x=some ⟨.ref C,some dx,.plain, #[]⟩:=I.obj;refine xaa (xab (xaa (xaa (wpAny_loadPart hx (xaa (PySem.W.Looks.here (s:={s with toks:=s.toks + 1}) (PySem.W.looks_clsIn X hc) ?_))))));rw[hd'];refine xab (a:=some dx) (xaa (xab (xaa ?_)));refine wpAny_nsSet1 (s:={s with toks:=s.toks + 1}) I.ns fun h' hn2 hs2=>?_;obtain⟨oD,esD,epD,hoD,hdD,hcD⟩:=hn2.count (PySem.Within.cons name v hw);refine xaa (wpAny_lookBehind hoD (by rw[hdD];exact pastItsLine_dict (xay hcD (by rw[xav];lia))) ?_);exact xab (h _ ⟨(hs2.2 _ (xbx I.ne)).trans I.obj,hn2,I.ne⟩ hs2)
theorem XS (X:K.In s.heap)(hm:PySem.W.makesIn K C=true)
  (hi:PySem.W.findIn K (.ref C) "__init__"=some (some (.ref f))) (hf:PySem.W.typeIn K (.ref f)=some (.type "function"))
  (h:codeAny (model prog w) (A.under (.builtin "type.__call__" ⟨.ref C::vs,kw⟩)) (.call (.ref f) ⟨.ref (s.heap.objs.size + 1)::vs,kw⟩) (PySem.W.InitBack (s.heap.objs.size + 1) R)
   {s with heap:=(s.heap.push PySem.W.emptyDict).push (PySem.W.instObj C s.heap.objs.size)}):
  codeAny (model prog w) A (.call (.ref C) ⟨vs,kw⟩) R s:=by
 obtain⟨hh,g,d,t,os⟩:=s;exact PySem.W.make_core (PySem.W.makes_of X hm) (PySem.W.looks_findIn X hi) (fun self=>PySem.W.bind_fn X self hf) (.inl rfl) h
end
noncomputable def bF (f:Str) (v:V):List (Str×V)->List (Str×V)
 | []=>[(f,v)]
 |(g,x)::r=>if g=f then(g,v)::r else(g,x)::bF f v r
theorem PN (f g:Str)(v:V):∀fs:List (Str×V),(bF f v fs).lookup g=if g=f then some v else fs.lookup g
  | []=>by
    show List.lookup g [(f,v)]=_
    by_cases h:g=f
    · have hb:(g==f)=true:=xcn.mpr h;simp only[List.lookup,hb,xac h]
    · have hb:(g==f)=false:=xbh.mpr h;simp only[List.lookup,hb,xad h]
  |(k,x)::r=>by
    have ih:=PN f g v r;rw[show bF f v ((k,x)::r)=(if k=f then(k,v)::r else(k,x)::bF f v r) from rfl]
    by_cases hk:k=f
    · rw[xac hk]
      by_cases h:g=k
      · have hb:(g==k)=true:=xcn.mpr h;simp only[List.lookup,hb,xac (h.trans hk)]
      · have hb:(g==k)=false:=xbh.mpr h;simp only[List.lookup,hb,xad (fun e:g=f=>h (e.trans hk.symm))]
    · rw[xad hk]
      by_cases h:g=k
      · have hb:(g==k)=true:=xcn.mpr h;simp only[List.lookup,hb,xad (fun e:g=f=>hk (h.symm.trans e))]
      · have hb:(g==k)=false:=xbh.mpr h;simp only[List.lookup,hb];exact ih
theorem Ja (f:Str)(v:V):∀fs:List (Str×V),f∈(bF f v fs).map (·.1)/\∀g,g∈fs.map (·.1)->g∈(bF f v fs).map (·.1)
  | []=>⟨by simp[bF],fun g h=>by simp at h⟩
  |(k,x)::r=>by
    obtain⟨i1,i2⟩:=Ja f v r;rw[show bF f v ((k,x)::r)=(if k=f then(k,v)::r else(k,x)::bF f v r) from rfl]
    by_cases hk:k=f
    · rw[xac hk];subst hk;exact⟨by simp,fun g h=>by simpa using h⟩
    · rw[xad hk];refine⟨?_,fun g h=>?_⟩
      · rw[xak];exact xal _ i1
      · rw[xak]at h ⊢;rcases xaq.mp h with e |e
        · exact xaq.mpr (.inl e)
        · exact xal _ (i2 g e)
theorem Pz (f:Str)(v:V):∀fs:List (Str×V),(bF f v fs).length<=fs.length + 1
  | []=>by simp[bF]
  |(k,x)::r=>by
    have ih:=Pz f v r;rw[show bF f v ((k,x)::r)=(if k=f then(k,v)::r else(k,x)::bF f v r) from rfl]
    by_cases hk:k=f
    · rw[xac hk,xav,xav];lia
    · rw[xad hk,xav,xav];lia
theorem cI.some_of (r:cI (some v) o):∃u,o=some u/\RelV v u:=by
 cases o with
 |none=>exact(show False from r).elim
 |some u=>exact⟨u,rfl,r⟩
theorem cI.none_of (r:cI none o):o=none:=by
 cases o with
 |none=>rfl
 |some u=>exact(show False from r).elim
theorem Wo (r:RelV v u):PySem.W.handedIn u=true:=by
 cases v with
 |non=>cases (show u=Value.none from r);rfl
 |bl b=>cases (show u=Value.bool b from r);rfl
 |int i=>obtain⟨t,e⟩:=(show ∃t,u=Value.int i t from r);cases e;rfl
 |str x=>obtain⟨t,e⟩:=(show ∃t,u=Value.str x t from r);cases e;rfl
 |byt b=>obtain⟨t,e⟩:=(show ∃t,u=Value.bytes b t from r);cases e;rfl
 |flt b=>obtain⟨t,e⟩:=(show ∃t,u=Value.float b t from r);cases e;rfl
 |ref a=>cases (show u=Value.ref a from r);rfl
 |ty n=>cases (show u=Value.type n from r);rfl
section
variable {P:Program}{w:World}{H H':Hp}{h h':Heap}{a C dx:Addr}{fs fs':List (Str×V)}
theorem Dq (hok:bZ P w H h)(e:H a=some (.ins C dx fs)):∃mA,ObjM h a dx C mA/\(∀f,cI (fs.lookup f) (mA f))/\PySem.Within mA (fs.map (·.1))/\fs.length<=1000/\H dx=some (.own a):=by
 obtain⟨d,z,ne,ob,mA,n,r,q⟩:=(show cH P w H h a (.ins C dx fs) from hok a _ e);exact⟨mA,⟨ob,n,ne⟩,r,q,z,d⟩
end
structure Cls (K:Fgx)(C:Addr):Prop where
 pg:PySem.W.plainGet K C Str.empty=true
 hd:PySem.W.hasDictIn K C=true
 po:PySem.W.plainOver K C=true
 sa:PySem.W.findIn K (.ref C) "__setattr__"=some (some (.builtin "object.__setattr__"))
theorem Cls.get {K:Fgx}{C:Addr}(c:Cls K C)(f:Str):PySem.W.plainGet K C f=true:=c.pg
def gQ (K:Fgx)(C:Addr)(f:Str):Prop:=PySem.W.findIn K (.ref C) f=some none
theorem gQ.taker {K:Fgx}{C:Addr}{f:Str}(n:gQ K C f):PySem.W.takerIn K C f=some none:=by
 unfold PySem.W.takerIn;rw[show PySem.W.findIn K (.ref C) f=some none from n];rfl
structure Con (K:Fgx)(C:Addr)(f:Str)(v:V)(u:Value):Prop where
 at_:PySem.W.findIn K (.ref C) f=some (some u)
 rel:RelV v u
 get:PySem.W.specialIn K u "__get__"=some none
 cp:PySem.W.copiedNames.contains f=false
structure Meth (K:Fgx)(C:Addr)(m:Str)(f:Addr):Prop where
 at_:PySem.W.findIn K (.ref C) m=some (some (.ref f))
 fn:PySem.W.isFn K (.ref f)=true
 kp:PySem.W.keepIn K (.ref f)=true
section
variable {X:Cx}{pins:Pnx}{σ:St}{H:Hp}{s:Shared}{a C dx:Addr}{fs:List (Str×V)}{f:Str}{v:V}{A:Around}{E:Value->Shared->Prop}
theorem Wn (I:Inv X pins σ H s)(e:H a=some (.ins C dx fs))(c:Cls X.K C)(n:gQ X.K C f)(l:fs.lookup f=some v)
  (h:∀u s',Inv X pins σ H s'->RelV v u->Q u s'):wpAny (model X.prog X.w) A (getAttr (.ref a) f b) Q E s:=by
 obtain⟨mA,O,r,_,_,_⟩:=Dq I.hok e;obtain⟨u,hu,ru⟩:=cI.some_of (v:=v) (o:=mA f) (by rw[<-l];exact r f);exact get_map I.kIn O (c.get f) c.hd n hu (Wo ru) (h u _ (I.tok _) ru)
theorem OJ (I:Inv X pins σ H s)(e:H a=some (.ins C dx fs))(c:Cls X.K C)(k:Meth X.K C m g)(l:fs.lookup m=none)
  (h:Q (.ref g,[.ref a]) s):wpAny (model X.prog X.w) A (getMethod (.ref a) m pl) Q E s:=by
 obtain⟨mA,O,r,_,_,_⟩:=Dq I.hok e;have hn:mA m=none:=cI.none_of (by rw[<-l];exact r m);exact Wm I.kIn O (c.get m) k.at_ k.fn hn h
theorem zaw (I:Inv X pins σ H s)(e:H a=some (.ins C dx fs))(c:Cls X.K C)(n:gQ X.K C f)(hl:fs.length<1000)(ry:RelV y u)
  (h:∀s',Inv X pins σ (upd H a (.ins C dx (bF f y fs))) s'->Q () s'):wpAny (model X.prog X.w) A (setAttr (.ref a) f u) Q E s:=by
 obtain⟨mA,O,r,wi,_,ho⟩:=Dq I.hok e;have hz:(fs.map (·.1)).length<=sizeLine:=by rw[xae,xaO];lia
 refine zcl I.kIn O c.sa c.po n.taker c.hd wi hz fun h' O' sb=>h _ ?_;have hd:∃o,h'.get? dx=some o:=let ⟨o,_,_,e',_⟩:=O'.ns;⟨o,e'⟩
 refine I.write (x:=a) (e:=dx) (by rw[e];exact True.intro) (.inr ho) (fun b q hb z=>(sb.2 b hb).trans z) hd ?_;refine⟨by rw[aW O.ne];exact ho,?_,O.ne,O'.obj,_,O'.ns,fun g=>?_,fun g hg=>?_⟩
 ·have:=Pz f y fs;lia
 ·show cI ((bF f y fs).lookup g) (if g=f then some u else mA g)
  rw[PN]
  by_cases q:g=f
  ·rw[xac q,xac q];exact ry
  ·rw[xad q,xad q];exact r g
 ·by_cases q:g=f
  ·rw[q];exact(Ja f y fs).1
  ·refine(Ja f y fs).2 g (wi g fun z=>hg ?_);show(if g=f then some u else mA g)=none
   rw[xad q];exact z
theorem Inv.made (I:Inv X pins σ H s):Inv X pins σ (upd (upd H s.heap.objs.size (.own (s.heap.objs.size + 1))) (s.heap.objs.size + 1) (.ins C s.heap.objs.size []))
  {s with heap:=(s.heap.push PySem.W.emptyDict).push (PySem.W.instObj C s.heap.objs.size)}:=by
 have e1:(s.heap.push PySem.W.emptyDict).get? s.heap.objs.size=some PySem.W.emptyDict:=xau s.heap rfl;have e2:((s.heap.push PySem.W.emptyDict).push (PySem.W.instObj C s.heap.objs.size)).get? (s.heap.objs.size + 1)=some (PySem.W.instObj C s.heap.objs.size):=by
  have:=xau (s.heap.push PySem.W.emptyDict) (o:=PySem.W.instObj C s.heap.objs.size) rfl
  rwa [xeB]at this
 have e3:(s.heap.push PySem.W.emptyDict).Ns s.heap.objs.size (fun _=>none):=⟨PySem.W.emptyDict, #[],_,e1,rfl,(fun e he=>absurd he (by simp)),fun _=>rfl⟩;have I1:=I.laid (a:=s.heap.objs.size) (o:=.own (s.heap.objs.size + 1)) (h':=s.heap.push PySem.W.emptyDict) (t':=s.toks) (fun b u q=>xag _ q) (xaf _) ⟨_,e1⟩;refine I1.laid (a:=s.heap.objs.size + 1) (o:=.ins C s.heap.objs.size []) (t':=s.toks) (fun b u q=>xag _ q) (xeb (xeB _ _)) ?_;have ne:s.heap.objs.size≠s.heap.objs.size + 1:=xaI (xbg _);refine⟨by rw[aW ne,bJ],xa0 _,ne,e2,fun _=>none,(Heap.Ns1.of_empty e3).at fun o q=>xag _ q,fun _=>True.intro,fun y hy=>absurd rfl hy⟩
theorem Us (hb:attributeBase e f env (eval e env)=eval e env)
  (h:wpAny (model prog w) A (eval e env) (fun o s₁=>wpAny (model prog w) A (getAttr o f true) Q E s₁) E s):wpAny (model prog w) A (eval (.Attribute e f pos) env) Q E s:=
 Attribute_any_ h (by rw[arm_eval_Attribute,hb])
end
noncomputable def K8 (K:Fgx) (ta:TE) (f:Str):TE:=fun σ H Q=>ta σ H fun x H1=>∃a C dx fs v,x=.ref a/\H1 a=some (.ins C dx fs)/\Cls K C/\gQ K C f/\fs.lookup f=some v/\Q v H1
noncomputable def Km (K:Fgx) (ta tv:TE) (f:Str):TS:=fun D σ H=>tv σ H fun y H1=>ta σ H1 fun x H2=>∃a C dx fs,x=.ref a/\H2 a=some (.ins C dx fs)/\Cls K C/\gQ K C f/\fs.length<1000/\
 D.nx σ (upd H2 a (.ins C dx (bF f y fs)))
section
variable {X:Cx}{o e value:Expr}{f:Str}{pos pos' tpos:Pos}{ta tv:TE}
theorem ZJ (he:PE X e ta)(hb:attributeBase e f X.env (eval e X.env)=eval e X.env):PE X (.Attribute e f pos) (K8 X.K ta f):=by
 intro pins s σ H Q I h;refine Us hb (aN (he pins s σ H _ I h) fun u s1 ⟨x,H1,I1,rx,a,C,dx,fs,v,ex,ea,c,n,l,q⟩=>?_);subst ex;obtain rfl:u=Value.ref a:=rx;exact Wn I1 ea c n l fun u' s2 I2 ru=>⟨v,H1,I2,ru,q⟩
theorem zcQ (ha:PE X o ta)(hv:PE X value tv)(hs:swapsWith value (some (.Attribute o f pos')) pos.line X.env=pure false):PS X (.Assign [.Attribute o f pos'] value pos) (Km X.K ta tv f):=by
 intro pins s σ H D I h;refine plainObj_wpAny_Assign_Attribute (aN (hv pins s σ H _ I h) fun u s1 ⟨y,H1,I1,ry,q⟩=>aN (ha pins s1 σ H1 _ I1 q) fun ov s2 ⟨x,H2,I2,rx,a,C,dx,fs,ex,ea,c,n,l,q2⟩=>?_) hs;subst ex;obtain rfl:ov=Value.ref a:=rx;exact zaw I2 ea c n l ry fun s3 I3=>⟨σ,_,I3,q2⟩
noncomputable def wK:V->V->Hp->VK->Prop:=fun x y H Q=>∃i j,x=.int i/\y=.int j/\Q (.int (i + j)) H
end
section
variable {X:Cx}{pins:Pnx}{σ:St}{H:Hp}{s:Shared}{A:Around}{E:Value->Shared->Prop}{Q:Value->Shared->Prop}{c:Value}{b:Bool}
inductive TyOf (K:Fgx)(H:Hp):V->Value->Prop where
 |non:TyOf K H .non (.type "NoneType")
 |bl (x:Bool):TyOf K H (.bl x) (.type "bool")
 |int (i:Int):TyOf K H (.int i) (.type "int")
 |str (x:Str):TyOf K H (.str x) (.type "str")
 |flt (x:UInt64):TyOf K H (.flt x) (.type "float")
 |lst {a:Addr} {xs:List V} (e:H a=some (.lst xs)):TyOf K H (.ref a) (.type "list")
 |frz {a:Addr} {o:Obj} {xs:List V} (e:H a=some (.frz o (.lst xs))):TyOf K H (.ref a) (.type "list")
 |tup {a:Addr} {xs:List V} (e:H a=some (.tup xs)):TyOf K H (.ref a) (.type "tuple")
 |dK {a:Addr} {kvs:List (Key×V)} (e:H a=some (.dK kvs)):TyOf K H (.ref a) (.type "dict")
 |dT {a:Addr} {kvs:List (List Key×V)} (e:H a=some (.dT kvs)):TyOf K H (.ref a) (.type "dict")
 |ins {a C dx:Addr} {fs:List (Str×V)} (e:H a=some (.ins C dx fs)) (cl:Cls K C) (ha:PySem.W.findIn K (.ref C) "__class__"=some (some (.builtin "object.__class__")))
   (hn:PySem.W.specialIn K (.builtin "object.__class__") "__get__"=some (some (.builtin "getset_descriptor.__get__"))) (htk:PySem.W.takesIn K (.builtin "object.__class__")=some true)
   (hm:PySem.W.mroIn K C (.type "object")=some true):TyOf K H (.ref a) (.ref C)
theorem Dt (I:Inv X pins σ H s)(rx:RelV x u)(ty:TyOf X.K H x t)(e:PySem.W.kitOne X.K t c=some b)(h:∀tk,Q (.bool b) {s with toks:=tk}):
    wpAny (model X.prog X.w) A (call (.builtin "isinstance") [u,c]) Q E s:=by
  cases ty with
  |non=>cases (show u=Value.none from rx);exact xa5 PySem.W.kitx_none I.kIn True.intro e (fun z=>nomatch z) h
  |bl y=>cases (show u=Value.bool y from rx);exact xa5 PySem.W.kitx_bool I.kIn True.intro e (fun z=>nomatch z) h
  |int i=>obtain⟨t,q⟩:=(show ∃t,u=Value.int i t from rx);cases q;exact xa5 PySem.W.kitx_int I.kIn True.intro e (fun z=>nomatch z) h
  |str y=>obtain⟨t,q⟩:=(show ∃t,u=Value.str y t from rx);cases q;exact xa5 PySem.W.kitx_str I.kIn True.intro e (fun z=>nomatch z) h
  |flt y=>obtain⟨t,q⟩:=(show ∃t,u=Value.float y t from rx);cases q;exact xa5 PySem.W.kitx_float I.kIn True.intro e (fun z=>nomatch z) h
  | @lst a xs ea=>
    cases (show u=Value.ref a from rx);obtain⟨_,_,n,_,h1⟩:=(show cH X.prog X.w H s.heap a (.lst xs) from I.hok a _ ea);exact xa5 xd2 I.kIn ⟨_,h1,rfl⟩ e (fun z=>nomatch z) h
  | @frz a ob xs ea=>
    cases (show u=Value.ref a from rx);obtain⟨_,_,_,n,_,h1⟩:=(show cH X.prog X.w H s.heap a (.frz ob (.lst xs)) from I.hok a _ ea);exact xa5 xd2 I.kIn ⟨_,h1,rfl⟩ e (fun z=>nomatch z) h
  | @tup a xs ea=>
    cases (show u=Value.ref a from rx);obtain⟨_,_,_,p⟩:=(show cH X.prog X.w H s.heap a (.tup xs) from I.hok a _ ea);obtain⟨o,h1,h2,_⟩:=p;exact xa5 xeW I.kIn ⟨o,h1,h2⟩ e (fun z=>nomatch z) h
  | @dK a kvs ea=>
    cases (show u=Value.ref a from rx);obtain⟨_,_,vs,_,p⟩:=(show cH X.prog X.w H s.heap a (.dK kvs) from I.hok a _ ea);obtain⟨o,es,ep,h1,h2,_⟩:=p;exact xa5 xd3 I.kIn ⟨o,h1,h2.1⟩ e (fun z=>nomatch z) h
  | @dT a kvs ea=>
    cases (show u=Value.ref a from rx);obtain⟨_,_,xs,_,o,es,ep,h1,h2,_⟩:=(show cH X.prog X.w H s.heap a (.dT kvs) from I.hok a _ ea);exact xa5 xd3 I.kIn ⟨o,h1,h2.1⟩ e (fun z=>nomatch z) h
  | @ins a C dx fs ea cl ha hn htk hm=>
    cases (show u=Value.ref a from rx);obtain⟨mA,O,_⟩:=Dq I.hok ea;obtain⟨od,J,_⟩:=O.look;exact xa5 (PySem.W.kitx_own (cl.get _) cl.hd ha hn htk hm) I.kIn J e (fun z=>nomatch z) h
end
structure Room (k:Nat)(A:Around):Prop where
 hd:A.handled=none
 dp:A.depth + 3 * k + 5<recursionLimit
 un:A.units + 16 * k + 200<cLine
theorem Room.mono (r:Room k A)(h:j<=k):Room j A:=⟨r.hd,by have:=r.dp;lia,by have:=r.un;lia⟩
theorem Room.deeper (r:Room (k + 1) A)(env:Env):Room k (A.deeper env):=
 ⟨r.hd,by have:=r.dp;show A.depth + 1 + 3 * k + 5<_;lia,by have:=r.un;show A.units + 3 + 16 * k + 200<_;lia⟩
theorem XR {A:Around}{C:Addr}{us:List Value}{kw:List (Str×Value)}:(A.under (.builtin "type.__call__" ⟨.ref C::us,kw⟩)).depth=A.depth + 1:=by
 first |rfl |simp[Around.under,Code.weight,Code.isCreation,Code.isGuard,Code.isCaller,Code.frames,Code.isFrame,guardIds]
theorem X3 {A:Around}{C:Addr}{us:List Value}{kw:List (Str×Value)}:(A.under (.builtin "type.__call__" ⟨.ref C::us,kw⟩)).units=A.units + 1:=by
 first |rfl |simp[Around.under,Code.cUnits,Code.frames,Code.isFrame]
theorem Room.make (r:Room (k + 1) A)(C:Addr)(us:List Value)(kw:List (Str×Value)):Room k (A.under (.builtin "type.__call__" ⟨.ref C::us,kw⟩)):=
 ⟨r.hd,by have:=r.dp;rw[XR];lia,by have:=r.un;rw[X3];lia⟩
theorem Room.depth (r:Room k A):A.depth<recursionLimit:=by have:=r.dp;lia
theorem Room.units (r:Room k A):A.units + 64<cLine:=by have:=r.un;lia
def xg:TA:=fun _ H Q=>Q [] H
noncomputable def Td (ta:TE) (tr:TA):TA:=fun σ H Q=>ta σ H fun x H1=>tr σ H1 fun xs H2=>Q (x::xs) H2
section
variable {X:Cx}{e:Expr}{es:List Expr}{te:TE}{t:TA}{pos:Pos}
theorem nJ:PA X [] xg:=fun _ _ _ _ H Q I h=>Calls.spliced_nil ⟨[],H,I,.nil,h⟩
theorem lF (ha:PE X e te)(hr:PA X es t)(hs:starEach (e::es) X.env=(false,eval e X.env)::starEach es X.env:=by rfl):PA X (e::es) (Td te t):=by
 intro pos pins s σ H Q I h;rw[hs];show wpAny _ _ (spliced ((false,eval e X.env)::backTo pos (starEach es X.env))) _ _ s;refine Calls.spliced_cons (aN (ha pins s σ H _ I h) fun u s1 ⟨x,H1,I1,r1,q1⟩=>?_);exact aN (hr pos pins s1 σ H1 _ I1 q1) fun us s2 ⟨xs,H2,I2,r2,q2⟩=>⟨x::xs,H2,I2,.cons r1 r2,q2⟩
noncomputable def Lf (t:TA):TE:=fun σ H Q=>t σ H fun xs H1=>xs.length<=sizeLine/\∀p,H1 p=none->Q (.ref p) (upd H1 p (.tup xs))
noncomputable def La (t:TA):TE:=fun σ H Q=>t σ H fun xs H1=>xs.length<=sizeLine/\∀p,H1 p=none->Q (.ref p) (upd H1 p (.lst xs))
theorem Jx {x1}(h:PA X es t):PE X (.Tuple es x1 pos) (Lf t):=by
 intro pins s σ H Q I hq;refine wpAny_Tuple_spliced (aN (h pos pins s σ H _ I hq) fun us s1 ⟨xs,H1,I1,r,z,q⟩=>⟨by rw[<-r.length];exact z,?_⟩);have hf:H1 s1.heap.objs.size=none:=I1.hok.fresh (xaf _);refine⟨.ref s1.heap.objs.size,upd H1 s1.heap.objs.size (.tup xs),I1.laid (t':=s1.toks) (fun b u e=>xag _ e) (xaf _) ?_,rfl,q _ hf⟩;exact⟨z,us,r,⟨_,xau _ rfl,rfl,_,rfl⟩⟩
theorem ZV (h:PA X es t):PE X (.List es pos) (La t):=by
 intro pins s σ H Q I hq;refine wpAny_List_spliced (aN (h pos pins s σ H _ I hq) fun us s1 ⟨xs,H1,I1,r,z,q⟩=>⟨by rw[<-r.length];exact z,?_⟩);have hf:H1 s1.heap.objs.size=none:=I1.hok.fresh (xaf _);refine⟨.ref s1.heap.objs.size,upd H1 s1.heap.objs.size (.lst xs),I1.laid (t':=s1.toks) (fun b u e=>xag _ e) (xaf _) ?_,rfl,q _ hf⟩;exact⟨z,us,0,r,xau _ rfl⟩
end
abbrev Sp:=List V->Hp->VK->XK->Prop
abbrev fj:=List Env->Hp->Shared->XK->Value->Shared->Prop
structure Env0 (P:Program)(w:World)(K:Fgx)(mg:Mgx)(base:Heap)(A:Around)(outer:List Env)(s:Shared)(H:Hp):Prop where
 frames:A.frames=some outer
 mod:Mod K mg base
 bs:∀b o,base.get? b=some o->s.heap.get? b=some o/\H b=none
 bsz:base.objs.size<=s.heap.objs.size
 funs:s.heap.FunFrames base outer
 frf:∀b∈frs outer,H b=none
 hok:bZ P w H s.heap
 bare:AllBare s.gens
def CE (outer:List Env)(P:Program)(w:World)(H:Hp)(s:Shared)(Q:VK)(u:Value)(s':Shared):Prop:=
 ∃v H',s'.os=s.os/\AllBare s'.gens/\Un (frs outer) [] H H' s.heap s'.heap/\bZ P w H' s'.heap/\RelV v u/\Q v H'
def CR (CX:fj)(outer:List Env)(P:Program)(w:World)(H:Hp)(s:Shared)(Q:VK)(E:XK)(r:Result)(s':Shared):Prop:=
 match r with
 |.ok (.ret u)=>CE outer P w H s Q u s'
 |.ok _=>False
 |.error e=>CX outer H s E e s'
structure FnOk (P:Program)(w:World)(K:Fgx)(mg:Mgx)(base:Heap)(CX:fj)(k:Nat)(f:Addr)(fd:FuncData)(ps:List Str)(sp:Sp):Prop where
 len:∀vs H Q E,sp vs H Q E->vs.length=ps.length
 run:∀(A:Around) (outer:List Env) (s:Shared) (H:Hp) (args:Args) (us:List Value) (vs:List V) (Q:VK) (E:XK),Room k A->Env0 P w K mg base A outer s H->BindsTo s fd args (ps.zip us)->Vals vs us->sp vs H Q E->
  codeAny (model P w) A (.call (.ref f) args) (CR CX outer P w H s Q E) s
theorem FnOk.mono {P:Program}{w:World}{K:Fgx}{mg:Mgx}{base:Heap}{CX:fj}{j k:Nat}{f:Addr}{fd:FuncData}{ps:List Str}{sp:Sp}(F:FnOk P w K mg base CX j f fd ps sp)(h:j<=k):
  FnOk P w K mg base CX k f fd ps sp:=⟨F.len,fun A outer s H args us vs Q E hr=>F.run A outer s H args us vs Q E (hr.mono h)⟩
theorem Env0.make {P:Program}{w:World}{K:Fgx}{mg:Mgx}{base:Heap}{A:Around}{outer:List Env}{s:Shared}{H:Hp}(e:Env0 P w K mg base A outer s H)(C:Addr)(us:List Value)(kw:List (Str×Value)):
  Env0 P w K mg base (A.under (.builtin "type.__call__" ⟨.ref C::us,kw⟩)) outer s H:=⟨by first |exact e.frames |(simpa [Around.under,Code.envs,Code.isFrame,pushEnvs] using e.frames),e.mod,e.bs,e.bsz,e.funs,e.frf,e.hok,e.bare⟩
section
variable {X:Cx}{pins:Pnx}{σ:St}{H:Hp}{s s':Shared}
theorem Inv.env0 (I:Inv X pins σ H s):Env0 X.prog X.w X.K X.mg X.base X.A X.stack s H:=
 ⟨I.ok.frames,I.ok.mod,I.bs,xay I.ok.bsz I.sz,I.stack,I.stkFree,I.hok,I.bare⟩
theorem Inv.after (I:Inv X pins σ H s)(h:CE X.stack X.prog X.w H s Q u s'):EP X pins σ Q u s':=by
 obtain⟨v,H',os,bare,un,hok,r,q⟩:=h;obtain⟨hh,g,d,t,os'⟩:=s';obtain rfl:os'=s.os:=os;exact⟨v,H',I.call (h':=hh) (g':=g) (d':=d) (t':=t) (ch:=[]) un hok bare (fun b z=>absurd z (by simp)),r,q⟩
end
noncomputable def S_ (sp:Sp) (dvs:List V) (E:XK) (t:TA):TE:=fun σ H Q=>t σ H fun vs H1=>sp (vs ++ dvs) H1 Q E
noncomputable def Te (C:Addr) (m:Str) (sp:Sp) (dvs:List V) (E:XK) (ta:TE) (t:TA):TE:=fun σ H Q=>ta σ H fun x H1=>∃a dx fs,x=.ref a/\H1 a=some (.ins C dx fs)/\fs.lookup m=none/\
 t σ H1 fun vs H2=>sp (x::(vs ++ dvs)) H2 Q E
noncomputable def zdH (C:Addr) (sp:Sp) (dvs:List V) (E:XK) (t:TA):TE:=fun σ H Q=>t σ H fun vs H1=>∀x dx,H1 x=none->H1 dx=none->dx≠x->
 sp (.ref x::(vs ++ dvs)) (upd (upd H1 dx (.own x)) x (.ins C dx [])) (fun v H2=>v=.non/\Q (.ref x) H2) E
def Binds (K:Fgx)(fd:FuncData)(ps:List Str)(ds:List Value):Prop:=
 ∀(s:Shared) (us:List Value),K.In s.heap->(us ++ ds).length=ps.length->BindsTo s fd ⟨us,[]⟩ (ps.zip (us ++ ds))
theorem Binds.all {K:Fgx}{fd:FuncData}{ps:List Str}(h:∀us:List Value,us.length=ps.length->bindArgs fd ⟨us,[]⟩=pure (ps.zip us)):Binds K fd ps []:=fun s us _ hl=>by
 rw[xaJ]at hl ⊢;exact .of_eq (h us hl)
def Passes (CX:fj)(X:Cx)(E:XK):Prop:=∀(pins:Pnx) (σ:St) (H:Hp) (s:Shared) (e:Value) (s':Shared),Inv X pins σ H s->CX X.stack H s E e s'->X.xe e s'
section
variable {X:Cx}{CX:fj}{k:Nat}{f C:Addr}{fd:FuncData}{ps:List Str}{sp:Sp}{dvs:List V}{ds:List Value}{E:XK}{x m:Str}{p pos apos:Pos}{e o:Expr}{es:List Expr}{ta:TE}{t:TA}
theorem Er (F:FnOk X.prog X.w X.K X.mg X.base CX k f fd ps sp)(hr:Room k X.A)(hb:Binds X.K fd ps ds)(hd:Vals dvs ds)(hx:Passes CX X E)
    (I:Inv X pins σ H s) (r:Vals vs us) (h:sp (vs ++ dvs) H Q E):wpAny (model X.prog X.w) X.A (call (.ref f) us) (EP X pins σ Q) X.xe s:=by
  have r2:Vals (vs ++ dvs) (us ++ ds):=r.append hd;have hl:(us ++ ds).length=ps.length:=by rw[<-r2.length];exact F.len _ _ _ _ h
  refine wpAny_call (xc4 (F.run X.A X.stack s H ⟨us,[]⟩ (us ++ ds) (vs ++ dvs) Q E hr I.env0 (hb s us I.kIn hl) r2 h) fun r s' hq=>?_)
  cases r with
  |error e=>exact hx pins σ H s e s' I hq
  |ok fl=>
    cases fl with
    |ret u=>exact I.after hq
    |next=>exact False.elim hq
    |brk=>exact False.elim hq
    |cont=>exact False.elim hq
theorem ZC (F:FnOk X.prog X.w X.K X.mg X.base CX k f fd ps sp)(hr:Room k X.A)(hg:Gl X x)(hm:X.mg x=some (.ref f))(hk:PySem.W.keepIn X.K (.ref f)=true)(hb:Binds X.K fd ps ds)(hd:Vals dvs ds)(hx:Passes CX X E)
  (ha:PA X (e::es) t) (hdb:(x==("__debug__":Str))=false:=by decide) (he:starEach (e::es) X.env=(false,eval e X.env)::starEach es X.env:=by rfl) (hpl:(backTo pos (starEach es X.env)).any (·.1)=false:=by rfl):
  PE X (.Call (.Name x p) (e::es) [] pos) (S_ sp dvs E t):=by
 intro pins s σ H Q I h;refine xc5 (Du I hg hm ?_ hdb);refine xc6 (h₀:=X.base) I.ok.mod.kin hk (aN (ha pos pins s σ H _ I h) fun us s1 ⟨vs,H1,I1,r,q⟩=>⟨I1.kIn,?_⟩) he hpl;exact Er F hr hb hd hx I1 r q
theorem ZX (he:PE X o ta)(c:Cls X.K C)(hm:Meth X.K C m f)(F:FnOk X.prog X.w X.K X.mg X.base CX k f fd ps sp)(hr:Room k X.A)(hb:Binds X.K fd ps ds)(hd:Vals dvs ds)(hx:Passes CX X E)(ha:PA X (e::es) t)
  (hst:starEach (e::es) X.env=(false,eval e X.env)::starEach es X.env:=by rfl) (hpl:(backTo pos (starEach es X.env)).any (·.1)=false:=by rfl)
  (ht : eval (.Call (.Attribute o m apos) (e :: es) [] pos) X.env = (do
   let ov <-eval o X.env
   standAt apos.atName
   let (f,first) <-holding [ov] (getMethod ov m pl)
   callWith pos f first (backTo pos (starEach (e::es) X.env)) (backToKw pos (keywordEach [] X.env))):=by rfl):
  PE X (.Call (.Attribute o m apos) (e::es) [] pos) (Te C m sp dvs E ta t):=by
 intro pins s σ H Q I h;refine xdt (pl:=pl) (aN (he pins s σ H _ I h) fun u s1 ⟨x,H1,I1,rx,a,dx,fs,ex,ea,l,q⟩=>?_) ht;subst ex;obtain rfl:u=Value.ref a:=rx;refine OJ I1 ea c hm l ?_;refine xc6 (first:=[.ref a]) (h₀:=X.base) I.ok.mod.kin hm.kp (aN (ha pos pins s1 σ H1 _ I1 q) fun us s2 ⟨vs,H2,I2,r,q2⟩=>⟨I2.kIn,?_⟩) hst hpl
 exact Er (us:=.ref a::us) (vs:=.ref a::vs) F hr hb hd hx I2 (.cons rfl r) q2
theorem Z0 (he:PE X o ta)(c:Cls X.K C)(hm:Meth X.K C m f)(F:FnOk X.prog X.w X.K X.mg X.base CX k f fd ps sp)(hr:Room k X.A)(hb:Binds X.K fd ps ds)(hd:Vals dvs ds)(hx:Passes CX X E)
  (ht : eval (.Call (.Attribute o m apos) [] [] pos) X.env = (do
   let ov <-eval o X.env
   standAt apos.atName
   let (f,first) <-holding [ov] (getMethod ov m pl)
   callWith pos f first (backTo pos (starEach [] X.env)) (backToKw pos (keywordEach [] X.env))):=by rfl):
  PE X (.Call (.Attribute o m apos) [] [] pos) (Te C m sp dvs E ta xg):=by
 intro pins s σ H Q I h;refine xdt (pl:=pl) (aN (he pins s σ H _ I h) fun u s1 ⟨x,H1,I1,rx,a,dx,fs,ex,ea,l,q⟩=>?_) ht;subst ex;obtain rfl:u=Value.ref a:=rx;refine OJ I1 ea c hm l ?_;exact PySem.W.callWith_K0 (first:=[.ref a]) I1.kIn hm.kp (Er (us:=[.ref a]) (vs:=[.ref a]) F hr hb hd hx I1 (.cons rfl .nil) q)
structure Mk (K:Fgx)(C f:Addr):Prop where
 makes:PySem.W.makesIn K C=true
 init:PySem.W.findIn K (.ref C) "__init__"=some (some (.ref f))
 fn:PySem.W.isFn K (.ref f)=true
 kp:PySem.W.keepIn K (.ref C)=true
theorem zaY (M:Mk X.K C f)(F:FnOk X.prog X.w X.K X.mg X.base CX k f fd ps sp)(hr:Room (k + 1) X.A)(hb:Binds X.K fd ps ds)(hd:Vals dvs ds)
    (hx:Passes CX X E) (I:Inv X pins σ H s) (r:Vals vs us)
    (h:∀x dx,H x=none->H dx=none->dx≠x->sp (.ref x::(vs ++ dvs)) (upd (upd H dx (.own x)) x (.ins C dx [])) (fun v H2=>v=.non/\Q (.ref x) H2) E):
    wpAny (model X.prog X.w) X.A (call (.ref C) us) (EP X pins σ Q) X.xe s:=by
  have hq:=h (s.heap.objs.size + 1) s.heap.objs.size (I.hok.fresh (xcp _)) (I.hok.fresh (xaf _)) (xaI (xbg _));have I2:=Inv.made (C:=C) I;have r2:Vals (V.ref (s.heap.objs.size + 1)::(vs ++ dvs)) (Value.ref (s.heap.objs.size + 1)::(us ++ ds)):=.cons rfl (r.append hd);have hl:(Value.ref (s.heap.objs.size + 1)::us ++ ds).length=ps.length:=by
    have e:=r2.length;rw[F.len _ _ _ _ hq]at e;exact e.symm
  refine wpAny_call (XS (f := f) I.kIn M.makes M.init (xcn.mp M.fn) (xc4 (F.run _ X.stack _ _ ⟨Value.ref (s.heap.objs.size + 1)::us,[]⟩ (Value.ref (s.heap.objs.size + 1)::(us ++ ds)) _ _ E (hr.make C us [])
    (I2.env0.make C us []) (hb _ (Value.ref (s.heap.objs.size + 1)::us) I2.kIn hl) r2 hq) fun r s' hq'=>?_))
  cases r with
  |error e=>exact hx pins σ _ _ e s' I2 hq'
  |ok fl=>
    cases fl with
    |ret u=>
      obtain⟨v,H',I3,rv,ev,q3⟩:=I2.after hq';subst ev;exact⟨rv,⟨V.ref (s.heap.objs.size + 1),H',I3,rfl,q3⟩⟩
    |next=>exact False.elim hq'
    |brk=>exact False.elim hq'
    |cont=>exact False.elim hq'
theorem ZW (M:Mk X.K C f)(F:FnOk X.prog X.w X.K X.mg X.base CX k f fd ps sp)(hr:Room (k + 1) X.A)(hg:Gl X x)(hm:X.mg x=some (.ref C))(hb:Binds X.K fd ps ds)(hd:Vals dvs ds)(hx:Passes CX X E)
  (ha:PA X (e::es) t) (hdb:(x==("__debug__":Str))=false:=by decide) (he:starEach (e::es) X.env=(false,eval e X.env)::starEach es X.env:=by rfl) (hpl:(backTo pos (starEach es X.env)).any (·.1)=false:=by rfl):
  PE X (.Call (.Name x p) (e::es) [] pos) (zdH C sp dvs E t):=by
 intro pins s σ H Q I h;refine xc5 (Du I hg hm ?_ hdb);refine xc6 (h₀:=X.base) I.ok.mod.kin M.kp (aN (ha pos pins s σ H _ I h) fun us s1 ⟨vs,H1,I1,r,q⟩=>⟨I1.kIn,?_⟩) he hpl;exact zaY M F hr hb hd hx I1 r q
end
section
variable {X:Cx}{CX:fj}{k:Nat}{f C:Addr}{fd:FuncData}{ps ks:List Str}{sp:Sp}{E:XK}{x m:Str}{p pos apos kpos:Pos}{e o:Expr}{es:List Expr}{kws:List Keyword}{te ta:TE}{t tk:TA}{nm:Option Str}
structure KBinds (K:Fgx)(fd:FuncData)(ps ks:List Str)(g:List Value->List Value->List Value)(gV:List V->List V->List V):Prop where
 to:∀(s:Shared) (us ws:List Value),K.In s.heap->(g us ws).length=ps.length->BindsTo s fd ⟨us,ks.zip ws⟩ (ps.zip (g us ws))
 rel:∀{vs:List V} {us:List Value} {zs:List V} {ws:List Value},Vals vs us->Vals zs ws->Vals (gV vs zs) (g us ws)
variable {g:List Value->List Value->List Value}{gV:List V->List V->List V}
end
structure FnScope (N P:List Str)(sc:Scope):Prop where
 kind:sc.kind=.function
 co:sc.isCoroutine=false
 gen:sc.isGenerator=false
 nd:N.Nodup
 pre:N.take P.length=P
 par:∀x∈P,sc.names.lookup x=some .local\/sc.names.lookup x=some .cell
 nofree:∀y∈sc.names,y.2≠ .free
theorem Mx {kindOf:Str->Option NameKind}{x:Str}:∀{binds:List (Str×Value)} {m:Mgx},(∀v,(x,v)∉binds)->bindL kindOf binds m x=m x
  | [],_,_=>rfl
  |(n,v)::r,m,h=>by
    unfold bindL;rw[Mx fun w hw=>h w (xal _ hw)]
    split
    · have:x≠n:=by rintro rfl;exact h v xaz
      simp[this]
    · rfl
theorem Mv {kindOf:Str->Option NameKind}{x:Str}:∀{binds:List (Str×Value)} {m:Mgx},(∀v,(x,v)∉binds)->bindC kindOf binds m x=m x
  | [],_,_=>rfl
  |(n,v)::r,m,h=>by
    unfold bindC;rw[Mv fun w hw=>h w (xal _ hw)]
    split
    · rfl
    · have:x≠n:=by rintro rfl;exact h v xaz
      simp[this]
theorem Mw {kindOf:Str->Option NameKind}{x:Str}{v:Value}:∀{P:List Str} {vs:List Value} {i:Nat} {m:Mgx},P.Nodup->P[i]? =some x->vs[i]? =some v->kindOf x=some .local->
    bindL kindOf (P.zip vs) m x=some v
  | [],_,_,_,_,h,_,_=>by simp at h
  |_::_,[],_,_,_,_,h,_=>by simp at h
  |p::P,w::vs,0,m,nd,h1,h2,hk=>by
    simp at h1 h2;subst h1;subst h2
    show bindL kindOf ((p,w)::P.zip vs) m p=_;unfold bindL;rw[Mx fun v hv=>(xa6.mp nd).1 (xdB hv).1,xac hk]
    simp
  |p::P,w::vs,i + 1,m,nd,h1,h2,hk=>by
    show bindL kindOf ((p,w)::P.zip vs) m x=_;unfold bindL;exact Mw (i:=i) (xa6.mp nd).2 (by simpa using h1) (by simpa using h2) hk
theorem Mu {kindOf:Str->Option NameKind}{x:Str}{v:Value}:∀{P:List Str} {vs:List Value} {i:Nat} {m:Mgx},P.Nodup->P[i]? =some x->vs[i]? =some v->kindOf x≠some .local->
    bindC kindOf (P.zip vs) m x=some v
  | [],_,_,_,_,h,_,_=>by simp at h
  |_::_,[],_,_,_,_,h,_=>by simp at h
  |p::P,w::vs,0,m,nd,h1,h2,hk=>by
    simp at h1 h2;subst h1;subst h2
    show bindC kindOf ((p,w)::P.zip vs) m p=_;unfold bindC;rw[Mv fun v hv=>(xa6.mp nd).1 (xdB hv).1,xad hk]
    simp
  |p::P,w::vs,i + 1,m,nd,h1,h2,hk=>by
    show bindC kindOf ((p,w)::P.zip vs) m x=_;unfold bindC;exact Mu (i:=i) (xa6.mp nd).2 (by simpa using h1) (by simpa using h2) hk
noncomputable def start (N:List Str) (vs:List V):St:=vs.map some ++ List.replicate (N.length - vs.length) none
noncomputable def gZ (CX:fj) (P:Program) (w:World) (K:Fgx) (mg:Mgx) (base:Heap) (N:List Str) (qual:Str) (scope:Scope) (f:Addr) (cd:Value) (A:Around) (outer:List Env) (s:Shared) (H:Hp) (E:XK):Cx where
 prog:=P
 w:=w
 K:=K
 mg:=mg
 base:=base
 A:=A.deeper (envOfC qual scope s.heap.objs.size f cd)
 N:=N
 s₀:=s
 H₀:=H
 env:=envOfC qual scope s.heap.objs.size f cd
 outer:=outer
 stack:=envOfC qual scope s.heap.objs.size f cd::outer
 ex:=[]
 calm:=true
 fn:=fun _=>true
 pn:=[]
 xe:=fun e s'=>wpAny (model P w) (A.deeper (envOfC qual scope s.heap.objs.size f cd)) (leaving (envOfC qual scope s.heap.objs.size f cd) e) (fun _ s''=>CX outer H s E e s'') (fun e' s''=>CX outer H s E e' s'') s'
theorem M8 {sc:Scope}{n:Nat}{x:Str}(h:sc.names.lookup x=some .cell):∃c,(cellsFrom n sc.names []).lookup x=some c:=by
 have q:=xev sc.names n [] (.inl h);exact Option.isSome_iff_exists.mp q
theorem WM {CX:fj}{P:Program}{w:World}{K:Fgx}{mg:Mgx}{base:Heap}{N ps:List Str}{qual:Str}{scope:Scope}{f:Addr}{cd:Value}{A:Around}{outer:List Env}{s s1:Shared}{H:Hp}{E:XK}{us:List Value}{vs:List V}
  (S:FnScope N ps scope) (hd:A.handled=none) (e0:Env0 P w K mg base A outer s H) (hl:vs.length=ps.length) (r:Vals vs us)
  (x:InCallC s s.heap.objs.size (bindL (envOfC qual scope s.heap.objs.size f cd).kindOf (ps.zip us) fun _=>none) (cellsFrom (s.heap.objs.size + 1) scope.names []) (bindC (envOfC qual scope s.heap.objs.size f cd).kindOf (ps.zip us) fun _=>none) s1):
  Inv (gZ CX P w K mg base N qual scope f cd A outer s H E) [] (start N vs) H s1:=by
 have hpl:ps.length<=N.length:=by have:=congrArg List.length S.pre;rw[xbI]at this;lia
 obtain ⟨h1, tk, rfl, hk⟩ := x.done;have noA : ∀ b : Addr, b ∉ (gZ CX P w K mg base N qual scope f cd A outer s H E).ex := fun b z => absurd (show b ∈ ([] : List Addr) from z) (by simp);refine ⟨⟨e0.mod,S.kind,rfl,rfl,xaf _,fun y z c h1 h2=>?_,fun y hy=>?_,fun y c _ h=>?_,fun _=>hd,Around.frames_deeper e0.frames,.inr ⟨rfl,rfl⟩,fun b z=>absurd z (noA b),e0.bs,e0.bsz,fun b _ _=>noA b,fun b z=>absurd z (noA b),e0.funs,e0.frf⟩,
  rfl,e0.bare,Un.kept hk,⟨_,x.toInCall.ns,fun i y v h1 h2 h3=>?_⟩,fun y c h=>⟨_,x.cell y c h⟩,e0.hok.fresh (xaf _),fun y c h=>?_,fun p hp=>absurd (show p∈([]:Pnx) from hp) (by simp),e0.hok.kept hk,?_⟩
 ·exact name_of_addr x.apart (xbC h1) (xbC h2)
 ·have hy:scope.names.lookup y=some .cell\/scope.names.lookup y=some .free:=hy;rcases hy with hy |hy
  ·exact M8 hy
  ·exact absurd rfl (S.nofree _ (xbC hy))
 ·exact xbf (x.above y c (xbC h))
 ·have hi:i<vs.length:=by
   unfold start at h2
   by_cases hi:i<vs.length
   ·exact hi
   ·rw[xat (by simpa using hi)]at h2;rw[xa9]at h2;split at h2<;>cases h2
  have ha:vs[i]? =some v:=by
   unfold start at h2;rw[xaG (by simpa using hi),xaw]at h2
   cases e:vs[i]? with
   |none=>rw[e]at h2;cases h2
   |some a=>rw[e]at h2;cases h2;rfl
  obtain⟨u,hu,rv⟩:=r.get ha;have hp:ps[i]? =some y:=by
   rw[<-S.pre,xc7 (by lia)];exact h1
  have ndP:ps.Nodup:=by rw[<-S.pre];exact S.nd.sublist (xe2 _ _)
  refine⟨u,rv,?_⟩;rcases S.par y (xaP hp) with k |k
  ·exact .inl ⟨k,Mw ndP hp hu k⟩
  ·obtain⟨c,e⟩:=M8 (n:=s.heap.objs.size + 1) k;refine .inr ⟨.inl k,c,e,?_⟩;have q:=x.cell y c e;rw[Mu ndP hp hu (by show scope.names.lookup y≠_;rw[k];decide)]at q;exact q
 ·exact .inl (e0.hok.fresh (xbf (x.above y c (xbC h))))
 ·unfold start;show _=N.length;rw[xam,xae,xa7];lia
theorem V_ {CX:fj}{P:Program}{w:World}{K:Fgx}{mg:Mgx}{base:Heap}{k:Nat}{f:Addr}{name qual:Str}{params:Arguments}{body:List Stmt}{scope:Scope}{dV kV doc pm cdv ct oc:Value}{an od:Option Addr}
    {osl:Array (Option Value)} {N ps:List Str} {sp:Sp} (lk:K.lookup f=some ⟨oc,od,.func (PySem.W.fnOf name qual params body scope dV kV doc pm an cdv ct),osl⟩) (hcd:PySem.W.codeIn K cdv qual=true) (S:FnScope N ps scope)
    (len:∀vs H Q E,sp vs H Q E->vs.length=ps.length)
    (hbody:∀(A:Around) (outer:List Env) (s:Shared) (H:Hp) (vs:List V) (Q:VK) (E:XK),Room k (A.deeper (envOfC qual scope s.heap.objs.size f cdv))->sp vs H Q E->
      ∃t,gw (gZ CX P w K mg base N qual scope f cdv A outer s H E) body t/\t {nx:=fun _ H'=>Q .non H',rt:=Q} (start N vs) H):
    FnOk P w K mg base CX (k + 1) f (PySem.W.fnOf name qual params body scope dV kV doc pm an cdv ct) ps sp:=by
  refine⟨len,fun A outer s H args us vs Q E hr e0 hb r hsp=>?_⟩;have hl:=len _ _ _ _ hsp;have KX:K.In s.heap:=e0.mod.kin.keeps fun b o e=>(e0.bs b o e).1;have lim:s.heap.NoLimit:=e0.mod.nolimit.keeps fun b o e=>(e0.bs b o e).1;have hkind:∀y∈ps.zip us,scope.names.lookup y.1=some .local\/(scope.names.lookup y.1=some .cell/\((cellsFrom (s.heap.objs.size + 1) scope.names []).lookup y.1).isSome=true):=fun⟨n,v⟩ hy=>by
    rcases S.par n (xdB hy).1 with q |q
    · exact .inl q
    · exact .inr ⟨q,xev _ _ _ (.inl q)⟩
  refine codeAny_call_function hr.depth (KX _ _ lk) rfl S.co S.gen rfl (PySem.W.codeRec_of KX hcd) (hb _ _ _ _ ?_);refine wpAny_newFunctionEnv_cells S.kind hkind fun env he s1 x=>?_;subst he;refine⟨lim.keeps x.toInCall.keep,codeAny_func ?_⟩;obtain⟨t,ht,hq⟩:=hbody A outer s H vs Q E (hr.deeper _) hsp;have I:Inv (gZ CX P w K mg base N qual scope f cdv A outer s H E) [] (start N vs) H s1:=WM S hr.hd e0 hl r x;refine xa4 (ht [] s1 (start N vs) H _ I hq) (fun fl s' hs=>?_) fun e s' hs=>hs;have fin:∀{σ':St} {H':Hp} {v:V} {u:Value},Inv (gZ CX P w K mg base N qual scope f cdv A outer s H E) [] σ' H' s'->RelV v u->Q v H'->CE outer P w H s Q u s':=
    fun {σ' H' v u} J rv q=>⟨v,H',J.os,J.bare,J.base,J.hok,rv,q⟩
  cases fl with
  |ret u=>
    obtain⟨v,σ',H',J,rv,q⟩:=hs;exact fin J rv q
  |next=>
    obtain⟨σ',H',J,q⟩:=hs;exact fin (v:=V.non) (u:=Value.none) J rfl q
  |brk=>
    obtain⟨_,_,_,q⟩:=hs;exact False.elim q
  |cont=>
    obtain⟨_,_,_,q⟩:=hs;exact False.elim q
section
variable {X:Cx}{x:Str}{p pos:Pos}{e:Expr}{es:List Expr}{t:TA}{id T:String}{r:List V->Hp->VK->Prop}
noncomputable def K5 (r:List V->Hp->VK->Prop) (t:TA):TE:=fun σ H Q=>t σ H fun vs H1=>r vs H1 Q
theorem Ej (hc:c7 X (.builtin id) r)(hg:Gl X x)(hm:X.mg x=none)(hv:bootBuiltins x=some (.builtin id))(ha:PA X (e::es) t)(hn:x≠"__name__":=by decide)(hdb:(x==("__debug__":Str))=false:=by decide)
  (he:starEach (e::es) X.env=(false,eval e X.env)::starEach es X.env:=by rfl) (hpl:(backTo pos (starEach es X.env)).any (·.1)=false:=by rfl):PE X (.Call (.Name x p) (e::es) [] pos) (K5 r t):=by
 intro pins s σ H Q I h;refine xc5 (yj I hg hm hv ?_ hn hdb);exact PyProof.Rows.callWith_builtin1 (aN (ha pos pins s σ H _ I h) fun us s1 ⟨vs,H1,I1,r1,q1⟩=>hc pins s1 σ H1 vs us Q I1 r1 q1) he hpl
theorem Qt (hc:c7 X (.type T) r)(hg:Gl X x)(hm:X.mg x=none)(hv:bootBuiltins x=some (.type T))(ha:PA X (e::es) t)(hn:x≠"__name__":=by decide)(hdb:(x==("__debug__":Str))=false:=by decide)
  (he:starEach (e::es) X.env=(false,eval e X.env)::starEach es X.env:=by rfl) (hpl:(backTo pos (starEach es X.env)).any (·.1)=false:=by rfl):PE X (.Call (.Name x p) (e::es) [] pos) (K5 r t):=by
 intro pins s σ H Q I h;refine xc5 (yj I hg hm hv ?_ hn hdb);exact xcb (aN (ha pos pins s σ H _ I h) fun us s1 ⟨vs,H1,I1,r1,q1⟩=>hc pins s1 σ H1 vs us Q I1 r1 q1) he hpl
end
end L2
namespace HT
open PySem PyProof.Rows
section
open PySem.SeqAt
open PySem.AutoSeq1 (wpAny_loadPart')
open PySem.MeetsSeq PySem.MeetsSeq2 PySem.MeetsSeq3
end
section
variable {prog:Program}{w:World}{A:Around}{E:Value->Shared->Prop}{s:Shared}
noncomputable def bf (n d:Nat):Option Int->Nat
 |none=>d
 |some v=>if v<0 then(v + (n:Int)).toNat else min v.toNat n
theorem zdz (n d:Nat)(hd:d<=n)(o:Option Int):bf n d o<=n:=by
  cases o with
  |none=>exact hd
  |some v=>
    show(if v<0 then(v + (n:Int)).toNat else min v.toNat n)<=n
    by_cases hv:v<0
    · rw[xac hv];lia
    · rw[xad hv];exact Nat.min_le_right _ _
theorem M_ (v:Int)(n d:Nat):(if v<0 then max (v + (n:Int)) 0 else min v (n:Int))=((bf n d (some v):Nat):Int):=by
 show(if v<0 then max (v + (n:Int)) 0 else min v (n:Int))=(((if v<0 then(v + (n:Int)).toNat else min v.toNat n):Nat):Int)
 by_cases hv:v<0
 ·simp only[xac hv];lia
 ·simp only[xad hv];lia
theorem Um (lo hi:Option Int)(n:Nat):Builtin.Slice.sliceAdjust lo hi 1 (n:Int)=(((bf n 0 lo:Nat):Int),((bf n n hi:Nat):Int)):=by
 have h1:¬ ((1:Int)<0):=by lia
 unfold Builtin.Slice.sliceAdjust;simp only[h1,xbt];refine Prod.ext ?_ ?_
 ·cases lo with
  |none=>rfl
  |some v=>exact M_ v n 0
 ·cases hi with
  |none=>rfl
  |some v=>exact M_ v n n
theorem zaA (i j:Nat):Builtin.Slice.slicePlaces (i:Int) (j:Int) 1=j - i:=by
 unfold Builtin.Slice.slicePlaces;have h1:(1:Int) > 0:=by lia
 simp only[h1,xbG,Int.ediv_one]
 split<;>lia
theorem R8 (p:IsPart v o)(h:Q o s):wpAny (model prog w) A (Builtin.Slice.slicePartIndex v) Q E s:=by
 cases p with
 |none=>exact slicePart_none h
 |int i t=>exact slicePart_int h
theorem zal {sl:Addr}{vl vu:Value}{lo hi:Option Int}{n:Nat}{Q:Int×Int×Nat->Shared->Prop}(hs:s.heap.IsSliceOf sl vl vu .none)(pl:IsPart vl lo)(pu:IsPart vu hi)
  (h:Q (((bf n 0 lo:Nat):Int),1,bf n n hi - bf n 0 lo) s):wpAny (model prog w) A (Builtin.Slice.sliceApplied (.ref sl) (pure (n:Int))) Q E s:=by
 obtain⟨os,hos,hcs,hds⟩:=id hs;unfold Builtin.Slice.sliceApplied Builtin.Slice.sliceFields;refine xaa (xaa (xbW hos hds (x:=vl) rfl (xaa (xbW hos hds (x:=vu) rfl (xaa (xbW hos hds (x:=.none) rfl (xab ?_)))))));refine xaa (slicePart_none ?_);show wpAny _ _ (if ((1:Int)==0)=true then _ else _) _ _ s
 rw[xad (by decide)];refine xaa (R8 pl (xaa (R8 pu (xaa (xab ?_)))));show wpAny _ _ (match Builtin.Slice.sliceAdjust lo hi 1 (n:Int) with |(lo,hi)=>pure (lo,(1:Int),Builtin.Slice.slicePlaces lo hi 1)) _ _ s
 rw[Um lo hi n];show wpAny _ _ (pure (((bf n 0 lo:Nat):Int),(1:Int),Builtin.Slice.slicePlaces ((bf n 0 lo:Nat):Int) ((bf n n hi:Nat):Int) 1)) _ _ s;rw[zaA];exact xab h
theorem zaV (xs:Array Value)(i k:Nat):((List.range k).filterMap fun(m:Nat)=>xs[((i:Int) + (m:Int) * 1).toNat]?).toArray=((xs.toList.drop i).take k).toArray:=by
 have e:(fun(m:Nat)=>xs[((i:Int) + (m:Int) * 1).toNat]?)=fun m=>xs[i + m]? :=by
  funext m;have:((i:Int) + (m:Int) * 1).toNat=i + m:=by lia
  rw[this]
 rw[e];have:=pick_run xs i k;rw[xeX]at this;have e2:((fun x=>xs[x]?) ∘ fun x=>i + x)=fun m=>xs[i + m]? :=rfl;rw[e2]at this;rw[this]
theorem Wl {t sl:Addr}{items:Array Value}{vl vu:Value}{lo hi:Option Int}{Q:Value->Shared->Prop}(ht:IsTup s.heap t items)(hs:s.heap.IsSliceOf sl vl vu .none)(pl:IsPart vl lo)(pu:IsPart vu hi)
  (hw:¬ (bf items.size 0 lo=0/\bf items.size items.size hi=items.size))
  (h:Q (.ref s.heap.objs.size) {s with heap:=s.heap.push {cls:=.type "tuple",data:=.seq ((items.toList.drop (bf items.size 0 lo)).take (bf items.size items.size hi - bf items.size 0 lo)).toArray}})
  (hsz:items.size<=sizeLine):wpAny (model prog w) A (getItem (.ref t) (.ref sl)) Q E s:=by
 have htake:sizeOk (.seq ((items.toList.drop (bf items.size 0 lo)).take (bf items.size items.size hi - bf items.size 0 lo)).toArray):=by
  show((items.toList.drop (bf items.size 0 lo)).take (bf items.size items.size hi - bf items.size 0 lo)).toArray.size<=sizeLine;rw[xan,xbI,xb8,xax];lia
 have hj:bf items.size items.size hi<=items.size:=zdz _ _ (xaf _) hi;obtain⟨os,hos,hcs,hds⟩:=id hs;have hTs:s.TypeIs (.ref sl) "slice":=⟨os,hos,hcs⟩;unfold getItem
 try with_reducible refine xbs ?_
 first |refine xaa (xab ?_) |skip
 refine xaa (wpAny_sequenceKey ht.typeIs (by decide) ?_);refine xaa (xb4 (name:=Str.ofString "__getitem__") ht.typeIs xcy
  (xbl xcy ht.typeIs entry_tuple_getitem ?_ (args_tuple_getitem _ _)))
 show wpAny _ _ (Builtin.Tuple.tupleItemsOf (.ref t) >>=_) _ _ s;refine xaa (tupleItemsOf_ ht ?_);refine xaa (wpAny_typeOf hTs ?_);rw[xac (by decide)];refine xaa (zal hs pl pu ?_);have hno:¬ ((((bf items.size 0 lo:Nat):Int)==0 && (1:Int)==1 && (bf items.size items.size hi - bf items.size 0 lo)==items.size)=true):=by
  intro q;rw[xaC,xaC]at q;have q1:((bf items.size 0 lo:Nat):Int)=0:=eq_of_beq q.1.1;have q2:bf items.size items.size hi - bf items.size 0 lo=items.size:=eq_of_beq q.2;exact hw ⟨by lia,by lia⟩
 show wpAny _ _ (if (((bf items.size 0 lo:Nat):Int)==0 && (1:Int)==1 && (bf items.size items.size hi - bf items.size 0 lo)==items.size)=true then _ else _) _ _ s
 rw[xad hno,zaV]
 first
  |exact xaa (m:=Builtin.Tuple.tupleExact _) (xaN (xab ⟨_,rfl,xab h⟩) htake)
  |exact xaa (m:=Builtin.Tuple.tupleExact _) (xaN (xaa (xab (xab ⟨_,rfl,xab h⟩))) htake)
  |exact xaa (xaa (m:=Builtin.Tuple.tupleExact _) (xaN (xab (xab ⟨_,rfl,xab h⟩)) htake))
  |exact xaa (xaa (m:=Builtin.Tuple.tupleExact _) (xaN (xab ⟨_,rfl,xab h⟩) htake))
end
end HT
namespace L2
open PySem PySem.Spec PyProof.Rows
abbrev TO:=St->Hp->(Option Int->Hp->Prop)->Prop
def PO (X:Cx)(e:Option Expr)(t:TO):Prop:=
 ∀(pins:Pnx) (s:Shared) (σ:St) (H:Hp) (Q:Option Int->Hp->Prop),Inv X pins σ H s->t σ H Q->
  wpAny (model X.prog X.w) X.A (evalPart e X.env) (fun u s'=>∃o H',Inv X pins σ H' s'/\IsPart u o/\Q o H') X.xe s
def zcs:TO:=fun _ H Q=>Q none H
noncomputable def zeE (t:TE):TO:=fun σ H Q=>t σ H fun x H1=>∃i,x=.int i/\Q (some i) H1
section
variable {X:Cx}{e:Expr}{te:TE}{lo hi:Option Expr}{tl th:TO}{pos p2:Pos}
theorem zbS:PO X none zcs:=by
 intro pins s σ H Q I h;rw[evalPart_none];exact xab ⟨none,H,I,.none,h⟩
theorem zbT (h:PE X e te):PO X (some e) (zeE te):=by
 intro pins s σ H Q I hw;rw[evalPart_some];refine aN (h pins s σ H _ I hw) fun u s1 ⟨x,H1,I1,r1,q1⟩=>?_;obtain⟨i,rfl,q⟩:=q1;obtain⟨t,rfl⟩:=r1;exact⟨some i,H1,I1,.int i t,q⟩
def rO (X:Cx)(r:V->Option Int->Option Int->Hp->VK->Prop):Prop:=
 ∀(pins:Pnx) (s:Shared) (σ:St) (H:Hp) (x:V) (v vl vu:Value) (lo hi:Option Int) (sl:Addr) (Q:VK),Inv X pins σ H s->RelV x v->s.heap.IsSliceOf sl vl vu .none->IsPart vl lo->IsPart vu hi->r x lo hi H Q->
  ∃T id,typeLookup (.type T) "__getitem__"=pure (some (.builtin id))/\s.TypeIs v T/\wpAny (model X.prog X.w) X.A (getItem v (.ref sl)) (EP X pins σ Q) X.xe s
theorem rO.or (h:rO X r)(h':rO X r'):rO X (fun x lo hi H Q=>r x lo hi H Q\/r' x lo hi H Q):=by
 intro pins s σ H x v vl vu lo hi sl Q I rx hs pl pu q;rcases q with q |q
 ·exact h pins s σ H x v vl vu lo hi sl Q I rx hs pl pu q
 ·exact h' pins s σ H x v vl vu lo hi sl Q I rx hs pl pu q
noncomputable def tSl (r:V->Option Int->Option Int->Hp->VK->Prop) (te:TE) (tl th:TO):TE:=fun σ H Q=>te σ H fun x H1=>tl σ H1 fun l H2=>th σ H2 fun u H3=>r x l u H3 Q
theorem Qw (hr:rO X r)(he:PE X e te)(hl:PO X lo tl)(hu:PO X hi th):PE X (.Subscript e (.Slice lo hi none p2) pos) (tSl r te tl th):=by
 intro pins s σ H Q I h;refine Subscript_ (aN (he pins s σ H _ I h) fun v s1 ⟨x,H1,I1,r1,q1⟩=>?_);refine wpAny_Slice (aN (hl pins s1 σ H1 _ I1 q1) fun vl s2 ⟨l,H2,I2,pl,q2⟩=>aN (hu pins s2 σ H2 _ I2 q2) fun vu s3 ⟨u,H3,I3,pu,q3⟩=>?_);rw[evalPart_none];refine xab ?_;have I4:Inv X pins σ H3 {s3 with heap:=s3.heap.push {cls:=.type "slice",data:=.fields #[vl,vu,.none]}}:=I3.kept (t':=s3.toks) fun b ob q=>xag _ q;obtain⟨T,id,hT,ht,hg⟩:=hr pins {s3 with heap:=s3.heap.push {cls:=.type "slice",data:=.fields #[vl,vu,.none]}} σ H3 x v vl vu l u s3.heap.objs.size Q I4 r1 (Heap.IsSliceOf.new ..) pl pu q3;show wpAny (model X.prog X.w) X.A (subscriptTail e (.Slice lo hi none p2) v (.ref s3.heap.objs.size)) (EP X pins σ Q) X.xe {s3 with heap:=s3.heap.push {cls:=.type "slice",data:=.fields #[vl,vu,.none]}};exact tail_any (ops:=[.ref s3.heap.objs.size,v]) ht hT hg (by with_unfolding_all rfl)
noncomputable def fO (xs:List V) (lo hi:Option Int):List V:=(xs.drop (HT.bf xs.length 0 lo)).take (HT.bf xs.length xs.length hi - HT.bf xs.length 0 lo)
theorem Nu (xs:List V)(lo hi:Option Int):(fO xs lo hi).length<=xs.length:=by
 unfold fO;rw[xbI,xb8];lia
def J9 (K:Fgx):V->Option Int->Option Int->Hp->VK->Prop:=fun x lo hi H Q=>∃a xs,x=.ref a/\cZ K H a xs/\
 ¬ (HT.bf xs.length 0 lo=0/\HT.bf xs.length xs.length hi=xs.length)/\∀p,H p=none->Q (.ref p) (upd H p (.tup (fO xs lo hi)))
theorem zdv:rO X (J9 X.K):=by
 intro pins s σ H x v vl vu lo hi sl Q I rx hs pl pu h;obtain⟨a,xs,rfl,hx,hw,q⟩:=h;cases rx;obtain⟨its,r,ht,hz⟩:=I.tuple hx;have hlen:its.toArray.size=xs.length:=by rw[xan];exact r.length.symm
 refine⟨"tuple",_,xcy.lookup,ht.typeIs,?_⟩;refine HT.Wl ht hs pl pu (by rw[hlen];exact hw) ?_ (by rw[hlen];exact hz);rw[hlen];refine⟨.ref s.heap.objs.size,_,I.laid (t':=s.toks) (o:=.tup (fO xs lo hi)) (fun b ob q=>xag _ q) (xaf _) ?_,rfl,q _ (I.hok.fresh (xaf _))⟩;exact⟨xay (Nu xs lo hi) hz,_,(r.drop (HT.bf xs.length 0 lo)).take (HT.bf xs.length xs.length hi - HT.bf xs.length 0 lo),IsTup.new _ _⟩
end
noncomputable def mL (n:Nat) (i:Int):Option Nat:=if 0<=i then(if i<n then some i.toNat else none) else if -(n:Int)<=i then some (i + n).toNat else none
noncomputable def cu {α:Type} (xs:List α) (i:Int):Option α:=(mL xs.length i).bind fun j=>xs[j]?
theorem O_ (h:mL n i=some j):seqIndex? i n=some j/\j<n/\ -(n:Int)<=i/\i<n:=by
 unfold mL at h
 by_cases h0:0<=i
 ·rw[xac h0]at h
  by_cases h1:i<n
  ·rw[xac h1]at h;have e:i.toNat=j:=xaA h;exact⟨by rw[seqIndex_of h0 h1,e],by lia,by lia,h1⟩
  ·rw[xad h1]at h;cases h
 ·rw[xad h0]at h
  by_cases h1: -(n:Int)<=i
  ·rw[xac h1]at h;have e:(i + n).toNat=j:=xaA h;exact⟨by rw[seqIndex_neg (by lia) h1,e],by lia,h1,by lia⟩
  ·rw[xad h1]at h;cases h
theorem GK (h:cu xs i=some v):∃j,seqIndex? i xs.length=some j/\xs[j]? =some v/\j<xs.length/\ -(xs.length:Int)<=i/\i<xs.length:=by
  unfold cu at h
  cases e:mL xs.length i with
  |none=>rw[e]at h;cases h
  |some j=>
    rw[e]at h;obtain⟨h1,h2,h3,h4⟩:=O_ e;exact⟨j,h1,h,h2,h3,h4⟩
theorem xM {α:Type}{xs:List α}{j:Nat}{v:α}(h:xs[j]? =some v):cu xs (j:Int)=some v:=by
 have hj:j<xs.length:=(xai.mp h).1;have e:mL xs.length (j:Int)=some j:=by
  unfold mL;rw[xac (by lia),xac (by lia)];simp
 unfold cu;rw[e];exact h
def Gy (b:Expr):Prop:=∀o i,subscripted b false o i=operate [o,i] (getItem o i)
def m_ (X:Cx)(r:R2):Prop:=
 ∀(value slice:Expr) (pins:Pnx) (s:Shared) (σ:St) (H:Hp) (x y:V) (v u:Value) (Q:VK),Inv X pins σ H s->RelV x v->RelV y u->r x y H Q->
  subscripted slice false v u=operate [v,u] (getItem v u)->wpAny (model X.prog X.w) X.A (subscriptTail value slice v u) (EP X pins σ Q) X.xe s
def yL (X:Cx)(id:String)(r:V->List V->Hp->VK->Prop):Prop:=
 ∀(pins:Pnx) (s:Shared) (σ:St) (H:Hp) (x:V) (xs:List V) (v:Value) (us:List Value) (Q:VK),Inv X pins σ H s->RelV x v->Vals xs us->r x xs H Q->
  wpAny (model X.prog X.w) X.A (call (.builtin id) (v::us)) (EP X pins σ Q) X.xe s
section
variable {X:Cx}{a b:Expr}{ta tb:TE}{pos:Pos}
theorem m_.or (h:m_ X r)(h':m_ X r'):m_ X (fun x y H Q=>r x y H Q\/r' x y H Q):=by
 intro value slice pins s σ H x y v u Q I rx ry q hs;rcases q with q |q
 ·exact h value slice pins s σ H x y v u Q I rx ry q hs
 ·exact h' value slice pins s σ H x y v u Q I rx ry q hs
theorem ZP (hr:m_ X r)(ha:PE X a ta)(hb:PE X b tb)(hs:Gy b):PE X (.Subscript a b pos) (BP r ta tb):=by
 intro pins s σ H Q I h;exact Subscript_ (u6 ha hb I h fun v u s2 x y H2 I2 rx ry q=>hr a b pins s2 σ H2 x y v u Q I2 rx ry q (hs _ _))
noncomputable def wL (K:Fgx):R2:=fun x y H Q=>∃p xs i v,x=.ref p/\y=.int i/\bI K H p xs/\cu xs i=some v/\Q v H
noncomputable def wN (K:Fgx):R2:=fun x y H Q=>∃p xs i v,x=.ref p/\y=.int i/\cZ K H p xs/\cu xs i=some v/\Q v H
noncomputable def wM:R2:=fun x y H Q=>∃z i c,x=.str z/\y=.int i/\z.length<=sizeLine/\cu z.cps.toList i=some c/\Q (.str ⟨#[c]⟩) H
theorem Xa:m_ X (wL X.K):=by
 intro value slice pins s σ H x y v u Q I rx ry h hs;obtain⟨p,xs,i,z,rfl,rfl,hq,he,q⟩:=h;cases rx;obtain⟨t,rfl⟩:=ry;obtain⟨its,r,pl,hz⟩:=I.list hq;obtain⟨j,h1,h2,h3,h4,h5⟩:=GK he;obtain⟨w,ew,rw'⟩:=r.get h2;have hl:=r.length;have hn:=wG;have fin:EP X pins σ Q w s:=⟨z,H,I,rw',q⟩
 by_cases h0:0<=i
 ·have hj:i.toNat=j:=by
   rw[seqIndex_of h0 h5]at h1;exact xaA h1
  exact item_listR pl.isList h0 (by lia) (by rw[hj];simpa using ew) fin hs
 ·have hj:(i + (its.toArray.size:Int)).toNat=j:=by
   rw[seqIndex_neg (by lia) h4]at h1;rw[xan, <-hl];exact xaA h1
  exact subscriptTail_builtinR (x:=w) pl.isList.typeIs slot_list_getitem.lookup
   (wpAny_getItem_list_neg (Q:=fun r s'=>r=w/\EP X pins σ Q r s') pl.isList (by lia) (by rw[xan]<;>lia) (by lia) (by rw[hj];simpa using ew) ⟨rfl,fin⟩) hs
theorem Xc:m_ X (wN X.K):=by
 intro value slice pins s σ H x y v u Q I rx ry h hs;obtain⟨p,xs,i,z,rfl,rfl,hq,he,q⟩:=h;cases rx;obtain⟨t,rfl⟩:=ry;obtain⟨its,r,pl,hz⟩:=I.tuple hq;obtain⟨j,h1,h2,h3,h4,h5⟩:=GK he;obtain⟨w,ew,rw'⟩:=r.get h2;have hl:=r.length;have hn:=wG;have fin:EP X pins σ Q w s:=⟨z,H,I,rw',q⟩;exact subscriptTail_builtinR (x:=w) pl.typeIs slot_tuple_getitem.lookup
  (getItem_tuple (j:=j) (Q:=fun r s'=>r=w/\EP X pins σ Q r s') pl (by lia) (by lia) (by rw[xan, <-hl];exact h1) (by simpa using ew) ⟨rfl,fin⟩) hs
theorem Xb:m_ X wM:=by
 intro value slice pins s σ H x y v u Q I rx ry h hs;obtain⟨z,i,c,rfl,rfl,hz,he,q⟩:=h;obtain⟨t,rfl⟩:=rx;obtain⟨t',rfl⟩:=ry;obtain⟨j,h1,h2,h3,h4,h5⟩:=GK he;have hl:z.cps.toList.length=z.length:=by simp[Str.length]
 rw [hl] at h1 h4 h5;have hn := wG;exact tail_any (typeIs_str s z t) slot_str_getitem.lookup (getItem_str (c := c) (by
  have e1:decide (i< -(2 ^ 63:Int))=false:=xaH (by lia);have e2:decide (i >=2 ^ 63)=false:=xaH (by lia);rw[e1,e2,Bool.or_false]) (by rw[h1];simpa using h2) ⟨.str ⟨#[c]⟩,H,I.tok _,⟨_,rfl⟩,q⟩) hs
noncomputable def J0 (K:Fgx):R2:=fun x y H Q=>wL K x y H Q\/wN K x y H Q\/wM x y H Q
theorem X4 (its:List Value)(n j:Nat)(u:Value):Obj.mapSeq (·.setIfInBounds j u) {cls:=.type "list",data:=.seq its.toArray n}={cls:=.type "list",data:=.seq (its.set j u).toArray n}:=by
 simp[Obj.mapSeq]
theorem Inv.lst (I:Inv X pins σ H s)(h:H p=some (.lst xs)):
  ∃(its:List Value) (n:Nat),Vals xs its/\s.heap.get? p=some {cls:=.type "list",data:=.seq its.toArray n}/\xs.length<=sizeLine:=by
 obtain⟨z,its,n,r,e⟩:=I.hok p _ h;exact⟨its,n,r,e,z⟩
theorem Inv.lstUpd {pins:Pnx}{σ:St}{H:Hp}{s:Shared}{p:Addr}{xs ys:List V}{its its':List Value}{n n':Nat}{f:Obj->Obj}(I:Inv X pins σ H s)(h:H p=some (.lst xs))
  (ho:s.heap.get? p=some {cls:=.type "list",data:=.seq its.toArray n}) (hf:f {cls:=.type "list",data:=.seq its.toArray n}={cls:=.type "list",data:=.seq its'.toArray n'}) (r:Vals ys its') (hz:ys.length<=sizeLine) (t:Nat):
  Inv X pins σ (upd H p (.lst ys)) {s with heap:=s.heap.update p f,toks:=t}:=by
 have e:(s.heap.update p f).get? p=some {cls:=.type "list",data:=.seq its'.toArray n'}:=by
  rw[xbH f ho (by rw[hf]<;>rfl),hf]
 refine I.write (x:=p) (e:=p) (by rw[h];trivial) (.inl rfl) (fun b u hb q=>(xa2 _ _ (xbx hb)).trans q) ⟨_,e⟩ ?_;exact⟨hz,its',n',r,e⟩
def zef:V->V->V->Hp->(Hp->Prop)->Prop:=fun o i v H Q=>∃p xs k j,o=.ref p/\i=.int k/\H p=some (.lst xs)/\mL xs.length k=some j/\Q (upd H p (.lst (xs.set j v)))
theorem set_list:yO X zef:=by
 intro pins s σ H o i v ov iv u Q I ro ri rv h;obtain⟨p,xs,k,j,rfl,rfl,hp,hj,q⟩:=h;cases ro;obtain⟨t,rfl⟩:=ri;obtain⟨its,n,r,ho,hz⟩:=I.lst hp;obtain⟨h1,h2,h3,h4⟩:=O_ hj;have hl:=r.length;have hn:=wG;have I':Inv X pins σ (upd H p (.lst (xs.set j v))) {s with heap:=s.heap.update p (Obj.mapSeq (·.setIfInBounds j u))}:=
  I.lstUpd hp ho (X4 its n j u) (r.set rv j) (by rw[xaR];exact hz) s.toks
 by_cases h0:0<=k
 ·have hk:k.toNat=j:=by
   rw[seqIndex_of h0 h4]at h1;exact xaA h1
  exact PySem.W.ki_setAt ho h0 (by lia) (by rw[xan, <-hl];exact h4) (by rw[hk];exact⟨_,I',q⟩)
 ·have hk:(k + (its.toArray.size:Int)).toNat=j:=by
   rw[seqIndex_neg (by lia) h3]at h1;rw[xan, <-hl];exact xaA h1
  exact PySem.W.ki_setBack ho (by lia) (by rw[xan, <-hl];exact h3) (by lia) (by rw[hk];exact⟨_,I',q⟩)
theorem zao (lo hi:Option Int)(n:Nat):(sliceBounds lo hi none n).1=((HT.bf n 0 lo:Nat):Int)/\(sliceBounds lo hi none n).2.1=((HT.bf n n hi:Nat):Int)/\(sliceBounds lo hi none n).2.2=1:=by
  refine⟨?_,?_,rfl⟩
  · cases lo with
    |none=>simp[sliceBounds,HT.bf]
    |some i=>
      simp only[sliceBounds,HT.bf,Option.getD_none,show(1:Int) > 0 by decide,xbG]
      by_cases h:i<0
      · simp only[h,xbG]<;>lia
      · simp only[h,xbt]<;>lia
  · cases hi with
    |none=>simp[sliceBounds,HT.bf]
    |some i=>
      simp only[sliceBounds,HT.bf,Option.getD_none,show(1:Int) > 0 by decide,xbG]
      by_cases h:i<0
      · simp only[h,xbG]<;>lia
      · simp only[h,xbt]<;>lia
theorem zam (its:List Value)(lo hi:Option Int):slicePick its.toArray lo hi none=((its.drop (HT.bf its.length 0 lo)).take (HT.bf its.length its.length hi - HT.bf its.length 0 lo)).toArray:=by
 obtain⟨h1,h2,h3⟩:=zao lo hi its.toArray.size;unfold slicePick;rw[h1,h2,h3];simp only[sliceRange_one,pick_run,xan]<;>rfl
def J7 (K:Fgx):V->Option Int->Option Int->Hp->VK->Prop:=fun x lo hi H Q=>∃a xs,x=.ref a/\bI K H a xs/\∀p,H p=none->Q (.ref p) (upd H p (.lst (fO xs lo hi)))
theorem zcr:rO X (J7 X.K):=by
 intro pins s σ H x v vl vu lo hi sl Q I rx hs pl pu h;obtain⟨a,xs,rfl,hx,q⟩:=h;cases rx;obtain⟨its,r,ht,hz⟩:=I.list hx;have hlen:=r.length;refine⟨"list",_,slot_list_getitem.lookup,ht.isList.typeIs,?_⟩;refine wpAny_getItem_list_slice ht.isList hs pl pu .none (by simp) ?_ (by rw[xan]<;>lia)
 rw[zam, <-hlen];refine⟨.ref s.heap.objs.size,_,I.laid (t':=s.toks) (o:=.lst (fO xs lo hi)) (fun b ob q=>xag _ q) (xaf _) ?_,rfl,q _ (I.hok.fresh (xaf _))⟩;exact⟨xay (Nu xs lo hi) hz,_,0,(r.drop (HT.bf xs.length 0 lo)).take (HT.bf xs.length xs.length hi - HT.bf xs.length 0 lo),xau _ rfl⟩
noncomputable def nj:V->Bool
 |.non=>true
 |.bl _=>true
 |.int _=>true
 |.str _=>true
 |_=>false
noncomputable def pK:V->V->Bool
 |.non,.non=>true
 |.bl a,.bl b=>a==b
 |.bl a,.int b=>(if a then 1 else 0)==b
 |.int a,.bl b=>a==(if b then 1 else 0)
 |.int a,.int b=>a==b
 |.str a,.str b=>a==b
 |_,_=>false
theorem VB (ry:RelV y u)(rx:RelV x v)(fy:nj y=true)(fx:nj x=true):SeqAt.EqAt A s u v (pK y x):=by
  cases y with
  |non=>
    cases ry
    cases x with
    |non=>cases rx;exact xdC _
    |bl b=>cases rx;exact SeqAt.EqAt.none_bool b
    |int b=>obtain⟨t,rfl⟩:=rx;exact SeqAt.EqAt.none_int b t
    |str b=>obtain⟨t,rfl⟩:=rx;exact SeqAt.EqAt.none_str b t
    |_=>exact absurd (show false=true from fx) xas
  |bl a=>
    cases ry
    cases x with
    |non=>cases rx;exact SeqAt.EqAt.bool_none a
    |bl b=>cases rx;exact SeqAt.EqAt.bool_bool a b
    |int b=>obtain⟨t,rfl⟩:=rx;exact SeqAt.EqAt.bool_int a b t
    |str b=>obtain⟨t,rfl⟩:=rx;exact SeqAt.EqAt.bool_str a b t
    |_=>exact absurd (show false=true from fx) xas
  |int a=>
    obtain⟨t',rfl⟩:=ry
    cases x with
    |non=>cases rx;exact SeqAt.EqAt.int_none a t'
    |bl b=>cases rx;exact SeqAt.EqAt.int_bool a t' b
    |int b=>obtain⟨t,rfl⟩:=rx;exact xdR a t' b t
    |str b=>obtain⟨t,rfl⟩:=rx;exact xdP a t' b t
    |_=>exact absurd (show false=true from fx) xas
  |str a=>
    obtain⟨t',rfl⟩:=ry
    cases x with
    |non=>cases rx;exact SeqAt.EqAt.str_none a t'
    |bl b=>cases rx;exact SeqAt.EqAt.str_bool a t' b
    |int b=>obtain⟨t,rfl⟩:=rx;exact xdQ a t' b t
    |str b=>obtain⟨t,rfl⟩:=rx;exact xdS a t' b t
    |_=>exact absurd (show false=true from fx) xas
  |_=>exact absurd (show false=true from fy) xas
noncomputable def gD (x:V) (u:Value):Bool:=match u with
 |.none=>pK .non x
 |.bool b=>pK (.bl b) x
 |.int i _=>pK (.int i) x
 |.str z _=>pK (.str z) x
 |_=>false
theorem N7 (r:RelV y u)(f:nj y=true):gD x u=pK y x:=by
 cases y with
 |non=>cases r;rfl
 |bl b=>cases r;rfl
 |int i=>obtain⟨t,rfl⟩:=r;rfl
 |str z=>obtain⟨t,rfl⟩:=r;rfl
 |_=>exact absurd (show false=true from f) xas
theorem yS:∀{xs:List V} {us:List Value},Vals xs us->xs.all nj=true->us.any (gD x)=xs.any fun y=>pK y x
  |_,_,.nil,_=>rfl
  |y::xs,u::us,.cons r t,f=>by
    rw[xci,xaC]at f;rw[xbN,xbN,N7 r f.1,yS t f.2]
theorem Af (rx:RelV x v)(fx:nj x=true):∀{xs:List V} {us:List Value},Vals xs us->xs.all nj=true->∀u∈us,SeqAt.EqAt A s u v (gD x u)
  |_,_,.nil,_=>fun u hu=>by cases hu
  |y::xs,u::us,.cons r t,f=>fun u' hu=>by
    rw[xci,xaC]at f;rcases xaq.mp hu with rfl |hu
    · rw[N7 r f.1];exact VB r rx f.1 fx
    · exact Af rx fx t f.2 u' hu
def inV (x:V)(xs:List V):Bool:=xs.any fun y=>pK y x
noncomputable def Ep (K:Fgx) (neg:Bool):R2:=fun x y H Q=>∃p xs,y=.ref p/\(bI K H p xs\/cZ K H p xs)/\nj x=true/\xs.all nj=true/\Q (.bl (if neg then !inV x xs else inV x xs)) H
theorem Zg:bU X (compareOp .In) (Ep X.K false):=by
 intro pins s σ H x y v u Q I rx ry h;obtain⟨p,xs,rfl,hq,fx,fs,q⟩:=h;cases ry;rcases hq with hq |hq
 ·obtain⟨its,r,pl,hz⟩:=I.list hq;refine SeqAt.in_listAt (gD x) pl.isList (fun w hw=>Af rx fx r fs w (by simpa using hw)) ⟨.bl _,H,I,rfl,?_⟩;rw[show its.toArray.any (gD x)=its.any (gD x) by simp,yS r fs];exact q
 ·obtain⟨its,r,pl,hz⟩:=I.tuple hq;refine SeqAt.in_tupleAt (gD x) pl (fun w hw=>Af rx fx r fs w (by simpa using hw)) ⟨.bl _,H,I,rfl,?_⟩;rw[show its.toArray.any (gD x)=its.any (gD x) by simp,yS r fs];exact q
theorem Zr:bU X (compareOp .NotIn) (Ep X.K true):=by
 intro pins s σ H x y v u Q I rx ry h;obtain⟨p,xs,rfl,hq,fx,fs,q⟩:=h;cases ry;rcases hq with hq |hq
 ·obtain⟨its,r,pl,hz⟩:=I.list hq;refine SeqAt.notIn_listAt (gD x) pl.isList (fun w hw=>Af rx fx r fs w (by simpa using hw)) ⟨.bl _,H,I,rfl,?_⟩;rw[show its.toArray.any (gD x)=its.any (gD x) by simp,yS r fs];exact q
 ·obtain⟨its,r,pl,hz⟩:=I.tuple hq;refine SeqAt.notIn_tupleAt (gD x) pl (fun w hw=>Af rx fx r fs w (by simpa using hw)) ⟨.bl _,H,I,rfl,?_⟩;rw[show its.toArray.any (gD x)=its.any (gD x) by simp,yS r fs];exact q
theorem UW:c7 X (.builtin "len") (fun xs H Q=>∃p ys,xs=[.ref p]/\(bI X.K H p ys\/cZ X.K H p ys)/\Q (.int ys.length) H):=by
 intro pins s σ H xs us Q I r h;obtain⟨p,ys,rfl,hq,q⟩:=h;obtain⟨u,rfl,rx⟩:=vals1 r;cases rx;have hn:=wG;rcases hq with hq |hq
 ·obtain⟨its,r',pl,hz⟩:=I.list hq;have hlen:=r'.length;exact Calls.call_len_list pl.isList (by simp only[xan]<;>lia) ⟨.int ys.length,H,I.tok _,⟨s.toks + 1,by rw[xan,hlen]⟩,q⟩
 ·obtain⟨its,r',pl,hz⟩:=I.tuple hq;have hlen:=r'.length;exact len_tuple pl (by simp only[xan]<;>lia) ⟨.int ys.length,H,I.tok _,⟨s.toks + 1,by rw[xan,hlen]⟩,q⟩
theorem U0:c7 X (.builtin "len") (fun xs H Q=>∃z,xs=[.str z]/\z.length<=sizeLine/\Q (.int z.length) H):=by
 intro pins s σ H xs us Q I r h;obtain⟨z,rfl,hz,q⟩:=h;obtain⟨u,rfl,t,rfl⟩:=vals1 r;have hn:=wG;exact len_str (by lia) ⟨.int z.length,H,I.tok _,⟨_,rfl⟩,q⟩
theorem c7.or (h:c7 X f r)(h':c7 X f r'):c7 X f (fun xs H Q=>r xs H Q\/r' xs H Q):=by
 intro pins s σ H xs us Q I rs q;rcases q with q |q
 ·exact h pins s σ H xs us Q I rs q
 ·exact h' pins s σ H xs us Q I rs q
theorem U3:c7 X (.type "list") (fun xs H Q=>∃p ys,xs=[.ref p]/\(bI X.K H p ys\/cZ X.K H p ys)/\∀l,H l=none->Q (.ref l) (upd H l (.lst ys))):=by
 intro pins s σ H xs us Q I r h;obtain⟨p,ys,rfl,hq,q⟩:=h;obtain⟨u,rfl,rx⟩:=vals1 r;cases rx;have fin:∀(its:List Value),Vals ys its->ys.length<=sizeLine->∀(h':Heap) (c':Nat),(∀b o',s.heap.get? b=some o'->h'.get? b=some o')->
   h'.get? s.heap.objs.size=some {cls:=.type "list",dict:=none,data:=.seq its.toArray c',slots:= #[]}->EP X pins σ Q (.ref s.heap.objs.size) {s with heap:=h'}:=fun its r' hz h' c' kp e=>
  ⟨.ref s.heap.objs.size,_,I.laid (t':=s.toks) kp (xaf _) (show cH X.prog X.w _ h' _ (.lst ys) from⟨hz,its,c',r',e⟩),rfl,q _ (I.hok.fresh (xaf _))⟩
 rcases hq with hq |hq
 ·obtain⟨its,r',pl,hz⟩:=I.list hq;have hlen:=r'.length;obtain⟨o,ho,hc,n,hd⟩:=pl.isList;exact call_list_seq p (.inl rfl) ho hc hd (fun h' c' kp e=>fin its r' hz h' c' kp e) (by simp only[xan]<;>lia)
 ·obtain⟨its,r',pl,hz⟩:=I.tuple hq;have hlen:=r'.length;obtain⟨o,ho,hc,n,hd⟩:=pl;exact call_list_seq p (.inr rfl) ho hc hd (fun h' c' kp e=>fin its r' hz h' c' kp e) (by simp only[xan]<;>lia)
def TY (K:Fgx)(T:String)(x:V)(H:Hp):Prop:=match x with
 |.str _=>T="str"
 |.int _=>T="int"
 |.ref p=>(T="list"/\∃xs,bI K H p xs)\/(T="tuple"/\∃o,K.lookup p=some o/\o.cls=.type "tuple"/\o.dict=none)\/
   (T="dict"/\((∃kvs,H p=some (.dK kvs))\/∃kvs,H p=some (.dT kvs)))\/(T="set"/\∃S n,H p=some (.set S n))
 |_=>False
theorem zc6 (I:Inv X pins σ H s)(r:RelV x v)(ty:TY X.K T x H):
    s.TypeIs v T/\∀a,v=.ref a->∃ob,s.heap.get? a=some ob/\ob.dict=none:=by
  cases x with
  |str z=>
    obtain⟨t,rfl⟩:=r;cases (show T="str" from ty);exact⟨typeIs_str s z t,fun _ e=>nomatch e⟩
  |int i=>
    obtain⟨t,rfl⟩:=r;cases (show T="int" from ty);exact⟨typeIs_int s i t,fun _ e=>nomatch e⟩
  |ref p=>
    cases r;rcases ty with⟨rfl,xs,hq⟩ |⟨rfl,o,hk,hc,hd⟩ |⟨rfl,hk⟩ |⟨rfl,S,n,hk⟩
    · obtain⟨its,_,pl,_⟩:=I.list hq;refine⟨pl.isList.typeIs,fun a e=>?_⟩;cases e;obtain⟨o,n,e,c,hd,_⟩:=pl;exact⟨o,e,hd⟩
    · refine⟨⟨o,I.kIn p o hk,hc⟩,fun a e=>?_⟩;cases e;exact⟨o,I.kIn _ o hk,hd⟩
    · have z:∃o,s.heap.get? p=some o/\o.ExactDict:=by
        rcases hk with⟨kvs,hk⟩ |⟨kvs,hk⟩
        · obtain⟨_,_,_,_,o,_,_,e,ex,_⟩:=I.hok p _ hk;exact⟨o,e,ex⟩
        · obtain⟨_,_,_,_,o,_,_,e,ex,_⟩:=I.hok p _ hk;exact⟨o,e,ex⟩
      obtain⟨o,e,ex⟩:=z;refine⟨⟨o,e,ex.1⟩,fun a e2=>?_⟩;cases e2;exact⟨o,e,ex.2.1⟩
    · obtain⟨o,_,_,_,e,ex,_⟩:=I.hok p _ hk;refine⟨⟨o,e,ex.1⟩,fun a e2=>?_⟩;cases e2;exact⟨o,e,ex.2.1⟩
  |_=>exact False.elim ty
noncomputable def tBM (K:Fgx) (T:String) (r:V->List V->Hp->VK->Prop) (to:TE) (t:TA):TE:=fun σ H Q=>to σ H fun x H1=>TY K T x H1/\t σ H1 fun xs H2=>r x xs H2 Q
variable {o e:Expr}{es:List Expr}{to:TE}{t:TA}{name:Str}{apos cpos:Pos}{T id:String}{r:V->List V->Hp->VK->Prop}
theorem Az (pa:PlainAttrs T)(slot:Slot T name id)(hty:typeOf (.builtin id)=pure (.type "method_descriptor"))(hm:yL X id r)(ho:PE X o to)(ha:PA X (e::es) t)
  (hbase:attributeBase o name X.env (eval o X.env)=eval o X.env:=by rfl)
  (hfew : ((backTo cpos (starEach (e::es) X.env)).all (fun x=> !x.1) && (backToKw cpos (keywordEach [] X.env)).all (fun x=>x.1.isSome)
   && decide ((e::es).length + ([]:List Keyword).length + (if ([]:List Keyword).isEmpty then 0 else 1)<30))=true:=by rfl)
  (hline:(apos.endLine==cpos.line)=true:=by rfl) (hs:starEach (e::es) X.env=(false,eval e X.env)::starEach es X.env:=by rfl) (hplain:(backTo cpos (starEach es X.env)).any (·.1)=false:=by rfl):
  PE X (.Call (.Attribute o name apos) (e::es) [] cpos) (tBM X.K T r to t):=by
 intro pins s σ H Q I h;refine wpAny_Call_method_late hbase hfew hline rfl (aN (ho pins s σ H _ I h) fun v s1 ⟨x,H1,I1,r1,ty,q1⟩=>?_);obtain⟨h1,h2⟩:=zc6 I1 r1 ty;refine⟨T,id,pa,slot,hty,h1,h2,?_⟩;have hA:=ha cpos pins s1 σ H1 _ I1 q1;rw[hs]at hA ⊢;refine xdn (by show(false || (backTo cpos (starEach es X.env)).any (·.1))=false;rw[hplain]<;>rfl) (Calls.evalArgs_plain ?_)
 exact aN hA fun us s2 ⟨vs,H2,I2,r2,q2⟩=>hm pins s2 σ H2 x vs v us Q I2 r1 r2 q2
end
def Uj (X:Cx)(id:String)(r:V->List V->Hp->VK->Prop):Prop:=
 ∀(pins:Pnx) (s:Shared) (σ:St) (H:Hp) (x:V) (xs:List V) (v:Value) (us:List Value) (Q:VK),Inv X pins σ H s->RelV x v->Vals xs us->r x xs H Q->
  wpAny (model X.prog X.w) X.A (call (.builtin id) (v::us)) (EP X pins σ Q) X.xe s
theorem Vals.one:∀{x:V} {us:List Value},Vals [x] us->∃u,us=[u]/\RelV x u
 |_,_,.cons r .nil=>⟨_,rfl,r⟩
theorem Vals.rep (h:Vals xs us):∀k:Nat,Vals (List.replicate k xs).flatten (List.replicate k us).flatten
  |0=>.nil
  |k + 1=>by
    rw[xbR,xbR,xcl,xcl];exact Vals.append h (Vals.rep h k)
theorem foldl_rep (its:List Value):∀(k:Nat) (acc:List Value),
    List.foldl (fun x1 x2=>x1 ++ x2) acc.toArray (List.replicate k its.toArray)=(acc ++ (List.replicate k its).flatten).toArray
  |0,acc=>by simp
  |k + 1,acc=>by
    have e:acc.toArray ++ its.toArray=(acc ++ its).toArray:=by simp
    have e2:(acc ++ its) ++ (List.replicate k its).flatten=acc ++ (List.replicate (k + 1) its).flatten:=by
      rw[xbR,xcl,xaD]
    rw[<-e2, <-foldl_rep its k (acc ++ its), <-e,xbR,xcf]
section
variable {X:Cx}{pins:Pnx}{σ:St}{H:Hp}{s:Shared}{l b:Addr}{xs ys zs:List V}
theorem Inv.lset {its its':List Value}{n:Nat}{f:Array Value->Array Value}{t':Nat}(I:Inv X pins σ H s)(hH:H l=some (.lst xs))
  (e:s.heap.get? l=some {cls:=.type "list",data:=.seq its.toArray n}) (hf:f its.toArray=its'.toArray) (hv:Vals ys its') (hz:ys.length<=sizeLine):
  Inv X pins σ (upd H l (.lst ys)) {s with heap:=s.heap.update l (Obj.mapSeq f),toks:=t'}:=by
 have q:=PySem.IsL.update e f;rw[hf]at q;refine I.write (x:=l) (e:=l) (by rw[hH];exact trivial) (.inl rfl) (fun b' u hb hu=>(xa2 s.heap (Obj.mapSeq f) (xbx hb)).trans hu) ⟨_,q⟩ ?_;exact⟨hz,its',_,hv,q⟩
theorem Inv.lnew (I:Inv X pins σ H s)(hv:Vals ys its)(hz:ys.length<=sizeLine):
  Inv X pins σ (upd H s.heap.objs.size (.lst ys)) {s with heap:=s.heap.push {cls:=.type "list",data:=.seq its.toArray},toks:=t'}:=
 I.laid (fun _ _ q=>xag _ q) (xaf _) ⟨hz,its,0,hv,xau _ rfl⟩
theorem Inv.fresh (I:Inv X pins σ H s):H s.heap.objs.size=none:=I.hok.fresh (xaf _)
theorem Inv.lstM (I:Inv X pins σ H s)(hH:H l=some (.lst xs)):xs.length<=sizeLine/\∃(its:List Value) (n:Nat),Vals xs its/\xs.length=its.length/\s.heap.get? l=some {cls:=.type "list",data:=.seq its.toArray n}:=by
 obtain⟨z,its,n,r,e⟩:=I.hok l _ hH;exact⟨z,its,n,r,r.length,e⟩
theorem Yi (h:n<=sizeLine):Builtin.List.listTooLong n=false:=by
 unfold Builtin.List.listTooLong;exact xaH (by lia)
end
section
variable {X:Cx}
def zcm:V->List V->Hp->VK->Prop:=fun x vs H Q=>∃l xs y,x=.ref l/\vs=[y]/\H l=some (.lst xs)/\xs.length<sizeLine/\Q .non (upd H l (.lst (xs ++ [y])))
theorem Ji:Uj X "list.append" zcm:=by
 intro pins s σ H x vs v us Q I rx rv h;obtain⟨l,xs,y,rfl,rfl,hH,hz,q⟩:=h;cases rx;obtain⟨u,rfl,ru⟩:=rv.one;obtain⟨z,its,n,r,hl,e⟩:=I.lstM hH;refine call_meets F.slot_list_append ⟨_,e,rfl⟩ F.entry_list_append (F.args_list_append_2 _ _) (PySem.list_append l its.toArray n u (by rw[xan];lia)) ⟨e,?_⟩;refine⟨.non,_,I.lset (its':=its ++ [u]) hH e (by simp) (r.append (.cons ru .nil)) ?_,rfl,q⟩;rw[xam,xaF];lia
noncomputable def J6:R2:=fun x y H Q=>∃l k xs,x=.ref l/\y=.int k/\H l=some (.lst xs)/\ -(2 ^ 63)<=k/\k<2 ^ 63/\xs.length * k.toNat<=sizeLine/\
 ∀p,H p=none->Q (.ref p) (upd H p (.lst (List.replicate k.toNat xs).flatten))
theorem len_rep (xs:List α)(k:Nat):(List.replicate k xs).flatten.length=k * xs.length:=by
 induction k with
 |zero=>simp
 |succ k ih=>rw[xbR,xcl,xam,ih,Nat.succ_mul,Nat.add_comm]
theorem Zv:bU X (binaryOp .Mult) J6:=by
  intro pins s σ H x y v u Q I rx ry h;obtain⟨l,k,xs,rfl,rfl,hH,h1,h2,hz,q⟩:=h;cases rx;obtain⟨t,rfl⟩:=ry;obtain⟨z,its,n,r,hl,e⟩:=I.lstM hH;have hlen:its.toArray.size * k.toNat<=sizeLine:=by rw[xan, <-hl];exact hz
  have hcap:¬ its.toArray.size * k.toNat > (2 ^ 63 - 1) / 8:=by
    have:(sizeLine:Nat)<=(2 ^ 63 - 1) / 8:=by decide
    lia
  have hfit:¬ (!Builtin.List.listFitsIndex k)=true:=by
    rw[fitsIndex_both h1 h2];exact xas
  have hlong:¬ Builtin.List.listTooLong (its.toArray.size * k.toNat)=true:=by
    rw[Yi hlen];exact xas
  have hnew:List.foldl (fun x1 x2=>x1 ++ x2) #[] (List.replicate (if its.toArray.isEmpty=true then 0 else k.toNat) its.toArray)=(List.replicate k.toNat its).flatten.toArray:=by
    have f0:∀m:Nat,List.foldl (fun x1 x2=>x1 ++ x2) #[] (List.replicate m its.toArray)=(List.replicate m its).flatten.toArray:=fun m=>by
      have:=foldl_rep its m [];rw[xbD]at this;exact this
    rw[f0]
    cases its with
    |nil=>simp
    |cons a r'=>rw[xad (by simp)]
  refine wpAny_binaryOp_repeat_ref (T:="list") (U:="int") (by decide) ⟨_,e,rfl⟩ (fun s'=>typeIs_int s' k t) noFill_list_mul F.fills_int_mul F.slot_int_rmul repeat_list F.slot_int_index.lookup
    (call_meets F.slot_int_rmul (typeIs_int s k t) F.entry_int_rmul (F.args_int_rmul_2 _ _) (int___rmul___int_list k t l its.toArray n)
      ⟨e,rfl,⟨_,e,rfl⟩,call_meets F.slot_list_mul ⟨_,e,rfl⟩ F.entry_list_mul (F.args_list_mul_2 _ _) (AutoListH.list___mul___list_int_3 l its.toArray n k t hfit hcap hlong) ⟨e,?_⟩⟩)
  rw[hnew];exact⟨.ref _,_,I.lnew (t':=s.toks) (r.rep k.toNat) (by rw[len_rep,Nat.mul_comm];exact hz),rfl,q _ I.fresh⟩
end
end L2
namespace Att
open PySem PySem.W PySem.Calls PyProof.Rows
theorem WL:∀(ns:List Int) (vs:List Value),WellAll P h vs (ns.map WData.int)->IntsAre vs ns:=by
  intro ns
  induction ns with
  |nil=>
    intro vs w;rw[xcr]at w;cases w;exact .nil
  |cons n ns ih=>
    intro vs w;rw[xak]at w
    cases w with
    |cons a b=>
      cases a;exact .cons _ _ (ih _ b)
theorem zaI {l:OpenLaw}{n:Nat}(hn:l.most=some n){P:Params}{h:Heap}{args:List WData}{vals:List Value}
    (hpre:l.row.toRowW.claim.pre args=true) (hwl:WellAll P h vals args):
    ∃a vs ns,vals=[Value.ref a]/\args=[WData.list (ns.map WData.int)]/\h.get? a=some {cls:=.type "list",data:=.seq vs.toArray}/\IntsAre vs ns/\ns.length<=n:=by
  have hsh:WShape.hasAll [] args [.list .int]=true:=(pre_splitW hpre).1;have hc:l.pre.holds [] {args:=args}=true:=(pre_splitW hpre).2;obtain⟨d,r,rfl,h1,h2⟩:=hasAllW_cons hsh;obtain rfl:=hasAllW_nil h2;obtain⟨xs,rfl,h3⟩:=hasW_list h1;obtain⟨ns,rfl⟩:=items_int h3;have hlen:ns.length<=n:=by
    unfold OpenLaw.pre at hc;have h4:(WTm.not (.lt (.lit (.int (n:Int))) (.len (.arg 0)))).holds [] {args:=[.list (ns.map .int)]}=true:=by
      have h4:=(holds_andW hc).1;rw[hn]at h4;exact h4
    have h5:=condW_of h4 (w_not (w_lt w_lit (w_len_list (w_arg rfl))));rw[xae]at h5;refine xbU fun q=>?_;have q':(n:Int)<((ns.length:Nat):Int):=by lia
    first
      |(rw[xaK q']at h5;exact absurd h5 (by decide))
      |(simp at h5;lia)
  cases hwl with
  |cons w1 w2=>
    cases w2
    cases w1 with
    |list ho hall=>exact⟨_,_,ns,rfl,rfl,ho,WL ns _ hall,hlen⟩
theorem zaJ (l:OpenLaw)(args:List WData):l.row.toRowW.claim.post args (.bool true) args=true:=
 postW_of (r:=l.row.toRowW) (X:=(true==true))
  (show WShape.has [] (.bool true) .bool=true by first |rfl |decide |simp[WShape.has,WShape.arms,WShape.armsAll])
  (show(WTm.eq .res (.lit (.bool true))).value [] {args:=args,res:=some (.bool true),after:=args}=some (.bool (true==true)) from w_eq_bool (w_res rfl) w_lit) rfl
theorem Ur {l:OpenLaw}{n:Nat}{q:Program}{loose:List Str}{XP:(Mgx)->Heap->Prop}{YP:World->Heap->Prop}{d:DefRec}
  (hn:l.most=some n) (hdf:d.params.defaults=[])
  (call:∀(w:World) (s₀ s₁:Shared) (mg mb:Mgx) (fa:Addr) (o:Obj) (pm cd doc:Value) (a:Addr) (vs:List Value) (ns:List Int),
   Ground q loose [] XP w s₀ mg mb s₁.heap->YP w s₁.heap->
   s₁.heap.get? fa=some o->o.data=.func (docDef d.name d.params d.body d.scope pm cd doc)->s₁.heap.CodeRec cd d.name->mg d.name=some (.ref fa)->
   s₁.heap.get? a=some {cls:=.type "list",data:=.seq vs.toArray}->IntsAre vs ns->ns.length<=n->s₁.gens= #[]->
   codeAny (model l.prog w) callerA (.call (.ref fa) ⟨[.ref a],[]⟩) (fun r s'=>r=.ok (.ret (.bool true))/\OldK s₁.heap s'.heap/\s'.os=s₁.os/\AllBare s'.gens) s₁):
  WalkO q loose XP YP l.row.toRowW d [] (fun f vs=>PySem.call f vs):=by
 intro w s₀ s₁ mg mb G Y fa o pm cd doc dV kV ho hd hcd hD hmg hg args vals as hpre hlay hrd hwl hlo;obtain rfl:dV=.none:=Dflts.none hD hdf;obtain rfl:kV=.none:=Dflts.noKw hD;obtain⟨a,vs,ns,rfl,rfl,hobj,hints,hlen⟩:=zaI hn hpre hwl;refine enter_call (xc4 (call w s₀ s₁ mg mb fa o pm cd doc a vs ns G Y ho (fd_plain hd) hcd hmg hobj hints hlen hg) fun r s' hq=>?_);obtain⟨rfl,h2,h3,h4⟩:=hq;exact⟨.inl ⟨.bool true,.bool true,[],rfl,fun _=>rfl,.bool true,zaJ l _,fun _=>⟨List.Pairwise.nil,fun _ hm=>(nomatch hm)⟩⟩,h2,h3,h4⟩
end Att
namespace L2
open PySem PySem.Spec PyProof.Rows
theorem T7:∀{vs:List Value} {ns:List Int},IntsAre vs ns->Vals (ns.map V.int) vs
 |_,_,.nil=>.nil
 |_,_,.cons n t h=>.cons ⟨t,rfl⟩ (T7 h)
def Only (H:Hp):Prop:=∀b,H b=none\/∃o xs,H b=some (.frz o (.lst xs))
theorem Xn {P:Program}{w:World}{K:Fgx}{mg mb:Mgx}{CX:fj}{k:Nat}{fa a:Addr}{fd:FuncData}{x:Str}{sp:Sp}{s₁:Shared}{vs:List Value}{ns:List Int}
    (KX:K.In s₁.heap) (hns:s₁.heap.Ns mainGlobals mg) (hb:s₁.heap.Ns builtinsNs mb) (hbb:∀x:Str,x≠"__name__"->mb x=bootBuiltins x) (hlim:s₁.heap.NoLimit) (hg:s₁.gens= #[])
    (ha:s₁.heap.get? a=some {cls:=.type "list",data:=.seq vs.toArray}) (hi:IntsAre vs ns) (hl:ns.length<=sizeLine) (hr:Room k callerA)
    (F:∀base:Heap,K.In base->base.Ns mainGlobals mg->FnOk P w K mg base CX k fa fd [x] sp) (hbind:∀(s:Shared) (u:Value),BindsTo s fd ⟨[u],[]⟩ [(x,u)])
    (hsp:∀H:Hp,Only H->bI K H a (ns.map V.int)->sp [.ref a] H (fun v _=>v=.bl true) fun _ _ _=>False)
    (hCX:∀H e s',CX [] H s₁ (fun _ _ _=>False) e s'->False):
    codeAny (model P w) callerA (.call (.ref fa) ⟨[.ref a],[]⟩) (fun r s'=>r=.ok (.ret (.bool true))/\OldK s₁.heap s'.heap/\s'.os=s₁.os/\AllBare s'.gens) s₁:=by
  have rv:=T7 hi;have lenV:=hi.length
  -- from an abstract heap in which nothing but the script may be tracked
  have core:∀H:Hp,Only H->bI K H a (ns.map V.int)->bZ P w H s₁.heap->(∀b,H b≠none->b=a)->(H a≠none->K.lookup a=none)->
      codeAny (model P w) callerA (.call (.ref fa) ⟨[.ref a],[]⟩) (fun r s'=>r=.ok (.ret (.bool true))/\OldK s₁.heap s'.heap/\s'.os=s₁.os/\AllBare s'.gens) s₁:=by
    intro H hO hS hok hA hK;have base_of:∀{b:Addr} {o:Obj},s₁.heap.get? b=some o->H b=none->(eV s₁.heap H).get? b=some o:=fun e n=>Wq e n;have noA:∀{b:Addr} {o:Obj} {es:Array DictEntry} {ep:Nat},s₁.heap.get? b=some o->o.data=.dict es ep->H b=none:=fun {b o es ep} e d=>by
      cases q:H b with
      |none=>rfl
      |some u=>
        have e':b=a:=hA b (by rw[q];simp);subst e';rw[ha]at e;cases e;have d':Data.seq vs.toArray _=Data.dict es ep:=d;cases d'
    have nsK : ∀ {b : Addr} {m : Mgx}, s₁.heap.Ns b m -> (eV s₁.heap H).Ns b m := fun {b m} ⟨o, es, ep, e, d, r⟩ => ⟨o, es, ep, base_of e (noA e d), d, r⟩;have hKb : K.In (eV s₁.heap H) := fun b o e => base_of (KX b o e) (by
      cases q:H b with
      |none=>rfl
      |some u=>
        have e':b=a:=hA b (by rw[q];simp);subst e';rw[hK (by rw[q];simp)]at e;cases e)
    have hM:Mod K mg (eV s₁.heap H):=⟨hKb,nsK hns,⟨mb,nsK hb,hbb⟩,let ⟨mc,h1,h2⟩:=hlim;⟨mc,nsK h1,h2⟩⟩
    have e0:Env0 P w K mg (eV s₁.heap H) callerA [] s₁ H:=⟨rfl,hM,fun b o e=>YT e,xeb (Wr _ _),trivial,fun b hb=>absurd (show b∈([]:List Addr) from hb) (by simp),hok,.of_eq hg⟩;refine xc4 ((F _ hKb (nsK hns)).run callerA [] s₁ H ⟨[.ref a],[]⟩ [.ref a] [.ref a] _ _ hr e0 (hbind s₁ (.ref a)) (.cons rfl .nil) (hsp H hO hS)) fun r s' h=>?_
    cases r with
    |error e=>exact(hCX H e s' h).elim
    |ok fl=>
      cases fl with
      |next=>exact False.elim h
      |brk=>exact False.elim h
      |cont=>exact False.elim h
      |ret u=>
        obtain⟨v,H',os,bare,un,hok',r',q⟩:=h;have q':v=.bl true:=q;subst q';obtain rfl:u=Value.bool true:=r';refine⟨rfl,OldK.of_keep fun b o e=>?_,os,bare⟩
        cases q:H b with
        |none=>exact un.keep b o e q (by intro z;exact absurd (show b∈([]:List Addr) from z) (by simp)) (by simp)
        |some u=>
          rcases hO b with z |⟨ob,xs,z⟩
          · rw[q]at z;cases z
          · have z2:=un.frzs b ob _ z;obtain⟨e1,_⟩:=hok b _ z;obtain⟨e2,_⟩:=hok' b _ z2;rw[e]at e1;cases e1;exact e2
  cases hk:K.lookup a with
  |some o=>
    -- the script is one of the module's own objects
    have e:=KX a o hk;rw[ha]at e;cases e;refine core (fun _=>none) (fun _=>.inl rfl) (.inr ⟨_,vs.toArray,_,hk,rfl,rfl,rfl,by rw[xan,lenV];exact hl,by simpa using rv⟩) (fun b u z=>by have z':(none:Option HO)=some u:=z;cases z') (fun b z=>absurd rfl z) fun z=>absurd rfl z
  |none=>
    refine core (fun b=>if b=a then some (.frz {cls:=.type "list",data:=.seq vs.toArray} (.lst (ns.map V.int))) else none) (fun b=>?_) (.inl (.inr ⟨{cls:=.type "list",data:=.seq vs.toArray},xac rfl⟩)) (fun b u z=>?_) (fun b z=>?_) fun _=>hk
    · by_cases hb:b=a
      · exact .inr ⟨_,_,xac hb⟩
      · exact .inl (xad hb)
    · by_cases hb:b=a
      · have z':=(xac hb).symm.trans z;cases z';subst hb;exact⟨ha,by rw[xae];exact hl,vs,_,rv,ha⟩
      · have z':=(xad hb).symm.trans z;cases z'
    · by_cases hb:b=a
      · exact hb
      · exact absurd (xad hb) z
theorem zct {l:PySem.W.OpenLaw}{n k:Nat}{q:Program}{loose:List Str}{XP:(Mgx)->Heap->Prop}{YP:World->Heap->Prop}{d:DefRec}{K:Params->Fgx}{CX:World->fj}{sp:World->Sp}{x:Str}
  (hn:l.most=some n) (hn2:n<=sizeLine) (hdf:d.params.defaults=[]) (hr:Room k callerA)
  (hY:∀(w:World) (h:Heap),YP w h->(K w.params).In h)
  (F:∀(w:World) (mg:Mgx) (fa:Addr) (h:Heap),(K w.params).In h->h.Ns mainGlobals mg->mg d.name=some (.ref fa)->
   ∃fd:FuncData,(∀(s:Shared) (u:Value),BindsTo s fd ⟨[u],[]⟩ [(x,u)])/\
    ∀base:Heap,(K w.params).In base->base.Ns mainGlobals mg->FnOk l.prog w (K w.params) mg base (CX w) k fa fd [x] (sp w))
  (hsp:∀(w:World) (H:Hp) (a:Addr) (ns:List Int),ns.length<=n->Only H->bI (K w.params) H a (ns.map V.int)->sp w [.ref a] H (fun v _=>v=.bl true) fun _ _ _=>False)
  (hCX:∀(w:World) (H:Hp) (s:Shared) (e:Value) (s':Shared),CX w [] H s (fun _ _ _=>False) e s'->False):
  PySem.W.WalkO q loose XP YP l.row.toRowW d [] (fun f vs=>PySem.call f vs):=by
 refine Att.Ur hn hdf fun w s₀ s₁ mg mb fa o pm cd doc a vs ns G Y ho hd hcd hmg hobj hints hlen hg=>?_;have KX:=hY w _ Y;obtain⟨fd,hb,hF⟩:=F w mg fa _ KX G.T.g hmg;exact Xn KX G.T.g G.T.b G.T.builtins G.T.nolimit hg hobj hints (xay hlen hn2) hr hF hb (fun H hO hS=>hsp w H a ns hlen hO hS) fun H e s'=>hCX w H s₁ e s'
theorem za1 {l:PySem.W.OpenLaw}{n k:Nat}{q:Program}{loose:List Str}{XP:(Mgx)->Heap->Prop}{YP:World->Heap->Prop}{d:DefRec}{K:Params->Fgx}{CX:fj}{sp:Fgx->Sp}{x:Str}
  (hn:l.most=some n) (hn2:n<=sizeLine) (hdf:d.params.defaults=[]) (hr:Room k callerA)
  (hY:∀(w:World) (h:Heap),YP w h->(K w.params).In h)
  (F:∀(w:World) (mg:Mgx) (fa:Addr) (h:Heap),(K w.params).In h->h.Ns mainGlobals mg->mg d.name=some (.ref fa)->
   ∃fd:FuncData,(∀(s:Shared) (u:Value),BindsTo s fd ⟨[u],[]⟩ [(x,u)])/\
    ∀base:Heap,(K w.params).In base->base.Ns mainGlobals mg->FnOk l.prog w (K w.params) mg base CX k fa fd [x] (sp (K w.params)))
  (hsp:∀(K:Fgx) (H:Hp) (a:Addr) (ns:List Int),ns.length<=n->Only H->bI K H a (ns.map V.int)->sp K [.ref a] H (fun v _=>v=.bl true) fun _ _ _=>False)
  (hCX:∀(H:Hp) (s:Shared) (e:Value) (s':Shared),CX [] H s (fun _ _ _=>False) e s'->False):
  PySem.W.WalkO q loose XP YP l.row.toRowW d [] (fun f vs=>PySem.call f vs):=
 zct (K:=K) (CX:=fun _=>CX) (sp:=fun w=>sp (K w.params)) hn hn2 hdf hr hY F (fun w H a ns h1 h2 h3=>hsp (K w.params) H a ns h1 h2 h3) fun _ H s e s'=>hCX H s e s'
noncomputable def b_ (s:Stmt):Arguments:=match s with
 |.FunctionDef _ a _ _ _ _ _ _ _ _=>a
 |_=>{posonlyargs:=[],args:=[],vararg:=none,kwonlyargs:=[],kw_defaults:=[],kwarg:=none,defaults:=[]}
noncomputable def bO (s:Stmt):List Stmt:=match s with
 |.FunctionDef _ _ b _ _ _ _ _ _ _=>b
 |_=>[]
noncomputable def aM (s:Stmt):Scope:=match s with
 |.FunctionDef _ _ _ _ _ _ sc _ _ _=>sc
 |_=>{kind:=.function,names:=[],isGenerator:=false,isCoroutine:=false}
abbrev fY:fj:=fun _ _ _ _ _ _=>False
abbrev E0:XK:=fun _ _ _=>False
theorem Ax:Passes fY X E0:=fun _ _ _ _ _ _ _ h=>h.elim
structure Fun (K:Fgx)(x qual:Str)(st:Stmt)(f:Addr)(fd:FuncData):Prop where
 ex:∃(oc:Value) (od:Option Addr) (kV doc pm:Value) (an:Option Addr) (cdv ct:Value) (osl:Array (Option Value)),
  fd=PySem.W.fnOf x qual (b_ st) (bO st) (aM st) .none kV doc pm an cdv ct/\K.lookup f=some ⟨oc,od,.func fd,osl⟩/\PySem.W.codeIn K cdv qual=true
 kp:PySem.W.keepIn K (.ref f)=true
section
variable {P:Program}{w:World}{K:Fgx}{mg:Mgx}{base:Heap}
theorem Fun.binds {x qual:Str}{st:Stmt}{f:Addr}{fd:FuncData}{ps:List Str}(F:Fun K x qual st f fd)
  (h:∀(kV doc pm:Value) (an:Option Addr) (cdv ct:Value) (us:List Value),us.length=ps.length->bindArgs (PySem.W.fnOf x qual (b_ st) (bO st) (aM st) .none kV doc pm an cdv ct) ⟨us,[]⟩=pure (ps.zip us)):Binds K fd ps []:=by
 obtain⟨oc,od,kV,doc,pm,an,cdv,ct,osl,rfl,lk,hcd⟩:=F.ex;exact .all (h kV doc pm an cdv ct)
theorem lq {x qual:Str}{st:Stmt}{f:Addr}{oc:Value}{od an:Option Addr}{osl:Array (Option Value)}{kV doc pm cdv ct:Value}(l:K.lookup f=some ⟨oc,od,.func (PySem.W.fnOf x qual (b_ st) (bO st) (aM st) .none kV doc pm an cdv ct),osl⟩)
  (c:PySem.W.codeIn K cdv qual=true) (k:PySem.W.keepIn K (.ref f)=true):Fun K x qual st f (PySem.W.fnOf x qual (b_ st) (bO st) (aM st) .none kV doc pm an cdv ct):=⟨⟨oc,od,kV,doc,pm,an,cdv,ct,osl,rfl,l,c⟩,k⟩
end
def Same (H H':Hp):Prop:=∀b o,H b=some o->H' b=some o
theorem Same.refl (H:Hp):Same H H:=fun _ _ h=>h
theorem Same.free (e:Same H H')(h:H' l=Option.none):H l=Option.none:=by
  cases q:H l with
  |none=>rfl
  |some o=>
    rw[e l o q]at h;cases h
end L2
set_option maxHeartbeats 0
namespace L2
open PySem PySem.Spec PyProof.Rows
section
variable {κ:Type}[DecidableEq κ]
noncomputable def bx (kvs:List (κ×V)) (k:κ):Option V:=(kvs.find? fun kv=>decide (kv.1=k)).map (·.2)
noncomputable def putK (kvs:List (κ×V)) (k:κ) (v:V):List (κ×V):=
 if (kvs.any fun kv=>decide (kv.1=k))=true then kvs.map (fun kv=>if kv.1=k then(kv.1,v) else kv) else kvs ++ [(k,v)]
theorem Ly {p:κ×V}{r:List (κ×V)}{k:κ}(e:p.1=k):bx (p::r) k=some p.2:=by simp[bx,xbY,e]
theorem Lx {p:κ×V}{r:List (κ×V)}{k:κ}(e:¬ p.1=k):bx (p::r) k=bx r k:=by simp[bx,xbY,e]
theorem T6 (k:κ):∀kvs:List (κ×V),(kvs.any fun kv=>decide (kv.1=k))=(bx kvs k).isSome
  | []=>rfl
  |p::r=>by
    rw[xbN]
    by_cases e:p.1=k
    · simp only[Ly e,xaK e,Bool.true_or,Option.isSome_some]
    · rw[Lx e,xaH e,Bool.false_or];exact T6 k r
theorem Jc (kvs:List (κ×V))(k:κ)(v:V):(putK kvs k v).length<=kvs.length + 1:=by
 unfold putK
 split
 ·rw[xae];lia
 ·rw[xam,xav,xbE];lia
theorem cI.isSome_eq (r:cI o u):o.isSome=u.isSome:=by
  cases o with
  |none=>cases u with
    |none=>rfl
    |some _=>exact(show False from r).elim
  |some _=>cases u with
    |none=>exact(show False from r).elim
    |some _=>rfl
theorem KV.any (r:KV kvs vs)(k:κ):(kvs.any fun kv=>decide (kv.1=k))=vs.any fun kv=>decide (kv.1=k):=by
 unfold KV at r
 induction r with
 |nil=>rfl
 |cons h t ih=>rw[xbN,xbN,ih,h.1]
theorem KV.repl (r:KV kvs vs)(k:κ)(ry:RelV y u):
    KV (kvs.map fun kv=>if kv.1=k then(kv.1,y) else kv) (vs.map fun kv=>if kv.1=k then(kv.1,u) else kv):=by
  unfold KV at r ⊢
  induction r with
  |nil=>exact .nil
  | @cons p q ps qs h t ih=>
    rw[xak,xak];refine .cons ?_ ih;obtain⟨h1,h2⟩:=h
    by_cases e:p.1=k
    · rw[xac e,xac (h1.symm.trans e)];exact⟨h1,ry⟩
    · rw[xad e,xad (fun z=>e (h1.trans z))];exact⟨h1,h2⟩
theorem KV.put (r:KV kvs vs)(k:κ)(ry:RelV y u):KV (putK kvs k y) (stored vs k u):=by
 unfold putK stored;rw[r.any k]
 by_cases e:(vs.any fun kv=>decide (kv.1=k))=true
 ·rw[xac e,xac e];exact r.repl k ry
 ·rw[xad e,xad e];exact Paired.snoc r ⟨rfl,ry⟩
theorem KV.length (r:KV kvs vs):kvs.length=vs.length:=xbr r
end
theorem Pk (r:RelV (kV k) u):(eX P w).is k u=true:=by
 cases k with
 |inl i=>obtain⟨t,e⟩:=(show ∃t,u=Value.int i t from r);subst e;exact X6 P w i t
 |inr x=>obtain⟨t,e⟩:=(show ∃t,u=Value.str x t from r);subst e;exact X7 P w x t
theorem Iz:∀{ks:List Key} {us:List Value},Vals (ks.map kV) us->ItemsAre (eX P w) ks us
  | [],_,r=>by rw[xcr]at r;cases r;exact .nil
  |k::ks,_,r=>by
    rw[xak]at r
    cases r with
    |cons h t=>exact .cons (Pk h) (Iz t)
abbrev KT (H:Hp):List (List Key×V)->List (List Key×Addr×Value)->Prop:=Paired fun p q=>p.1=q.1/\H q.2.1=some (.tup (p.1.map kV))/\RelV p.2 q.2.2
theorem KT.val {H:Hp}{kvs:List (List Key×V)}{xs:List (List Key×Addr×Value)}(r:KT H kvs xs)(k:List Key):cI (bx kvs k) ((atKey xs k).map (·.2)):=by
  induction r with
  |nil=>exact True.intro
  | @cons p q ps qs h t ih=>
    obtain⟨h1,_,h2⟩:=h
    by_cases e:p.1=k
    · have e':q.1=k:=h1.symm.trans e;have b:atKey (q::qs) k=some q.2:=by simp[atKey,xbY,e']
      rw[Ly e,b];exact h2
    · have e':¬ q.1=k:=fun z=>e (h1.trans z);have b:atKey (q::qs) k=atKey qs k:=by simp[atKey,xbY,e']
      rw[Lx e,b];exact ih
theorem KT.repl (r:KT H kvs xs)(k:List Key)(ry:RelV y u):
    KT H (kvs.map fun kv=>if kv.1=k then(kv.1,y) else kv) (xs.map (putAt k u)):=by
  induction r with
  |nil=>exact .nil
  | @cons p q ps qs h t ih=>
    rw[xak,xak];refine .cons ?_ ih;obtain⟨h1,h2,h3⟩:=h;unfold putAt
    by_cases e:p.1=k
    · rw[xac e,xac (h1.symm.trans e)];exact⟨h1,h2,ry⟩
    · rw[xad e,xad (fun z=>e (h1.trans z))];exact⟨h1,h2,h3⟩
theorem KT.put (r:KT H kvs xs)(k:List Key)(hb:H b=some (.tup (k.map kV)))(ry:RelV y u):
  KT H (putK kvs k y) (storedH xs k b u):=by
 have e:(kvs.any fun kv=>decide (kv.1=k))=(atKey xs k).isSome:=by
  rw[T6,(r.val k).isSome_eq,xd4]
 unfold putK storedH;rw[e]
 by_cases q:(atKey xs k).isSome=true
 ·rw[xac q,xac q];exact r.repl k ry
 ·rw[xad q,xad q];exact Paired.snoc r ⟨rfl,hb,ry⟩
theorem KT.keeps (r:KT H kvs xs)(ht:∀b ys,H b=some (.tup ys)->H' b=some (.tup ys)):KT H' kvs xs:=
 Paired.mapP r fun _ _ z=>⟨z.1,ht _ _ z.2.1,z.2.2⟩
section
variable {P:Program}{w:World}{H:Hp}{h:Heap}{a:Addr}
theorem Q6 (ok:bZ P w H h)(e:Rd H a u):cH P w H h a u:=e.ok ok
theorem Vr (ok:bZ P w H h)(e:Rd H a (.dK kvs)):kvs.length<=sizeLine/\(a==sysModules)=false/\∃vs,KV kvs vs/\h.DictOf (eX P w) a vs:=
 show cH P w H h a (.dK kvs) from Q6 ok e
theorem Vq (ok:bZ P w H h)(e:H a=some (.dK kvs)):kvs.length<=sizeLine/\(a==sysModules)=false/\∃vs,KV kvs vs/\h.DictOf (eX P w) a vs:=Vr ok (.inl e)
theorem IW (ok:bZ P w H h)(e:H a=some (.tup (ks.map kV))):(tupleKind (eX P w)).is h ks a:=by
 obtain⟨_,its,r,o,h1,h2,n,h3⟩:=(show cH P w H h a (.tup (ks.map kV)) from ok a _ e);exact⟨o,its.toArray,n,h1,h2,h3,by simpa using Iz r⟩
theorem HF (ok:bZ P w H h)(e:Rd H a (.dT kvs)):kvs.length<=sizeLine/\(a==sysModules)=false/\
    ∃xs,KT H kvs xs/\h.DictOfH (tupleKind (eX P w)) a xs:=by
  obtain⟨z,y,xs,r,o,es,ep,h1,h2,h3,h4,h5⟩:=(show cH P w H h a (.dT kvs) from Q6 ok e);refine⟨z,y,xs,r,o,es,ep,h1,h2,h3,h4,fun x hx=>?_,h5⟩;have all:∀{l:List (List Key×V)} {m:List (List Key×Addr×Value)},KT H l m->∀x∈m,(tupleKind (eX P w)).is h x.1 x.2.1:=by
    intro l m q
    induction q with
    |nil=>intro x hx;exact nomatch hx
    | @cons p q ps qs hq t ih=>
      intro x hx;rcases xaq.mp hx with e |hx
      · subst e;exact IW ok (by rw[<-hq.1];exact hq.2.1)
      · exact ih x hx
  exact all r x hx
theorem HD (ok:bZ P w H h)(e:H a=some (.dT kvs)):kvs.length<=sizeLine/\(a==sysModules)=false/\
  ∃xs,KT H kvs xs/\h.DictOfH (tupleKind (eX P w)) a xs:=HF ok (.inl e)
end
def Uc (H:Hp)(a:Addr)(y:V)(r:Option V):Prop:=
 (∃kvs k,Rd H a (.dK kvs)/\y=kV k/\r=bx kvs k)\/∃kvs k b,Rd H a (.dT kvs)/\y=.ref b/\H b=some (.tup (k.map kV))/\r=bx kvs k
def lU (H:Hp)(a:Addr)(y v:V)(H':Hp):Prop:=
 (∃kvs k,H a=some (.dK kvs)/\y=kV k/\kvs.length<sizeLine/\H'=upd H a (.dK (putK kvs k v)))\/
 ∃kvs k b,H a=some (.dT kvs)/\y=.ref b/\H b=some (.tup (k.map kV))/\kvs.length<sizeLine/\H'=upd H a (.dT (putK kvs k v))
theorem lU.t {H:Hp}{a b:Addr}{kvs:List (List Key×V)}{k:List Key}{v:V}(e:H a=some (.dT kvs))(eb:H b=some (.tup (k.map kV)))(hl:kvs.length<sizeLine):
  lU H a (.ref b) v (upd H a (.dT (putK kvs k v))):=.inr ⟨kvs,k,b,e,rfl,eb,hl,rfl⟩
section
variable {X:Cx}{pins:Pnx}{σ:St}{H:Hp}{s:Shared}{a:Addr}{y v:V}{u r:Value}{o:Option V}{A:Around}{E:Value->Shared->Prop}
theorem Inv.big (I:Inv X pins σ H s):sysModules<s.heap.objs.size:=by
 have h:mainGlobals<s.heap.objs.size:=(I.mod.glob.keeps I.bk).lt;exact Nat.lt_trans (by decide) h
theorem Dc (I:Inv X pins σ H s)(mu:yM (H a))(hs:Heap.SameBut a s.heap h')(he:∃q,h'.get? a=some q)(new:cH X.prog X.w (upd H a ob) h' a ob):
  Inv X pins σ (upd H a ob) {s with heap:=h',toks:=t'}:=
 I.write (x:=a) (e:=a) mu (.inl rfl) (fun b q hb z=>(hs.2 b hb).trans z) he new
theorem Vp (z:kvs.length<=sizeLine)(hd:(a==sysModules)=false)(rel:KV kvs vs)(dd:h'.DictOf (eX P w) a vs):
  cH P w H' h' a (.dK kvs):=⟨z,hd,vs,rel,dd⟩
theorem Vn (hu:A.units + 1<cLine)(I:Inv X pins σ H s)(g:lU H a y v H')(ry:RelV y u)(rv:RelV v r)(h:∀s',Inv X pins σ H' s'->Q () s'):
  wpAny (model X.prog X.w) A (setItem (.ref a) u r) Q E s:=by
 rcases g with⟨kvs,k,e,ey,l,eH⟩ |⟨kvs,k,b,e,ey,eb,l,eH⟩
 ·subst ey eH;obtain⟨z,hd,vs,rel,dd⟩:=Vq I.hok e;have hz:vs.length<=sizeLine:=by rw[<-rel.length];exact z
  have hl:(putK kvs k v).length<=sizeLine:=by have:=Jc kvs k v;lia
  refine wpAny_setItem_pairs (hsz:=hz) (Pk ry) dd fun h' dd' hs=>h _ ?_;have he:∃q,h'.get? a=some q:=let ⟨q,_,_,hq,_⟩:=dd';⟨q,hq⟩
  exact Dc I (by rw[e];exact True.intro) hs he (Vp hl hd (rel.put k rv) dd')
 ·subst ey eH;cases (show u=Value.ref b from ry);obtain⟨z,hd,xs,rel,dd⟩:=HD I.hok e;have hz:xs.length<=sizeLine:=by rw[<-xbr rel];exact z
  have hl:(putK kvs k v).length<=sizeLine:=by have:=Jc kvs k v;lia
  refine wpAny_setItem_heap (hsz:=hz) (xcB hu) (IW I.hok eb) dd fun h' dd' hs=>h _ ?_;obtain⟨q,es,ep,hq,h2,h3,h4,_,h5⟩:=dd';refine Dc I (by rw[e];exact True.intro) hs ⟨q,hq⟩ ⟨hl,hd,_,(rel.put k eb rv).keeps fun c ys ec=>?_,q,es,ep,hq,h2,h3,h4,h5⟩;rw[aW (D_ ec e (fun z=>nomatch z))]
  exact ec
end
def tZ (i:Expr):Prop:=∀ov iv,subscripted i false ov iv=operate [ov,iv] (getItem ov iv)
theorem zbA {prog:Program}{w:World}{A:Around}{E:Value->Shared->Prop}{s:Shared}{env:Env}{value slice:Expr}{pos:Pos}{T id:String}{Q:Value->Shared->Prop}
  (hl:typeLookup (.type T) "__getitem__"=pure (some (.builtin id))) (hs:tZ slice)
  (h:wpAny (model prog w) A (eval value env) (fun o s₁=>wpAny (model prog w) A (eval slice env) (fun i s₂=>s₂.TypeIs o T/\wpAny (model prog w) A (getItem o i) Q E s₂) E s₁) E s):
  wpAny (model prog w) A (eval (.Subscript value slice pos) env) Q E s:=by
 refine Subscript_ (xa4 h (fun o s₁ h₁=>xa4 h₁ (fun i s₂ h₂=>?_) fun _ _ x=>x) fun _ _ x=>x);obtain⟨hT,h₂⟩:=h₂;unfold subscriptTail;refine xaa ?_;rw[getitemInPython_of_ne hT.not_modules];refine xaa (xet hT hl ?_);have fin:wpAny (model prog w) A (subscripted slice false o i) (fun r s₃=>wpAny (model prog w) A (letTemporaryGo value o r >>=fun _=>pure r) Q E s₃) E s₂:=by
  rw[hs o i];exact wpAny_operating (xa4 h₂ (fun r s₃ h₃=>xaa (wpAny_letTemporaryGo (xab h₃))) fun _ _ x=>x)
 first
  |exact xab (xaa fin)
  |exact xaa (xab (xaa fin))
  |exact xaa fin
noncomputable def zeA (td ty tv:TE):TS:=fun D σ H=>tv σ H fun v H1=>td σ H1 fun x H2=>ty σ H2 fun y H3=>∃a H4,x=.ref a/\lU H3 a y v H4/\D.nx σ H4
section
variable {X:Cx}{o i e value:Expr}{pos pos' tpos:Pos}{td ty tv:TE}
theorem zb5 (hu:X.A.units + 1<cLine)(ho:PE X o td)(hi:PE X i ty)(hv:PE X value tv)(hs:swapsWith value (some (.Subscript o i pos')) pos.line X.env=pure false):
  PS X (.Assign [.Subscript o i pos'] value pos) (zeA td ty tv):=by
 intro pins s σ H D I h;refine wpAny_Assign_Subscript (aN (hv pins s σ H _ I h) fun r s1 ⟨v,H1,I1,rv,q1⟩=>aN (ho pins s1 σ H1 _ I1 q1) fun u s2 ⟨x,H2,I2,rx,q2⟩=>aN (hi pins s2 σ H2 _ I2 q2) fun iv s3 ⟨y,H3,I3,ry,a,H4,ex,g,q3⟩=>?_) hs;subst ex;obtain rfl:u=Value.ref a:=rx;exact Vn hu I3 g ry rv fun s4 I4=>⟨σ,H4,I4,q3⟩
end
noncomputable def zeJ (kvs more:List (Key×V)):List (Key×V):=more.foldl (fun acc kv=>putK acc kv.1 kv.2) kvs
structure M1 (X:Cx)(o:Expr)(m:Str)(apos:Pos)(e:Expr)(cpos:Pos):Prop where
 base:attributeBase o m X.env (eval o X.env)=eval o X.env
 few : ((backTo cpos (starEach [e] X.env)).all (fun x=> !x.1) && (backToKw cpos (keywordEach [] X.env)).all (fun x=>x.1.isSome)
  && decide (([e]:List Expr).length + ([]:List Keyword).length + (if ([]:List Keyword).isEmpty then 0 else 1)<30))=true
 line:(apos.endLine==cpos.line)=true
 trees:backTo cpos (starEach [e] X.env)=[(false,eval e X.env)]
structure M2 (X:Cx)(o:Expr)(m:Str)(apos:Pos)(e f:Expr)(cpos:Pos):Prop where
 base:attributeBase o m X.env (eval o X.env)=eval o X.env
 few : ((backTo cpos (starEach [e,f] X.env)).all (fun x=> !x.1) && (backToKw cpos (keywordEach [] X.env)).all (fun x=>x.1.isSome)
  && decide (([e,f]:List Expr).length + ([]:List Keyword).length + (if ([]:List Keyword).isEmpty then 0 else 1)<30))=true
 line:(apos.endLine==cpos.line)=true
 trees:backTo cpos (starEach [e,f] X.env)=[(false,eval e X.env),(false,eval f X.env)]
end L2
namespace Att
open PySem PySem.W PySem.Calls PyProof.Rows
end Att
namespace L2
open PySem PySem.Spec PyProof.Rows
theorem zat:∀{us:List Value},Vals (ys.map V.str) us->StrsAre us ys:=by
  induction ys with
  |nil=>intro us r;rw[xcr]at r;cases r;exact .nil
  |cons n ns ih=>
    intro us r;rw[xak]at r
    cases r with
    |cons r1 r2=>
      obtain⟨t,e⟩:=r1;subst e;exact .cons n t (ih r2)
section
variable {X:Cx}
def rJoin (K:Fgx):V->List V->Hp->VK->Prop:=fun x vs H Q=>∃z l ys,x=.str z/\vs=[.ref l]/\bI K H l (ys.map V.str)/\z.length<=16/\(ys.map (·.length)).sum + ys.length<=1048576/\Q (.str (Txt.join z ys)) H
theorem X8:yL X "str.join" (rJoin X.K):=by
 intro pins s σ H x vs v us Q I rx rv h;obtain⟨z,l,ys,rfl,rfl,hq,h1,h2,q⟩:=h;obtain⟨t,rfl⟩:=rx;obtain⟨u,rfl,ru⟩:=rv.one;cases ru;obtain⟨its,r,pl,hz⟩:=I.list hq;exact join_listW pl.isList (by simpa using zat r) h1 h2 fun t' k=>⟨.str _,H,I.tok _,⟨_,rfl⟩,q⟩
def J8:V->Option Int->Option Int->Hp->VK->Prop:=fun x lo hi H Q=>∃z,x=.str z/\z.length<=sizeLine/\Q (.str (Txt.slice z lo hi)) H
theorem zdg:rO X J8:=by
 intro pins s σ H x v vl vu lo hi sl Q I rx hs pl pu h;obtain⟨z,rfl,hz,q⟩:=h;obtain⟨t,rfl⟩:=rx;refine⟨"str",_,F.slot_str_getitem.lookup,typeIs_str _ _ _,?_⟩;obtain⟨o,ho,hc,hd⟩:=hs;cases pl<;>cases pu
 ·exact xcz (l:=none) (u:=none) (st:=none) ⟨o,ho,hc,hd⟩ rfl (xdD ⟨xay (xec z none none) hz,fun t' k=>⟨.str _,H,I.tok _,⟨_,rfl⟩,q⟩⟩)
 ·rename_i j uj;exact xcz (l:=none) (u:=some (j,uj)) (st:=none) ⟨o,ho,hc,hd⟩ rfl (xdD ⟨xay (xec z none (some j)) hz,fun t' k=>⟨.str _,H,I.tok _,⟨_,rfl⟩,q⟩⟩)
 ·rename_i i ui;exact xcz (l:=some (i,ui)) (u:=none) (st:=none) ⟨o,ho,hc,hd⟩ rfl (xdD ⟨xay (xec z (some i) none) hz,fun t' k=>⟨.str _,H,I.tok _,⟨_,rfl⟩,q⟩⟩)
 ·rename_i i ui j uj;exact xcz (l:=some (i,ui)) (u:=some (j,uj)) (st:=none) ⟨o,ho,hc,hd⟩ rfl (xdD ⟨xay (xec z (some i) (some j)) hz,fun t' k=>⟨.str _,H,I.tok _,⟨_,rfl⟩,q⟩⟩)
theorem Zi:bU X (compareOp .Is) (fun x y H Q=>∃b,y=.bl b/\Q (.bl (decide (x=.bl b))) H):=by
 intro pins s σ H x y v u Q I rx ry h;obtain⟨b,rfl,q⟩:=h;cases ry
 cases x with
 |bl c=>cases rx;exact xab (bA I q (by cases b<;>cases c<;>rfl))
 |non=>cases rx;exact xab (bA I q (by simp))
 |int _=>obtain⟨t,rfl⟩:=rx;exact xab (bA I q (by simp))
 |str _=>obtain⟨t,rfl⟩:=rx;exact xab (bA I q (by simp))
 |byt _=>obtain⟨t,rfl⟩:=rx;exact xab (bA I q (by simp))
 |flt _=>obtain⟨t,rfl⟩:=rx;exact xab (bA I q (by simp))
 |ref _=>cases rx;exact xab (bA I q (by simp))
 |ty _=>cases rx;exact xab (bA I q (by simp))
theorem Zk:bU X (compareOp .IsNot) (fun x y H Q=>∃b,y=.bl b/\Q (.bl (!decide (x=.bl b))) H):=by
 intro pins s σ H x y v u Q I rx ry h;obtain⟨b,rfl,q⟩:=h;cases ry
 cases x with
 |bl c=>cases rx;exact xab (bA I q (by cases b<;>cases c<;>rfl))
 |non=>cases rx;exact xab (bA I q (by simp))
 |int _=>obtain⟨t,rfl⟩:=rx;exact xab (bA I q (by simp))
 |str _=>obtain⟨t,rfl⟩:=rx;exact xab (bA I q (by simp))
 |byt _=>obtain⟨t,rfl⟩:=rx;exact xab (bA I q (by simp))
 |flt _=>obtain⟨t,rfl⟩:=rx;exact xab (bA I q (by simp))
 |ref _=>cases rx;exact xab (bA I q (by simp))
 |ty _=>cases rx;exact xab (bA I q (by simp))
theorem range_all (bs:List Bool):(List.range bs.length).all (fun i=>(bs[i]?).getD false)=bs.all id:=by
 rw[xbP,xbm,xbm]
 constructor
 ·intro h b hb;obtain⟨i,hi,e⟩:=List.mem_iff_getElem.mp hb;have:=h i (xbO.mpr hi);rw[xar hi,e]at this;exact this
 ·intro h i hi;have hi':=xbO.mp hi;rw[xar hi'];exact h _ (xcT hi')
theorem Uv {bs:List Bool}{its:List Value}(r:Vals (bs.map V.bl) its){i:Nat}{v:Value}(h:its.toArray[i]? =some v):v=.bool ((bs[i]?).getD false):=by
 have h':its[i]? =some v:=by simpa using h
 have hl:=r.length;rw[xae]at hl;have hi:i<bs.length:=by
  have:=(xai.mp h').1;lia
 have hx:(bs.map V.bl)[i]? =some (V.bl bs[i]):=by rw[xaw,xar hi];rfl
 obtain⟨u,hu,ru⟩:=r.get hx;rw[h']at hu;cases hu;rw[xar hi];exact ru
theorem Uy (hc:X.calm=true):c7 X (.builtin "all") (fun xs H Q=>∃(p:Addr) (bs:List Bool),xs=[.ref p]/\bI X.K H p (bs.map V.bl)/\Q (.bl (bs.all id)) H):=by
 intro pins s σ H xs us Q I r h;obtain⟨p,bs,rfl,hq,q⟩:=h;obtain⟨u,rfl,ru⟩:=vals1 r;cases ru;obtain⟨its,rv,pl,hz⟩:=I.list hq;have hp:p<s.heap.objs.size:=by obtain⟨o,ho,_⟩:=pl.isList;exact xao ho
 have hn:its.toArray.size=bs.length:=by rw[xan, <-rv.length,xae]
 refine call_all_walk (wpAny_pyIter_list pl.isList ⟨s.heap.objs.size,_,_,its.toArray.size,_,_,fun i=>(bs[i]?).getD false,rfl,Walks.list (A:=X.A.in1) (show X.A.in1.handled=none from I.ok.hd hc) _ p (xaI hp) its.toArray,
  ⟨⟨_,xau _ rfl,rfl,rfl⟩,pl.isList.at fun o e=>xag _ e⟩,fun i v s' Q' E' hv hQ=>?_,fun h' tk kk=>?_⟩)
 ·rw[Uv rv hv];exact xcJ hQ
 ·rw[hn,range_all];refine⟨.bl _,H,I.kept fun b o e=>kk b o ?_ (xag _ e),rfl,q⟩;intro z;have z':b=s.heap.objs.size:=by simpa using z
  exact xbT _ (z' ▸ xao e)
end
section
variable {X:Cx}{pins:Pnx}{σ:St}{H:Hp}{s:Shared}
noncomputable def Ah (base h:Heap) (L:Addr):Pnx:=(List.range h.objs.size).filterMap fun b=>if b=L then none else if (base.get? b).isSome then none else(h.get? b).map fun o=>(b,o)
theorem Qe (hL:b≠L)(hb:base.get? b=none)(e:h.get? b=some o):(b,o)∈Ah base h L:=by
 unfold Ah;rw[xc3];refine⟨b,xbO.mpr (xao e),?_⟩;rw[xad hL,hb,e]
 simp
theorem YW (hp:p∈Ah base h L):h.get? p.1=some p.2/\p.1≠L/\base.get? p.1=none:=by
  unfold Ah at hp;rw[xc3]at hp;obtain⟨b,_,e⟩:=hp
  by_cases hL:b=L
  · rw[xac hL]at e;cases e
  · rw[xad hL]at e
    cases hb:base.get? b with
    |some u=>rw[hb]at e;simp at e
    |none=>
      rw[hb]at e
      cases hh:h.get? b with
      |none=>rw[hh]at e;simp at e
      |some u=>
        rw[hh]at e
        simp at e
        subst e;exact⟨hh,hL,hb⟩
theorem Inv.but (I:Inv X pins σ H s)(k:∀b o,b≠X.env.locals->s.heap.get? b=some o->h'.get? b=some o)(ns:∀m,s.heap.Ns X.env.locals m->h'.Ns X.env.locals m):Inv X pins σ H {s with heap:=h',toks:=tk}:=by
 have hok : bZ X.prog X.w H h' := fun a o e => (I.hok a o e).stay (fun b u hb q => k b u (fun z=>by
  subst z;have hn:=I.free;rcases hb with hb |hb
  ·rw[<-hb]at e;rw[hn]at e;cases e
  ·rw[hn]at hb;cases hb) q) (fun _ q=>q) fun _ _ q=>q
 exact I.step (g' := s.gens) (d' := s.drawn) (ch := []) (fun _ z => nomatch z) (fun b o hL _ _ e _ => k b o hL e) (fun b o hL _ _ e _ => ⟨o.slots, k b o hL e⟩) (fun b o _ _ n => n) (fun b o _ e=>by
  by_cases hL:b=X.env.locals
  ·subst hL;obtain⟨m,hn,_⟩:=I.loc;obtain⟨o',_,_,e',_⟩:=ns m hn;exact⟨o',e'⟩
  ·exact⟨o,k b o hL e⟩) (fun _ _ q=>q) (fun _ _ _ q=>q) (fun _ ps q=>⟨#[],by simpa using q⟩) ns hok I.bare
theorem Inv.via (I:Inv X pins σ H s):∃m news,Fr X.base X.env.locals s.heap m/\News X.base X.env.locals s.heap news/\
    (∀b o,b≠X.env.locals->X.base.get? b=none->s.heap.get? b=some o->(b,o)∈news)/\
    ∀(h':Heap) (tk:Nat),Fr X.base X.env.locals h' m->News X.base X.env.locals h' news->(∀b o,b≠X.env.locals->s.heap.get? b=some o->h'.get? b=some o)/\Inv X pins σ H {s with heap:=h',toks:=tk}:=by
  obtain⟨m,F⟩:=I.fr;refine⟨m,Ah X.base s.heap X.env.locals,F,fun p hp=>YW hp,fun b o hL hb e=>Qe hL hb e,fun h' tk F' N'=>?_⟩;have k:∀b o,b≠X.env.locals->s.heap.get? b=some o->h'.get? b=some o:=fun b o hL e=>by
    cases hb:X.base.get? b with
    |some u=>
      have e1:=I.bk b u hb;rw[e]at e1;cases e1;exact F'.keep b o hb
    |none=>exact(N' (b,o) (Qe hL hb e)).1
  refine⟨k,I.but k fun m' hm=>?_⟩;have:m'=m:=by
    obtain⟨o,es,ep,e,d,_,f⟩:=hm;obtain⟨o',es',ep',e',d',_,f'⟩:=F.ns;rw[e]at e';cases e';rw[d]at d';cases d';funext x;rw[<-f x, <-f' x]
  subst this;exact F'.ns
theorem Im:∀{us:List Value},Vals (ns.map V.int) us->IntsAre us ns:=by
  induction ns with
  |nil=>intro us h;cases us with
    |nil=>exact .nil
    |cons u us=>cases h
  |cons n ns ih=>intro us h;cases us with
    |nil=>cases h
    |cons u us=>
      cases h with
      |cons a b=>
        obtain⟨t,rfl⟩:=a;exact .cons _ _ (ih b)
theorem U7:X.calm=true->c7 X (.builtin "sum") (fun xs H Q=>∃(p:Addr) (is:List Int),xs=[.ref p]/\bI X.K H p (is.map V.int)/\Q (.int is.sum) H):=by
 intro hc pins s σ H xs us Q I r h;obtain⟨p,is,rfl,hq,q⟩:=h;obtain⟨u,rfl,rx⟩:=vals1 r;cases rx;obtain⟨its,rv,pl,hz⟩:=I.list hq;obtain⟨m,news,F,N,_,back⟩:=I.via;refine LSm.sum_ints F N (I.ok.hd hc) pl.isList (Im rv) fun h' tk t' F' N'=>?_;exact⟨.int is.sum,H,(back h' tk F' N').2,⟨t',rfl⟩,q⟩
end
theorem zaO:typeLookup (Value.type "list_reverseiterator") (Str.ofString "__len__")=pure none:=by
 rw[typeLookup_type,builtinLookup_eq_fast];kernel_rfl
theorem zcd:typeLookup (Value.type "list_reverseiterator") (Str.ofString "__length_hint__")=pure (some (Value.builtin "list_reverseiterator.__length_hint__")):=by
 rw[typeLookup_type,builtinLookup_eq_fast];kernel_rfl
section
variable {prog:Program}{w:World}{A:Around}{s:Shared}
theorem zci (hT:s.TypeIs (.ref I) "list_reverseiterator")(h:Q false s):wpAny (model prog w) A (Builtin.List.listLengthHint (.ref I)) Q E s:=by
 unfold Builtin.List.listLengthHint;refine xaa (xet hT zaO ?_);refine xaa (xet hT zcd ?_);have hs:splitId "list_reverseiterator.__length_hint__"=some ("list_reverseiterator","__length_hint__"):=by kernel_rfl
 simp only[hs];refine xaa (xed hT (b:=true) (by kernel_rfl) ?_);rw[xad (by decide),xac (by kernel_rfl),xad (by decide)];exact xab h
theorem zaT {R:Result->Shared->Prop}{I:Addr}{fp wr:List Addr}{G:Array GenState->Array GenState->Prop}{n:Nat}{P:Nat->Value->Prop}{St:Nat->Shared->Prop}(W:WalksS prog w A.in1 I fp wr G n P St)(hT:∀i s,St i s->s.TypeIs (.ref I) "list_reverseiterator")
  (S:Addr) (res:Value) (c₀:Nat) (hst:St 0 s) (hSf:S∉fp) (hI:I∈fp) (hS:s.heap.get? S=some {cls:=.type "list",data:=.seq #[] c₀})
  (hR:∀(s':Shared) (acc':Array Value) (c':Nat),Moved (S::wr) G s s'->s'.heap.get? S=some {cls:=.type "list",data:=.seq acc' c'}->ItemsOf P acc' n->R (.ok (.ret res)) s') (hn:n<=sizeLine):
  wpAny (model prog w) A.in1 (Builtin.List.listExtendWith (.ref S) (.ref I) res) (fun fin s'=>match fin with
   |.done f=>R (.ok f) s'
   |.again c'=>c'.quiet=true/\codeAny (model prog w) A c' R s') (fun e s'=>R (.error e) s') s:=by
 have hSI:S≠I:=fun e=>hSf (e ▸ hI);unfold Builtin.List.listExtendWith;refine xaa (wpAny_typeOf (hT 0 s hst) ?_);have h1:Builtin.List.listSameRef (.ref S) (.ref I)=false:=by
  show(S==I)=false
  simpa using hSI
 rw[xad (by rw[h1];decide)];refine xaa (W.self 0 s _ _ hst ?_);refine xaa (xbs (zci (hT 0 s hst) ?_));rw[xad (by x_go)];exact xab ⟨plainId_quiet F.plain_extend_loop {pos:=[.ref S,.ref I,res]},codeAny_extend_loopS W hn S hSf res n 0 s #[] c₀ (Nat.sub_zero n) (xa0 n) hst hS ⟨rfl,fun i v h=>by simp at h⟩ hR⟩
theorem zbO {R:Result->Shared->Prop}{I:Addr}{fp wr:List Addr}{G:Array GenState->Array GenState->Prop}{n:Nat}{P:Nat->Value->Prop}{St:Nat->Shared->Prop}(W:WalksS prog w A.in1 I fp wr G n P St)(hT:∀i s,St i s->s.TypeIs (.ref I) "list_reverseiterator")
  (S:Addr) (hst:St 0 s) (hSf:S∉fp) (hI:I∈fp) (hS:s.heap.get? S=some {cls:=.type "list",data:=.seq #[]})
  (hR:∀(s':Shared) (acc':Array Value) (c':Nat),Moved (S::wr) G s s'->s'.heap.get? S=some {cls:=.type "list",data:=.seq acc' c'}->ItemsOf P acc' n->R (.ok (.ret .none)) s') (hn:n<=sizeLine):
  wpAny (model prog w) A.in1 (Builtin.«list.__init__» { pos := [.ref S, .ref I] }) (fun fin s'=>match fin with
   |.done f=>R (.ok f) s'
   |.again c'=>c'.quiet=true/\codeAny (model prog w) A c' R s') (fun e s'=>R (.error e) s') s:=by
 unfold Builtin.«list.__init__»;refine xaa (xaa (wpAny_seqItems hS rfl (xab (xaa (wpAny_updateSeq hS rfl ?_ (by simp) (by simp))))));have hS₂:=xbH (Obj.mapSeq fun _=> #[]) hS rfl;have oth:∀b o,b≠S->s.heap.get? b=some o->(s.heap.update S (Obj.mapSeq fun _=> #[])).get? b=some o:=fun b o hb e=>(xa2 s.heap (Obj.mapSeq fun _=> #[]) (xbx hb)).trans e;refine xaa (wpAny_letGo ?_);exact zaT W hT S .none _ (W.frame 0 s _ s.toks hst (xaf _) fun b hb o e=>oth b o (fun h=>hSf (h ▸ hb)) e) hSf hI hS₂ (fun s' acc' c' hm hS' hacc=>hR s' acc' c' (Moved.trans W.gtrans (Moved.then_heap (Moved.refl W.grefl) (xaf _) fun b o hb e=>oth b o (fun h=>hb (h ▸ xaz)) e) hm) hS' hacc) hn
theorem zbQ {E:Value->Shared->Prop}{I:Addr}{fp wr:List Addr}{G:Array GenState->Array GenState->Prop}{n:Nat}{P:Nat->Value->Prop}{St:Nat->Shared->Prop}{Q:Value->Shared->Prop}(W:WalksS prog w A.in1.in1 I fp wr G n P St)(hT:∀i s,St i s->s.TypeIs (.ref I) "list_reverseiterator")
  (hst:St 0 s) (hfp:∀b∈fp,b<s.heap.objs.size) (hI:I∈fp)
  (hQ:∀(s':Shared) (acc':Array Value) (c':Nat),Moved (s.heap.objs.size::wr) G {s with heap:=s.heap.push {cls:=.type "list",data:=.seq #[]}} s'->s'.heap.get? s.heap.objs.size=some {cls:=.type "list",data:=.seq acc' c'}->ItemsOf P acc' n->Q (.ref s.heap.objs.size) s') (hn:n<=sizeLine):
  wpAny (model prog w) A (call (.type "list") [.ref I]) Q E s:=by
 have hSf:s.heap.objs.size∉fp:=fun hm=>xbT _ (hfp _ hm);refine callType_codes F.called_list (F.typeCall_list_1 (.ref I)) F.entry_list_init (Q₁:=fun obj s₁=>obj=.ref s.heap.objs.size/\s₁={s with heap:=s.heap.push {cls:=.type "list",data:=.seq #[]}}) (code_list_new (.ref I) ⟨rfl,rfl⟩) fun obj s₁ h₁=>?_;obtain⟨rfl,rfl⟩:=h₁;have hS:=xau s.heap (o:={cls:=.type "list",data:=.seq #[]}) rfl;exact⟨⟨_,hS,rfl⟩,F.args_list_init_2 _ _,zbO W hT _ (W.frame 0 s _ s.toks hst (xaf _) fun b _ o e=>xag _ e) hSf hI hS (fun s' acc' c' hm hS' hacc=>⟨rfl,hQ s' acc' c' hm hS' hacc⟩) hn⟩
end
section
variable {X:Cx}
theorem za8:∀{xs:List V} {its:List Value},Vals xs its->∀acc:Array Value,acc.size=its.length->(∀j v,acc[j]? =some v->its[its.length - 1 - j]? =some v)->Vals xs.reverse acc.toList:=by
  intro xs its r acc hs h;have e:acc.toList=its.reverse:=by
    apply xdi;intro j
    by_cases hj:j<its.length
    · have h1:acc[j]? =some acc[j]:=xbd (by lia);have h2:=h j _ h1;rw[xbi,h1,List.getElem?_reverse hj];exact h2.symm
    · rw[xbV (by simpa using by lia),xbV (by simpa using by lia)]
  rw[e];clear h hs e
  induction r with
  |nil=>exact .nil
  |cons a t ih=>
    rw[xcK,xcK];exact ih.append (.cons a .nil)
theorem ZS (hc:X.calm=true)(hgl:Gl X "list")(hml:X.mg "list"=none)(hg:Gl X "reversed")(hm:X.mg "reversed"=none)(he:PE X e te)(hs:starEach [e] X.env=[(false,eval e X.env)]):
    PE X (.Call (.Name "list" p1) [.Call (.Name "reversed" p) [e] [] pos] [] pos1) (fun σ H Q=>te σ H fun v H1=>∃a xs,[v]=[.ref a]/\bI X.K H1 a xs/\∀l,H1 l=none->Q (.ref l) (upd H1 l (.lst xs.reverse))):=by
  intro pins s σ H Q I h;have hA:PA X [e] (Td te xg):=lF he nJ hs;refine Call_ (yj I hgl hml boot_list (xcb ?_ rfl rfl));show wpAny _ _ (spliced [(false,eval (.Call (.Name "reversed" p) [e] [] pos) X.env)]) _ _ s;refine Calls.spliced_cons ?_;refine Call_ (yj I hg hm boot_reversed (xcb (aN (hA pos pins s σ H (fun vs H1=>∃a xs,vs=[.ref a]/\bI X.K H1 a xs/\∀l,H1 l=none->Q (.ref l) (upd H1 l (.lst xs.reverse))) I ?_) fun us s1 ⟨vs,H1,I1,r1,q1⟩=>?_) hs rfl))
  · exact h
  · obtain⟨b,xs,e0,hq,q⟩:=q1;subst e0;obtain⟨u,e1,ru⟩:=vals1 r1;subst e1;cases ru;obtain⟨its,rv,pl,hz⟩:=I1.list hq;refine call_reversed_list pl.isList ?_;refine Calls.spliced_nil ?_;have hp:b<s1.heap.objs.size:=by obtain⟨o,ho,_⟩:=pl.isList;exact xao ho
    have hneq:b≠s1.heap.objs.size:=xaI hp;have hz':(s1.heap.push (revObj b (↑its.toArray.size - 1))).objs.size=s1.heap.objs.size + 1:=by simp[Heap.push]
    have W:=(Walks.listRev (prog:=X.prog) (w:=X.w) (A:=X.A.in1.in1) (I1.ok.hd hc) s1.heap.objs.size b hneq its.toArray);refine zbQ W.toS ?_ ?_ ?_ ?_ ?_ ?_
    · rintro i s' ⟨_,⟨o,ho,hcl,_⟩,_⟩;exact⟨o,ho,hcl⟩
    · refine⟨xa0 _,⟨_,xau _ rfl,rfl,?_⟩,pl.isList.at fun o e=>xag _ e⟩
      simp[revObj]
    · intro c hcm;show c<(s1.heap.push (revObj b (↑its.toArray.size - 1))).objs.size;rw[hz'];rcases xaq.mp hcm with z |z
      · rw[z];exact xbg _
      · have z':c=b:=by simpa using z
        rw[z'];exact xe3 hp
    · exact xaz
    · intro s' acc' c' hmv hS hit;have ea:(s1.heap.push (revObj b (↑its.toArray.size - 1))).objs.size=s1.heap.objs.size + 1:=hz';have kp:∀c o,s1.heap.get? c=some o->s'.heap.get? c=some o:=fun c o ec=>by
        have hlt:=xao ec;refine hmv.heap c o (fun z=>?_) (xag _ (xag _ ec));rcases xaq.mp z with z |z
        · have z':c=(s1.heap.push (revObj b (↑its.toArray.size - 1))).objs.size:=z;rw[z',ea]at hlt;exact absurd hlt (xeL.mpr (xcp _))
        · have z':c=s1.heap.objs.size:=by simpa using z
          rw[z']at hlt;exact absurd hlt (xbT _)
      have es:s'={s1 with heap:=s'.heap,toks:=s'.toks}:=by
        obtain⟨h0,g0,d0,t0,o0⟩:=s';have e1:g0=s1.gens:=hmv.gens;have e2:d0=s1.drawn:=hmv.drawn;have e3:o0=s1.os:=hmv.os;subst e1 e2 e3;rfl
      have hS':s'.heap.get? (s1.heap.objs.size + 1)=some {cls:=.type "list",data:=.seq acc' c'}:=ea ▸ hS;have rv':Vals xs.reverse acc'.toList:=za8 rv acc' (by rw[hit.1,xan]) fun j v hj=>by
        have:=hit.2 j v hj
        simpa using this
      have hfr:H1 (s1.heap.objs.size + 1)=none:=I1.hok.fresh (xcp _);show EP X pins σ Q (Value.ref (s1.heap.push (revObj b (↑its.toArray.size - 1))).objs.size) s';rw[ea];have I2:=I1.laid (t':=s'.toks) (o:=.lst xs.reverse) kp (xcp _) (show cH X.prog X.w _ s'.heap (s1.heap.objs.size + 1) (.lst xs.reverse) from⟨by rw[xcv];exact hz,acc'.toList,c',rv',by simpa using hS'⟩);rw[<-es]at I2;exact⟨.ref (s1.heap.objs.size + 1),_,I2,rfl,q _ hfr⟩
    · have:=rv.length;rw[xan, <-this];exact hz
end
section
variable {X:Cx}{pins:Pnx}{σ:St}{H:Hp}{s:Shared}
theorem MP:c7 X (.type "int") (fun xs H Q=>∃z n,xs=[.str z]/\intText? z=some n/\z.length<=640/\Q (.int n) H):=by
 intro pins s σ H xs us Q I r h;obtain⟨z,n,rfl,h1,h2,q⟩:=h;obtain⟨u,rfl,t,rfl⟩:=vals1 r;exact W.KIN.call_text h1 h2 ⟨.int n,H,I.tok _,⟨_,rfl⟩,q⟩
end
section
variable {X:Cx}{pins:Pnx}{σ:St}{H:Hp}{s:Shared}{h':Heap}
theorem Inv.turnLaid {t':Nat}{fp:List Addr}{T:Addr}{o:HO}(I:Inv X pins σ H s)(k:∀b u,b∉fp->s.heap.get? b=some u->h'.get? b=some u)(hf:∀b∈fp,dY X pins H b)(hp:s.heap.objs.size<=T)(new:cH X.prog X.w (upd H T o) h' T o):
  Inv X pins σ (upd H T o) {s with heap:=h',toks:=t'}:=by
 have hn:H T=none:=I.hok.fresh hp;have neT:∀b u,s.heap.get? b=some u->b≠T:=fun b u e=>xaI (xap (xao e) hp);refine I.step (g':=s.gens) (d':=s.drawn) (ch:=fp) (fun b hb=>⟨(hf b hb).2.2.2.1,(hf b hb).2.1,(hf b hb).2.2.2.2.1,(hf b hb).2.2.2.2.2⟩) (fun b o _ _ hc e _=>k b o hc e) (fun b o _ _ hc e _=>⟨o.slots,k b o hc e⟩) (fun b u _ e n=>by rw[aW (neT b u e)];exact n)
  (fun b o hc e=>⟨o,k b o hc e⟩) (fun b xs e=>by rw[aW (j5 e hn)];exact e) (fun b u xs e=>by rw[aW (j5 e hn)];exact e) (fun b ps e=>⟨#[],by rw[aW (j5 e hn),e];simp⟩) (fun m hm=>?_) (fun b u e=>?_) I.bare
 ·obtain⟨o,es,ep,ho,r⟩:=hm;exact⟨o,es,ep,k _ o (fun z=>(hf _ z).2.1 rfl) ho,r⟩
 ·by_cases hb:b=T
  ·subst hb;rw[bJ]at e;cases e;exact new
  ·rw[aW hb]at e;refine(I.hok b u e).stay (fun c v hc q=>k c v (fun z=>?_) q) (fun c q=>by rw[aW (j5 q hn)];exact q) fun c xs q=>by rw[aW (j5 q hn)];exact q
   have hn':=(hf c z).1;rcases hc with y |y
   ·rw[y,e]at hn';cases hn'
   ·rw[y]at hn';cases hn'
end
abbrev TJ:=Str->St->Hp->VK->Prop
theorem Ot (g:α->β->β):∀(l:List α) (b:β),(∀x∈l,∀b,f x b=pure (.yield (g x b)))->(forIn l b f:Sem β)=pure (l.foldl (fun b x=>g x b) b)
  | [],b,_=>rfl
  |x::l,b,h=>by
    rw[List.forIn_cons,h x xaz b];simp only[pure_bind,xcf];exact Ot g l (g x b) fun y hy=>h y (xal _ hy)
noncomputable def ni (cells:List (Str×Addr)) (cs:List (Str×Addr)) (x:Str×NameKind):List (Str×Addr):=if x.2=.free then(x.1,(cells.lookup x.1).getD 0)::cs else cs
noncomputable def gC (cells:List (Str×Addr)) (names:List (Str×NameKind)):List (Str×Addr):=names.foldl (ni cells) []
theorem Nf (h:∀y∈scope.names,y.2=.free->∃c,env.cells.lookup y.1=some c):closureFor scope env=pure (gC env.cells scope.names):=by
 simp only [closureFor];rw [Ot (fun x cs => ni env.cells cs x) scope.names [] (fun x hx c=>by
  obtain⟨n,kind⟩:=x
  by_cases hk:kind=.free
  ·obtain⟨a,ha⟩:=h _ hx hk;subst hk;have ha':env.cells.lookup n=some a:=ha
   simp[cellOf,ha',ni]
  ·have hk':(kind==NameKind.free)=false:=by simpa using hk
   simp[hk',hk,ni])]
 rfl
theorem Nb:∀(names:List (Str×NameKind)) (acc:List (Str×Addr)),(∀y∈names,y.2=.free->∃c,cells.lookup y.1=some c)->
    (∀x c,acc.lookup x=some c->cells.lookup x=some c)->∀x c,(names.foldl (ni cells) acc).lookup x=some c->cells.lookup x=some c
  | [],_,_,h,x,c,e=>h x c e
  |(n,k)::r,acc,hc,h,x,c,e=>by
    rw[xcf]at e;refine Nb r _ (fun y hy=>hc y (xal _ hy)) ?_ x c e;intro y d hd;unfold ni at hd
    by_cases hk:k=.free
    · obtain⟨a,ha⟩:=hc (n,k) xaz hk;have ha':cells.lookup n=some a:=ha;simp only[hk,xbG,ha',Option.getD_some,xb9]at hd
      cases hyn:y==n with
      |true=>
        rw[hyn]at hd;have e2:=eq_of_beq hyn;subst e2;exact ha'.trans hd
      |false=>
        rw[hyn]at hd;exact h y d hd
    · simp only[hk,xbt]at hd;exact h y d hd
theorem Hr:∀(names:List (Str×NameKind)) (acc:List (Str×Addr)) (x:Str),((x,NameKind.free)∈names\/∃c,acc.lookup x=some c)->∃c,(names.foldl (ni cells) acc).lookup x=some c
  | [],acc,x,h=>by
    rcases h with h |h
    · exact absurd h (by simp)
    · exact h
  |(n,k)::r,acc,x,h=>by
    rw[xcf];refine Hr r _ x ?_;have keep:(∃c,acc.lookup x=some c)->∃c,(ni cells acc (n,k)).lookup x=some c:=fun⟨c,hc⟩=>by
      unfold ni
      by_cases hk:k=.free
      · simp only[hk,xbG,xb9]
        cases hxn:x==n with
        |true=>exact⟨_,rfl⟩
        |false=>exact⟨c,hc⟩
      · simp only[hk,xbt];exact⟨c,hc⟩
    rcases h with h |h
    · rcases xaq.mp h with h |h
      · cases h;refine .inr ?_;unfold ni;simp only[xbG,xb9,xbJ];exact⟨_,rfl⟩
      · exact .inl h
    · exact .inr (keep h)
noncomputable def fU (psc:Scope) (names:List (Str×NameKind)):List (Str×NameKind):=names.map fun(n,k)=>if (k==.free && psc.kind==.function && psc.names.lookup n==some .cell) then(n,.cell) else(n,k)
theorem Bf {psc:Scope}:∀{names:List (Str×NameKind)} {x:Str} {k':NameKind},(fU psc names).lookup x=some k'->(k'=.cell\/k'=.free)->(∀y∈names,y.2≠ .cell)->(x,NameKind.free)∈names
  | [],_,_,h,_,_=>by simp[fU]at h
  |(n,k)::r,x,k',h,hk,hn=>by
    have ih:= @Bf psc r x k';have h':List.lookup x ((if (k==NameKind.free && psc.kind==.function && psc.names.lookup n==some .cell)=true then(n,NameKind.cell) else(n,k))::fU psc r)=some k':=h
    cases hx:x==n with
    |true=>
      have e:=eq_of_beq hx;subst e
      by_cases hc:(k==NameKind.free && psc.kind==.function && psc.names.lookup x==some .cell)=true
      · have hkf:k=.free:=by
          cases k<;>first |rfl |(exfalso;simp at hc)
        rw[hkf];exact xaz
      · rw[xad hc]at h';simp only[xb9,xbJ]at h';have e2:k=k':=xaA h';subst e2;rcases hk with hk |hk
        · exact absurd hk (hn (x,k) xaz)
        · rw[hk];exact xaz
    |false=>
      refine xal _ (ih ?_ hk fun y hy=>hn y (xal _ hy))
      by_cases hc:(k==NameKind.free && psc.kind==.function && psc.names.lookup n==some .cell)=true
      · rw[xac hc]at h';simp only[xb9,hx]at h';exact h'
      · rw[xad hc]at h';simp only[xb9,hx]at h';exact h'
noncomputable def dG (cs:List (Str×Nat)) (σ:St):St:=cs.map fun p=>(σ[p.2]?).join
abbrev cJ (X:Cx)(Nc:List Str)(scope:Scope)(cl:List (Str×Addr))(C:Addr)(s₀:Shared)(H₀:Hp)(ex:List Addr)(pn:Pnx):Cx:=
 {X with N:=Nc,s₀:=s₀,H₀:=H₀,env:=compEnvC scope cl C X.env,outer:=X.stack,ex:=ex,fn:=fun _=>false,pn:=pn,xe:=fun _ _=>False}
noncomputable def xQ (N:List Str) (psc:Scope) (xs:List Str) (cs:List (Str×Nat)) (scope:Scope):Bool:=
 scope.kind==.function && xs.all (fun x=>scope.names.lookup x==some .local) && decide ((xs ++ cs.map (·.1)).Nodup) &&
 scope.names.all (fun y=>y.2 !=.cell && (y.2 !=.local || scope.names.lookup y.1==some .local) && (y.2 !=.free || (psc.names.lookup y.1==some .cell || psc.names.lookup y.1==some .free))) &&
 cs.all (fun p=>N[p.2]? ==some p.1 && (psc.names.lookup p.1==some .cell || psc.names.lookup p.1==some .free) && ((fU psc scope.names).lookup p.1==some .cell || (fU psc scope.names).lookup p.1==some .free))
structure CompOkT (N:List Str)(psc:Scope)(xs:List Str)(cs:List (Str×Nat))(scope:Scope):Prop where
 kind:scope.kind=.function
 own:∀x∈xs,scope.names.lookup x=some .local
 nd:(xs ++ cs.map (·.1)).Nodup
 cell:∀y∈scope.names,y.2≠ .cell
 names:∀y∈scope.names,y.2=.local->scope.names.lookup y.1=some .local
 has:∀y∈scope.names,y.2=.free->psc.names.lookup y.1=some .cell\/psc.names.lookup y.1=some .free
 cap:∀p∈cs,N[p.2]? =some p.1/\(psc.names.lookup p.1=some .cell\/psc.names.lookup p.1=some .free)/\((fU psc scope.names).lookup p.1=some .cell\/(fU psc scope.names).lookup p.1=some .free)
theorem CompOkT.of {N:List Str}{psc:Scope}{xs:List Str}{cs:List (Str×Nat)}{scope:Scope}(h:xQ N psc xs cs scope=true):CompOkT N psc xs cs scope:=by
 unfold xQ at h;simp only[xaC,Bool.or_eq_true,xbm,xcn,xbp,bne_iff_ne,ne_eq]at h;obtain⟨⟨⟨⟨h1,h2⟩,h3⟩,h4⟩,h5⟩:=h;refine⟨h1,h2,h3,fun y hy=>(h4 y hy).1.1,fun y hy e=>?_,fun y hy e=>?_,fun p hp=>⟨(h5 p hp).1.1,(h5 p hp).1.2,(h5 p hp).2⟩⟩
 ·rcases(h4 y hy).1.2 with z |z
  ·exact absurd e z
  ·exact z
 ·rcases(h4 y hy).2 with z |z
  ·exact absurd e z
  ·exact z
abbrev xP (N:List Str)(psc:Scope)(x:Str)(cs:List (Str×Nat))(scope:Scope):Bool:=xQ N psc [x] cs scope
def gq (X:Cx)(ifs:List Expr)(t:TT):Prop:=
 ∀(pins:Pnx) (s:Shared) (σ:St) (H:Hp) (Q:Bool->Hp->Prop),Inv X pins σ H s->t σ H Q->
  wpAny (model X.prog X.w) X.A (forIn ifs true fun c r=>if r=true then do let ok <-isTrue c X.env (eval c X.env);pure (ForInStep.yield ok) else pure (ForInStep.yield r)) (TP X pins σ Q) X.xe s
def d9:TT:=fun _ H Q=>Q true H
theorem El:gq X [] d9:=fun _ _ _ H _ I h=>wpAny_tests_nil ⟨H,I,h⟩
theorem za6 (h:PT X c t):gq X [c] t:=fun pins s σ H Q I hw=>wpAny_tests_one (h pins s σ H Q I hw)
def yG (wi:TI)(tq:TT)(te:TE)(cs:List (Str×Nat)):St->Hp->(Addr->Hp->Prop)->Prop:=fun σ H R=>wi σ H fun J H1=>∀D,H1 D=none->
  ∃W:Nat->Nat->List V->Hp->Prop,(∃m,W 0 m [] (upd H1 D (.lst [])))/\∀i m ys H2,W i m ys H2->H2 D=some (.lst ys)/\
    ((J.stop i H2 /\ R D H2) \/ (J.go i H2/\ys.length<sizeLine/\∃N:List V->Hp->Prop,(∀ys' H',N ys' H'->∃m',m'<m/\W (i + 1) m' ys' H')/\∀v H3,J.yld i H2 v H3->tq (some v::dG cs σ) H3 fun b H4=>
      if b=true then te (some v::dG cs σ) H4 fun y H5=>H5 D=some (.lst ys)/\N (ys ++ [y]) (upd H5 D (.lst (ys ++ [y]))) else N ys H4))
section
variable {prog:Program}{w:World}{A:Around}{R:Result->Shared->Prop}{s:Shared}
theorem Vb (I:Nat->Shared->Prop)
    (turn : ∀ n s, I n s -> wpAny (model prog w) A (pyNext it) (fun r s₁=>match r with
      |none=>R (.ok .next) s₁
      | some v => wpAny (model prog w) A (letOwnedTupleGo target it v) (fun _ s₁' => wpAny (model prog w) A (assign target env v) (fun _ s₂=>
          wpAny (model prog w) A (forIn ifs true fun c r => if r = true then do let ok <- isTrue c env (eval c env); pure (ForInStep.yield ok) else pure (ForInStep.yield r)) (fun ok s₃=>
            if ok = true then wpAny (model prog w) A (eval elt env) (fun x s₄=>
              wpAny (model prog w) A (call (.builtin "list.append") [acc,x]) (fun _ s₅=>∃m,m<n/\I m s₅) (fun _ _=>False) s₄) (fun _ _=>False) s₃
            else ∃m,m<n/\I m s₃) (fun _ _=>False) s₂) (fun _ _=>False) s₁') (fun _ _=>False) s₁) (fun _ _=>False) s)
    (n:Nat) (h:I n s):
    codeAny (model prog w) A (.compLoop (.ListComp elt [⟨target,iter,ifs,0⟩] scope pos) 0 it acc env) R s:=by
  refine codeAny_loop rfl I (fun n s hI=>?_) n h;show wpAny _ A ((compTurn (.ListComp elt [⟨target,iter,ifs,0⟩] scope pos) 0 it acc env).onRaise (fun x=>do noteFrame x env;theTreesLotGoes x)) _ _ s
  refine wpAny_noted ?_;rw[compTurn_list];refine xaa (xeO (xaa (xa4 (turn n s hI) (fun r s₁ h₁=>?_) fun _ _ h'=>h'.elim)))
  cases r with
  |none=>exact xab h₁
  |some v=>
    refine xaa (xa4 h₁ (fun _ s₁' h₁'=>?_) fun _ _ h'=>h'.elim);refine xaa (xa4 h₁' (fun _ s₂ h₂=>xaa (xa4 h₂ (fun ok s₃ h₃=>?_) fun _ _ h'=>h'.elim)) fun _ _ h'=>h'.elim)
    cases ok with
    |false=>exact xab ⟨rfl,h₃⟩
    |true=>
      exact xaa (xaa (xa4 h₃ (fun x s₄ h₄=>xaa (xa4 h₄ (fun _ s₅ h₅=>xab (xab ⟨rfl,h₅⟩)) fun _ _ h'=>h'.elim)) fun _ _ h'=>h'.elim))
end
def Gm (J:It)(tG:TG)(tq:TT)(te:TE)(n:Nat)(cs:List (Str×Nat))(σ:St)(H1:Hp)(R:Addr->Hp->Prop):Prop:=∀D,H1 D=none->
  ∃W:Nat->Nat->List V->Hp->Prop,(∃m,W 0 m [] (upd H1 D (.lst [])))/\∀i m ys H2,W i m ys H2->H2 D=some (.lst ys)/\
    ((J.stop i H2 /\ R D H2) \/ (J.go i H2/\ys.length<sizeLine/\∃N:List V->Hp->Prop,(∀ys' H',N ys' H'->∃m',m'<m/\W (i + 1) m' ys' H')/\∀v H3,J.yld i H2 v H3->∀vl:List (Option V),vl.length=n->
      tG v (vl ++ dG cs σ) H3 fun σ' H4=>∃vl',vl'.length=n/\σ'=vl' ++ dG cs σ/\tq σ' H4 fun b H5=>
      if b=true then te σ' H5 fun y H6=>H6 D=some (.lst ys)/\N (ys ++ [y]) (upd H6 D (.lst (ys ++ [y]))) else N ys H5))
def Gb (wi:TI)(tG:TG)(tq:TT)(te:TE)(n:Nat)(cs:List (Str×Nat)):St->Hp->(Addr->Hp->Prop)->Prop:=fun σ H R=>wi σ H fun J H1=>Gm J tG tq te n cs σ H1 R
section
variable {X:Cx}{elt iter tg:Expr}{ifs:List Expr}{xs:List Str}{scope:Scope}{pos:Pos}{wi:TI}{tG:TG}{tq:TT}{te:TE}{cs:List (Str×Nat)}
theorem Nq (hc:X.calm=true)(hi:PI X tg iter wi)
    (hg:∀(cl:List (Str×Addr)) (C:Addr) (s₀:Shared) (H₀:Hp) (ex:List Addr) (pn:Pnx),PG (cJ X (xs ++ cs.map (·.1)) scope cl C s₀ H₀ ex pn) tg tG)
    (hq:∀(cl:List (Str×Addr)) (C:Addr) (s₀:Shared) (H₀:Hp) (ex:List Addr) (pn:Pnx),gq (cJ X (xs ++ cs.map (·.1)) scope cl C s₀ H₀ ex pn) ifs tq)
    (he:∀(cl:List (Str×Addr)) (C:Addr) (s₀:Shared) (H₀:Hp) (ex:List Addr) (pn:Pnx),PE (cJ X (xs ++ cs.map (·.1)) scope cl C s₀ H₀ ex pn) elt te)
    (ok:CompOkT X.N X.env.scope xs cs scope) {pins:Pnx} {s:Shared} {σ:St} {H:Hp} {R:Addr->Hp->Prop} (I:Inv X pins σ H s) (h:Gb wi tG tq te xs.length cs σ H R)
    {RR:Value->Addr->Result->Shared->Prop}
    (hRR:∀(D C:Addr) (oC:Obj) (H':Hp) (s':Shared),Inv X (pins ++ [(C,oC)]) σ H' s'->(∀h':Heap,h'.get? C=some oC->∃m,h'.Ns C m)->dY X pins H' C->R D H'->RR (.ref D) C (.ok .next) s'):
    wpAny (model X.prog X.w) X.A (eval iter X.env) (fun xv s₁ => wpAny (model X.prog X.w) X.A (pyIter xv) (fun itv s₂ => wpAny (model X.prog X.w) X.A (newList []) (fun acc s₃=>
      wpAny (model X.prog X.w) X.A (newFunctionEnv scope X.env.globals (gC X.env.cells scope.names) [] X.env.qual none .none (some X.env)) (fun cenv s₄=>
        codeAny (model X.prog X.w) X.A (.compStart (.ListComp elt [⟨tg,iter,ifs,0⟩] scope pos) 0 itv acc {cenv with scope:=relabel scope X.env}) (RR acc cenv.locals) s₄) X.xe s₃) X.xe s₂) X.xe s₁) X.xe s:=by
  refine aN (hi pins s σ H _ I h) fun v s1 h1=>aN h1 fun itv s2 h2=>?_;obtain⟨it,fp,tn,J,H2,e,I2,T,st2,f2,h2⟩:=h2;subst e;have hhas:∀y∈scope.names,y.2=.free->∃c,X.env.cells.lookup y.1=some c:=fun y hy hk=>I2.ok.has y.1 (ok.has y hy hk);refine xaN (wpAny_newFunctionEnv ok.cell (by intro y hy;simp at hy) (fun h₁ hns₁ hsb₁=>?_) ok.kind);dsimp only at hns₁ hsb₁ ⊢;generalize hHH:s2.heap.push {cls:=.type "list",dict:=none,data:=.seq ([]:List Value).toArray}=HH at hns₁ hsb₁ ⊢;have hC:HH.objs.size=s2.heap.objs.size + 1:=by rw[<-hHH,xeB]
  have hDC:s2.heap.objs.size≠HH.objs.size:=by rw[hC];exact xaI (xbg _)
  have hCle:s2.heap.objs.size<=HH.objs.size:=by rw[hC];exact xcp _
  have below:∀b,b<s2.heap.objs.size->b≠HH.objs.size:=fun b hb=>by rw[hC];exact xaI (xe3 hb)
  have old:∀b o,s2.heap.get? b=some o->h₁.get? b=some o:=fun b o e=>hsb₁.extBut b o (below b (xao e)) (xag _ (hHH ▸ xag _ e));have hacc:h₁.get? s2.heap.objs.size=some {cls:=.type "list",dict:=none,data:=.seq ([]:List Value).toArray}:=hsb₁.extBut _ _ hDC (xag _ (hHH ▸ xau _ rfl));have nD:H2 s2.heap.objs.size=none:=I2.hok.fresh (xaf _);have nC:H2 HH.objs.size=none:=I2.hok.fresh hCle;obtain⟨W,⟨m0,w0⟩,turn⟩:=h2 s2.heap.objs.size nD
  -- the block's context
  have fpC:∀b∈fp,b≠HH.objs.size:=fun b hb=>by
    obtain⟨o,ho,_⟩:=T.obj 0 _ st2 b hb;exact below b (xao ho)
  have fpD:∀b∈fp,b≠s2.heap.objs.size:=fun b hb=>by
    obtain⟨o,ho,_⟩:=T.obj 0 _ st2 b hb;exact xaI (xao ho)
  have pinC:∀p∈X.pn ++ pins,p.1≠HH.objs.size:=fun p hp=>below _ (xao (I2.pin p hp).1);have clIn:∀y c,(gC X.env.cells scope.names).lookup y=some c->X.env.cells.lookup y=some c:=Nb scope.names [] hhas (fun y c e=>by cases e);have kindRel:∀y,(relabel scope X.env).names.lookup y=(fU X.env.scope scope.names).lookup y:=fun _=>rfl;have okC:(cJ X (xs ++ cs.map (·.1)) scope (gC X.env.cells scope.names) HH.objs.size s2 H2 fp (X.pn ++ pins)).Ok:=
    { mod:=I2.ok.mod
      kind:=ok.kind
      glob:=I2.ok.glob
      blt:=I2.ok.blt
      above:=hCle
      inj:=fun y z c e1 e2=>I2.ok.inj y z c (clIn y c e1) (clIn z c e2)
      has:=fun y hk=>by
        have hm:(y,NameKind.free)∈scope.names:=by
          rcases hk with hk |hk
          · exact Bf (psc:=X.env.scope) (k':=.cell) hk (.inl rfl) ok.cell
          · exact Bf (psc:=X.env.scope) (k':=.free) hk (.inr rfl) ok.cell
        exact Hr scope.names [] y (.inl hm)
      cab:=fun y c hf _=>by cases hf
      hd:=I2.ok.hd
      frames:=I2.ok.frames
      stk:=.inl rfl
      exf:=fun b hb=>⟨fpC b hb,fun y c e z=>(f2 b hb).2.2.2.2.1 y c (clIn y c e) z⟩
      bs:=fun b o e=>I2.bs b o e
      bsz:=xay I2.ok.bsz I2.sz
      noex:=fun b o e hb=>by
        rcases(f2 b hb).2.2.2.1 with z |z
        · exact I2.ok.noex b o e z
        · exact absurd (xap (xao e) (xay I2.ok.bsz z)) (xbT _)
      exfs:=fun b hb z=>by
        rcases xaq.mp (I2.stkSub b z) with q |q
        · exact(f2 b hb).2.1 q
        · exact(f2 b hb).2.2.1 q
      funs:=I2.stack
      frf:=I2.stkFree}
  have IC:Inv (cJ X (xs ++ cs.map (·.1)) scope (gC X.env.cells scope.names) HH.objs.size s2 H2 fp (X.pn ++ pins)) [] (List.replicate xs.length none ++ dG cs σ) (upd H2 s2.heap.objs.size (.lst [])) {s2 with heap:=h₁,toks:=s2.toks + ([]:List (Str×Value)).length}:=
    { ok:=okC
      os:=rfl
      bare:=I2.bare
      base:=Un.laid old (xaf _) nD
      loc:=by
        refine⟨_,hns₁,fun i y u e1 e2 _=>?_⟩;rcases xaT i xs.length with hi |hi
        · exfalso
          rw[xaG (by rw[xa7];exact hi),xa9,xac hi]at e2;cases e2
        · have e1':(cs.map (·.1))[i - xs.length]? =some y:=by rw[<-xat hi];exact e1
          have e2':(dG cs σ)[i - xs.length]? =some (some u):=by
            rw[xat (by rw[xa7];exact hi),xa7]at e2;exact e2
          rw[xaw]at e1';unfold dG at e2';rw[xaw]at e2'
          cases ep:cs[i - xs.length]? with
          |none=>rw[ep]at e1';cases e1'
          |some p=>
            rw[ep]at e1' e2';have e1'':p.1=y:=xaA e1';have e2'':(σ[p.2]?).join=some u:=xaA e2';have e3:σ[p.2]? =some (some u):=by
              cases q:σ[p.2]? with
              |none=>rw[q]at e2'';cases e2''
              |some z=>rw[q]at e2'';exact congrArg some e2''
            subst e1'';obtain⟨hN,hkp,hkc⟩:=ok.cap p (xaP ep);obtain⟨mP,_,hl⟩:=I2.loc;obtain⟨u',ru,lk⟩:=hl p.2 p.1 u hN e3 (.inr hkp);refine⟨u',ru,.inr ⟨hkc,?_⟩⟩;rcases lk with⟨k0,_⟩ |⟨_,c,hcell,his⟩
            · exfalso
              have k0':X.env.scope.names.lookup p.1=some .local:=k0;rcases hkp with z |z<;>(rw[k0']at z;cases z)
            · have hm:(p.1,NameKind.free)∈scope.names:=by
                rcases hkc with z |z
                · exact Bf z (.inl rfl) ok.cell
                · exact Bf z (.inr rfl) ok.cell
              obtain⟨c',hc'⟩:=Hr (cells:=X.env.cells) scope.names [] p.1 (.inl hm);have e5:c'=c:=xaA ((clIn p.1 c' hc').symm.trans hcell);exact⟨c',hc',by rw[e5];exact his.keeps old⟩
      cell:=fun y c e=>by
        obtain⟨v',q⟩:=I2.cell y c (clIn y c e);exact⟨v',q.keeps old⟩
      free:=by
        show upd H2 s2.heap.objs.size (.lst []) HH.objs.size=none;rw[aW hDC.symm];exact nC
      freeC:=fun y c e=>by
        have hcl:c<s2.heap.objs.size:=by
          obtain⟨_,q⟩:=I2.cell y c (clIn y c e);exact q.lt
        rw[aW (xaI hcl)];exact(I2.freeC y c (clIn y c e)).imp id fun z=>⟨rfl,z.2⟩
      pin:=fun p hp=>by
        have hp':p∈X.pn ++ pins:=by
          rcases xaQ.mp hp with z |z
          · exact z
          · cases z
        obtain⟨e1,e2,e3,e4,e5⟩:=I2.pin p hp';refine⟨old _ _ e1,?_,pinC p hp',fun z=>?_,e5⟩
        · rw[aW (xaI (xao e1))];exact e2
        · rcases xaq.mp (I2.stkSub p.1 z) with q |q
          · exact e3 q
          · exact e4 q
      hok:=I2.hok.laid old (xaf _) ⟨xa0 _,[],0,.nil,hacc⟩
      len:=by simp[dG]}
  have stC:tn 0 h₁:=T.keep 0 _ _ st2 fun b _ o e=>old b o e;have frC:∀b∈fp,upd H2 s2.heap.objs.size (HO.lst []) b=none:=fun b hb=>by
    rw[aW (fpD b hb)];exact(f2 b hb).1
  -- what stays true of the iterator's objects in the block
  have stat:∀{H':Hp},(∀b∈fp,H' b=none)->∀b∈fp,dY (cJ X (xs ++ cs.map (·.1)) scope (gC X.env.cells scope.names) HH.objs.size s2 H2 fp (X.pn ++ pins)) [] H' b:=fun {H'} hn b hb=>
    ⟨hn b hb, fpC b hb, okC.exfs b hb, .inl hb, fun y c e => (okC.exf b hb).2 y c e, fun p hp => (f2 b hb).2.2.2.2.2 p (by
      rcases xaQ.mp hp with z |z
      · exact z
      · cases z)⟩
  have loop:∀s₃:Shared,s₃={s2 with heap:=h₁,toks:=s2.toks + ([]:List (Str×Value)).length}->
      codeAny (model X.prog X.w) X.A (.compLoop (.ListComp elt [⟨tg,iter,ifs,0⟩] scope pos) 0 (.ref it) (.ref s2.heap.objs.size) (compEnvC scope (gC X.env.cells scope.names) HH.objs.size X.env)) (RR (.ref s2.heap.objs.size) HH.objs.size) s₃:=by
    rintro s₃ rfl;refine Vb (fun n s'=>∃(i:Nat) (vl:List (Option V)) (ys:List V) (H':Hp),vl.length=xs.length/\Inv (cJ X (xs ++ cs.map (·.1)) scope (gC X.env.cells scope.names) HH.objs.size s2 H2 fp (X.pn ++ pins)) [] (vl ++ dG cs σ) H' s'/\tn i s'.heap/\(∀b∈fp,H' b=none)/\W i n ys H')
      ?_ m0 ⟨0,_,[],_,xa7,IC,stC,frC,w0⟩
    rintro n s3 ⟨i,v3,ys,H3,hv3,I3,st3,fr3,w3⟩;obtain⟨hD3,tr⟩:=turn i n ys H3 w3;rcases tr with⟨stop,qn⟩ |⟨go,hsz,N,hN,step⟩
    · refine aN (T.done (cJ X (xs ++ cs.map (·.1)) scope (gC X.env.cells scope.names) HH.objs.size s2 H2 fp (X.pn ++ pins)) rfl rfl rfl hc i [] s3 _ H3 _ I3 (stat fr3) st3 stop) fun r s4 ⟨hr,I4⟩=>?_;subst hr;show RR (.ref s2.heap.objs.size) HH.objs.size (.ok .next) s4
      have IP:Inv X pins σ H3 s4:=I2.call' (ch:=fp) I4.os I4.base I4.hok I4.bare fun b hb=>⟨(f2 b hb).2.2.2.1,(f2 b hb).2.1,(f2 b hb).2.2.2.2.1,(f2 b hb).2.2.2.2.2⟩;obtain⟨m4,⟨oC,es,ep,hoC,hdC,hk1,hk2⟩,_⟩:=I4.loc;have nC3:H3 HH.objs.size=none:=I4.free;have fC:dY X pins H3 HH.objs.size:=I2.fpOk hCle nC3;refine hRR _ _ oC H3 s4 (IP.pins_of fun p hp=>?_) (fun h' e=>⟨m4,oC,es,ep,e,hdC,hk1,hk2⟩) fC qn;rcases xaQ.mp hp with z |z
      · exact IP.pin p (xaE _ z)
      · have e:p=(HH.objs.size,oC):=by simpa using z
        subst e;exact ⟨hoC,nC3,fC.2.1,fC.2.2.1,fun v z=>by
          have z':oC.data=.cell v:=z;rw[hdC]at z';cases z'⟩
    · refine aN (T.item (cJ X (xs ++ cs.map (·.1)) scope (gC X.env.cells scope.names) HH.objs.size s2 H2 fp (X.pn ++ pins)) rfl rfl rfl hc i [] s3 _ H3 _ I3 (stat fr3) st3 go) fun r s4 ⟨u,hr,h4⟩=>?_;subst hr;refine aN h4 fun _ s5 ⟨y,H5,I5,r5,y5,st5,fr5⟩=>?_;have I5':=I5.pinned (stat fr5) (T.obj _ _ st5);refine aN (hg (gC X.env.cells scope.names) HH.objs.size s2 H2 fp (X.pn ++ pins) _ s5 _ H5 y u _ I5' r5 (step y H5 y5 v3 hv3)) fun _ s6 ⟨σ6,H6,I6,vl6,hl6,e6,q6⟩=>?_;subst e6;refine aN (hq _ _ _ _ _ _ _ s6 _ H6 _ I6 q6) fun b s7 ⟨H7,I7,q7⟩=>?_;have again:∀{v':List (Option V)} {H8:Hp} {s8:Shared} {ys':List V} {m':Nat},v'.length=xs.length->Inv (cJ X (xs ++ cs.map (·.1)) scope (gC X.env.cells scope.names) HH.objs.size s2 H2 fp (X.pn ++ pins)) ([] ++ Ba fp s5.heap) (v' ++ dG cs σ) H8 s8->W (i + 1) m' ys' H8->
          ∃(i:Nat) (vl:List (Option V)) (ys:List V) (H':Hp),vl.length=xs.length/\Inv (cJ X (xs ++ cs.map (·.1)) scope (gC X.env.cells scope.names) HH.objs.size s2 H2 fp (X.pn ++ pins)) [] (vl ++ dG cs σ) H' s8/\tn i s8.heap/\(∀b∈fp,H' b=none)/\W i m' ys H':=fun {v' H8 s8 ys' m'} hl8 I8 w8=>by
        refine⟨i + 1,v',ys',H8,hl8,I8.unpinned,T.keep _ _ _ st5 fun b hb o e=>(I8.pin (b,o) (xaE _ (xaE _ (DK hb e)))).1,fun b hb=>?_,w8⟩;obtain⟨o,e,d⟩:=T.obj _ _ st5 b hb;exact(I8.pin (b,o) (xaE _ (xaE _ (DK hb e)))).2.1
      cases b with
      |false=>
        rw[xad xas]at q7;rw[xad xas];obtain⟨m',hm,w8⟩:=hN _ _ q7;exact⟨m',hm,again hl6 I7 w8⟩
      |true=>
        rw[xac rfl]at q7;rw[xac rfl];refine aN (he _ _ _ _ _ _ _ s7 _ H7 _ I7 q7) fun z s8 ⟨zv,H8,I8,r8,hD8,n8⟩=>?_;obtain⟨m',hm,w8⟩:=hN _ _ n8;refine aN (Ji (X:=cJ X (xs ++ cs.map (·.1)) scope (gC X.env.cells scope.names) HH.objs.size s2 H2 fp (X.pn ++ pins)) _ s8 _ H8 (.ref s2.heap.objs.size) [zv] (.ref s2.heap.objs.size) [z] (fun _ H9=>H9=upd H8 s2.heap.objs.size (.lst (ys ++ [zv]))) I8 rfl (.cons r8 .nil) ⟨_,ys,zv,rfl,rfl,hD8,hsz,rfl⟩) fun _ s9 ⟨_,H9,I9,_,e9⟩=>?_;subst e9;exact⟨m',hm,again hl6 I9 w8⟩
  exact codeAny_compStart_list (loop _ rfl) (T.self _ 0 _ _ _ stC (loop _ rfl))
noncomputable def Tc (wi:TI) (tG:TG) (tq:TT) (te:TE) (n:Nat) (cs:List (Str×Nat)):TE:=fun σ H Q=>Gb wi tG tq te n cs σ H fun D H'=>Q (.ref D) H'
theorem Jw (xs:List Str)(cs:List (Str×Nat))(hc:X.calm=true)(hi:PI X tg iter wi)
  (hg:∀(cl:List (Str×Addr)) (C:Addr) (s₀:Shared) (H₀:Hp) (ex:List Addr) (pn:Pnx),PG (cJ X (xs ++ cs.map (·.1)) scope cl C s₀ H₀ ex pn) tg tG)
  (hq:∀(cl:List (Str×Addr)) (C:Addr) (s₀:Shared) (H₀:Hp) (ex:List Addr) (pn:Pnx),gq (cJ X (xs ++ cs.map (·.1)) scope cl C s₀ H₀ ex pn) ifs tq)
  (he:∀(cl:List (Str×Addr)) (C:Addr) (s₀:Shared) (H₀:Hp) (ex:List Addr) (pn:Pnx),PE (cJ X (xs ++ cs.map (·.1)) scope cl C s₀ H₀ ex pn) elt te)
  (ok:xQ X.N X.env.scope xs cs scope=true:=by kernel_rfl) (hs:∀x,foldedSetIterable iter X.env x=pure x:=by intro _;rfl):
  PE X (.ListComp elt [⟨tg,iter,ifs,0⟩] scope pos) (Tc wi tG tq te xs.length cs):=by
 intro pins s σ H Q I h;have ok':=CompOkT.of ok;rw[eval_ListComp];refine xee (use:=none) rfl hs (Nf fun y hy hk=>I.ok.has y.1 (ok'.has y hy hk)) ok'.kind ok'.names ?_;refine Nq (RR:=fun acc C=>compPost (model X.prog X.w) X.A X.xe none (EP X pins σ Q) acc C) hc hi hg hq he ok' I h ?_;intro D C oC H' s' I' hns fC q;refine⟨_,(hns _ (I'.pin (C,oC) (xaE _ (xaE _ (by simp)))).1).choose_spec,fun h' hs'=>?_⟩;have I1:Inv X pins σ H' s':=I'.unpinned;exact⟨.ref D,H',I1.turned (t':=s'.toks) (fun b o hb e=>(hs'.2 b hb).trans e) fC.1 fC.2.1 fC.2.2.2.1 fC.2.2.2.2.1 fC.2.2.2.2.2,rfl,q⟩
end
section
variable {X:Cx}{elt iter:Expr}{ifs:List Expr}{x:Str}{px:Pos}{scope:Scope}{pos:Pos}{wi:TI}{tq:TT}{te:TE}{cs:List (Str×Nat)}
theorem Nm:Gb wi (pN 0) tq te 1 cs=yG wi tq te cs:=by
 funext σ H R;have key:∀(v:V) (H3:Hp) (F:St->Hp->Prop),(∀vl:List (Option V),vl.length=1->pN 0 v (vl ++ dG cs σ) H3 fun σ' H4=>∃vl',vl'.length=1/\σ'=vl' ++ dG cs σ/\F σ' H4) ↔ F (some v::dG cs σ) H3:=fun v H3 F=>
  ⟨fun h=>(h [none] rfl).choose_spec.2.2,fun h vl e=>by
   match vl,e with
   | [_],_=>exact⟨[some v],rfl,rfl,h⟩⟩
 simp only[Gb,Gm,yG,key]
noncomputable def zeF (wi:TI) (tq:TT) (te:TE) (cs:List (Str×Nat)):TE:=fun σ H Q=>yG wi tq te cs σ H fun D H'=>Q (.ref D) H'
theorem Qu (x:Str)(cs:List (Str×Nat))(hc:X.calm=true)(hi:PI X (.Name x px) iter wi)
  (hq:∀(cl:List (Str×Addr)) (C:Addr) (s₀:Shared) (H₀:Hp) (ex:List Addr) (pn:Pnx),gq (cJ X (x::cs.map (·.1)) scope cl C s₀ H₀ ex pn) ifs tq)
  (he:∀(cl:List (Str×Addr)) (C:Addr) (s₀:Shared) (H₀:Hp) (ex:List Addr) (pn:Pnx),PE (cJ X (x::cs.map (·.1)) scope cl C s₀ H₀ ex pn) elt te)
  (ok:xP X.N X.env.scope x cs scope=true:=by kernel_rfl) (hs:∀x,foldedSetIterable iter X.env x=pure x:=by intro _;rfl):
  PE X (.ListComp elt [⟨.Name x px,iter,ifs,0⟩] scope pos) (zeF wi tq te cs):=by
 have ox:=xcU (env:=X.env) ((CompOkT.of ok).own x (by simp));have h:=Jw (pos:=pos) [x] cs hc hi (fun _ _ _ _ _ _=>yu (i:=0) (CompOkT.of ok).nd rfl (.inl ox) (.inr ox)) hq he ok hs;unfold Tc at h;rw[xaF,Nm]at h;exact h
noncomputable def zeg (k:Nat) (wi:TI) (tq:TT) (te:TE) (cs:List (Str×Nat)):TS:=fun D σ H=>yG wi tq te cs σ H fun l H'=>D.nx (σ.set k (some (.ref l))) H'
theorem QF (x:Str)(cs:List (Str×Nat))(hN:X.N.Nodup)(hk:X.N[k]? =some y)(hy:Loc X.env.scope y)(hc:X.calm=true)(hi:PI X (.Name x px) iter wi)
  (hq:∀(cl:List (Str×Addr)) (C:Addr) (s₀:Shared) (H₀:Hp) (ex:List Addr) (pn:Pnx),gq (cJ X (x::cs.map (·.1)) scope cl C s₀ H₀ ex pn) ifs tq)
  (he:∀(cl:List (Str×Addr)) (C:Addr) (s₀:Shared) (H₀:Hp) (ex:List Addr) (pn:Pnx),PE (cJ X (x::cs.map (·.1)) scope cl C s₀ H₀ ex pn) elt te)
  (ok:xP X.N X.env.scope x cs scope=true:=by kernel_rfl) (hs:∀x,foldedSetIterable iter X.env x=pure x:=by intro _;rfl)
  (hsw:swapsWith (.ListComp elt [⟨.Name x px,iter,ifs,0⟩] scope pos) (some (.Name y py)) spos.line X.env=pure true:=by rfl)
  (hf:X.fn y=true\/X.env.scope.names.lookup y=some .local:=by first |exact .inl rfl |exact .inr rfl |assumption):
  PS X (.Assign [.Name y py] (.ListComp elt [⟨.Name x px,iter,ifs,0⟩] scope pos) spos) (zeg k wi tq te cs):=by
 intro pins s σ H D I h;have ok':=CompOkT.of ok;have ox:=xcU (env:=X.env) (ok'.own x (by simp));rw[exec_Assign_Name_used _ _ _ _ hsw];refine xaa (xeO (xaa ?_));show wpAny _ X.A (do let _ <-comprehension (.ListComp elt [⟨.Name x px,iter,ifs,0⟩] scope pos) scope X.env _ (newList []) false (eval iter X.env) (some (assign (.Name y py) X.env))) _ _ s
 refine xaa (xa4 (xee (use:=some (assign (.Name y py) X.env)) (Q:=fun _ s'=>SP X pins D .next s') rfl hs (Nf fun y hy hk=>I.ok.has y.1 (ok'.has y hy hk)) ok'.kind ok'.names
  (Nq (xs:=[x]) (RR:=fun acc C=>compPost (model X.prog X.w) X.A X.xe (some (assign (.Name y py) X.env)) (fun _ s'=>SP X pins D .next s') acc C) hc hi (fun _ _ _ _ _ _=>yu (i:=0) ok'.nd rfl (.inl ox) (.inr ox)) hq he ok' I (by rw[xaF,Nm];exact h) ?_)) (fun _ s' hq=>xab (xab hq)) fun _ _ e=>e)
 intro l C oC H' s' I' hns fC q;show wpAny _ X.A (assign (.Name y py) X.env (.ref l)) _ _ _;refine wpAny_assign_Name (FW (v:=.ref l) I' hN hk hy rfl (fun s'' I''=>?_) hf);refine⟨_,(hns _ (I''.pin (C,oC) (xaE _ (xaE _ (by simp)))).1).choose_spec,fun h' hs'=>?_⟩;have I1:Inv X pins _ H' s'':=I''.unpinned;exact⟨_,H',I1.turned (t':=s''.toks) (fun b o hb e=>(hs'.2 b hb).trans e) fC.1 fC.2.1 fC.2.2.2.1 fC.2.2.2.2.1 fC.2.2.2.2.2,q⟩
end
def Ma (J:It)(tq:TT)(te:TE)(cs:List (Str×Nat))(σ:St)(H1:Hp)(R:Addr->Hp->Prop):Prop:=∀D,H1 D=none->
  ∃W:Nat->Nat->List V->Hp->Prop,(∃m,W 0 m [] (upd H1 D (.lst [])))/\∀i m ys H2,W i m ys H2->H2 D=some (.lst ys)/\
    ((J.stop i H2 /\ R D H2) \/ (J.go i H2/\ys.length<sizeLine/\∃N:List V->Hp->Prop,(∀ys' H',N ys' H'->∃m',m'<m/\W (i + 1) m' ys' H')/\∀v H3,J.yld i H2 v H3->tq (some v::dG cs σ) H3 fun b H4=>
      if b=true then te (some v::dG cs σ) H4 fun y H5=>H5 D=some (.lst ys)/\N (ys ++ [y]) (upd H5 D (.lst (ys ++ [y]))) else N ys H4))
theorem Vh (n:Nat)(P:Addr->Nat->List V->Hp->Prop)
  (h0:∀D,H1 D=none->P D 0 [] (upd H1 D (.lst []))) (hl:∀D i ys H2,i<=n->P D i ys H2->H2 D=some (.lst ys)/\ys.length<sizeLine)
  (hgo:∀D i ys H2,i<n->P D i ys H2->J.go i H2) (hst:∀D ys H2,H1 D=none->P D n ys H2->J.stop n H2/\R D H2)
  (hs:∀D i v ys H2 H3,i<n->P D i ys H2->J.yld i H2 v H3->tq (some v::dG cs σ) H3 fun b H4=>if b=true then te (some v::dG cs σ) H4 fun y H5=>H5 D=some (.lst ys)/\P D (i + 1) (ys ++ [y]) (upd H5 D (.lst (ys ++ [y]))) else P D (i + 1) ys H4):
  Ma J tq te cs σ H1 R:=by
 intro D hD;refine⟨fun i m ys H=>m=n - i/\i<=n/\P D i ys H,⟨n,by simp,xa0 _,h0 D hD⟩,?_⟩;rintro i m ys H2 ⟨rfl,hi,p⟩;obtain⟨q2,q3⟩:=hl D i ys H2 hi p;refine⟨q2,?_⟩
 by_cases hlt:i<n
 ·exact .inr ⟨hgo D i ys H2 hlt p,q3,P D (i + 1),fun ys' H' p'=>⟨n - (i + 1),by lia,rfl,hlt,p'⟩,fun v H3 y=>hs D i v ys H2 H3 hlt p y⟩
 ·have e:i=n:=by lia
  subst e;exact .inl (hst D ys H2 hD p)
theorem mY (hD:H D=none):Same H (upd H D o):=fun b ob e=>by
 rw[aW (j5 e hD)];exact e
theorem comp_map {J:It}{te:TE}{cs:List (Str×Nat)}{σ:St}{H1:Hp}{R:Addr->Hp->Prop}(n:Nat)(f:Nat->V)(hn:n<sizeLine)
  (hgo:∀i H2,i<n->Same H1 H2->J.go i H2) (hst:∀H2,Same H1 H2->J.stop n H2)
  (hy:∀i v H2 H3,i<n->Same H1 H2->J.yld i H2 v H3->H3=H2/\∀Q:VK,Q (f i) H2->te (some v::dG cs σ) H2 Q)
  (hd:∀D,H1 D=none->R D (upd H1 D (.lst ((List.range n).map f)))):Ma J d9 te cs σ H1 R:=by
 refine Vh n (fun D i ys H2=>i<=n/\H1 D=none/\ys=(List.range i).map f/\H2=upd H1 D (.lst ys)) (fun D hD=>⟨xa0 _,hD,rfl,rfl⟩) ?_ ?_ ?_ ?_
 ·rintro D i ys H2 hi ⟨_,hD,e1,e2⟩;subst e1 e2;exact⟨bJ,by rw[xae,xcL];lia⟩
 ·rintro D i ys H2 hi ⟨_,hD,e1,e2⟩;subst e2;exact hgo i _ hi (mY hD)
 ·rintro D ys H2 _ ⟨_,hD,e1,e2⟩;subst e2;refine⟨hst _ (mY hD),?_⟩;subst e1;exact hd D hD
 ·rintro D i v ys H2 H3 hi ⟨_,hD,e1,e2⟩ y;subst e2;obtain⟨e3,q⟩:=hy i v _ H3 hi (mY hD) y;subst e3;unfold d9;dsimp only;rw[xac rfl];refine q _ ⟨bJ,hi,hD,?_,Lw⟩;rw[e1,xdA,xaM];rfl
structure Noted (fs:List Addr)(z:Addr)(h h':Heap)(e:Addr)(oe:Obj)(T:Addr)(fl:Value):Prop where
 keep:∀b o,b∉fs->b≠e->b≠z->h.get? b=some o->h'.get? b=some o
 slot:∀b o,b∈fs->b≠e->b≠z->h.get? b=some o->∃sl,h'.get? b=some {o with slots:=sl}
 exc:h'.get? e=some (oe.mapFields (·.setIfInBounds 1 (.ref T)))
 new:h.objs.size<=T
 tb:∃oT ts,h'.get? T=some oT/\oT.data=.fields ts/\ts[3]? =some fl
section
variable {M:Model}{A:Around}{E:Value->Shared->Prop}{s:Shared}{base:Heap}{env:Env}{outer:List Env}{L e z:Addr}{oe:Obj}{vs:Array Value}{Q:Unit->Shared->Prop}
theorem Yj (a1:A.frames=some (env::outer))(a2:s.heap.FunFrames base (env::outer))(a3:env.frame=some L)
  (a4:s.heap.get? e=some oe) (a5:oe.data=.fields vs) (a6:1<vs.size)
  (k:∀h' T,Noted (frs (env::outer)) e s.heap h' e oe T (rawInt L)->Q () {s with heap:=h'}):
  wpAny M A (do
   let a <-frameOf env
   let pl <-entryPlaceOf L hadNext
   let b <-EntryCells.newEntry head a .none (rawInt L) .none pl
   setField (.ref e) 1 b) Q E s:=by
 have ne:e∉frs (env::outer):=fun m=>by
  obtain⟨_,o,e1,e2⟩:=a2.mem m;rw[a4]at e1;cases e1;exact e2 vs a5
 refine xaa (wpAny_frameOf_fun a1 a2 a3 fun h1 S=>?_);refine xaa (wpAny_entryPlaceOf fun pl hpl=>?_);unfold EntryCells.newEntry newFields;refine xaa (xaN ?_ (hpl.sizeOk5 _ _ _ _ _));have b1:h1.get? e=some oe:=(S.2.1 e ne).trans a4;have b2:=xag (h:=h1) {cls:=.type "traceback",dict:=none,data:=.fields ([head,.ref L,.none,rawInt L,.none] ++ (if pl.isEmpty then List.replicate 6 Value.none else pl)).toArray} b1
 refine xcO b2 a5 a6 (k _ h1.objs.size ?_);have n1:h1.objs.size≠e:=xcN (xao b1);have frd:=xdu (xbK a5 (·.setIfInBounds 1 (Value.ref h1.objs.size)));refine⟨fun b o nb nbe _ hb=>?_,fun b o _ nbe _ hb=>?_,xbH _ b2 frd,xeb S.1.symm,?_⟩
 ·rw[xa2 _ _ (xbx nbe)];exact xag _ ((S.2.1 b nb).trans hb)
 ·obtain⟨sl,q⟩:=S.2.2 b o hb;refine⟨sl,?_⟩;rw[xa2 _ _ (xbx nbe)];exact xag _ q
 ·refine⟨_,_,(xa2 _ _ (xbx n1)).trans (xau h1 rfl),rfl,?_⟩;rcases hpl with rfl |⟨_,_,_,_,_,_,_,rfl⟩<;>simp
theorem V8 (b1:s.heap.get? e=some oe)(b2:oe.data=.fields vs)(b3:vs[1]? =some (.ref T))(b4:s.heap.get? T=some oT)(b5:oT.data=.fields ts)(b6:3<ts.size)
  (k:Q () {s with heap:=s.heap.update T (Obj.mapFields (·.setIfInBounds 3 .none))}):wpAny M A (setFlight (.ref e) none) Q E s:=by
 unfold setFlight;refine xaa (xbW b1 b2 b3 ?_);rw[xac (by simp)];exact xcO b4 b5 b6 k
theorem Yn (N:Noted fs z h h1 e oe T fl)(a4:h.get? e=some oe)(a5:oe.data=.fields vs):Noted fs z h (h1.update T (Obj.mapFields (·.setIfInBounds 3 .none))) e oe T .none:=by
 obtain⟨oT,ts,t1,t2,t3⟩:=N.tb;have ne:∀b o,h.get? b=some o->b≠T:=fun b o q=>xaI (xap (xao q) N.new);refine⟨fun b o n1 n2 n3 hb=>?_,fun b o n1 n2 n3 hb=>?_,?_,N.new,?_⟩
 ·rw[xa2 _ _ (xbx (ne b o hb))];exact N.keep b o n1 n2 n3 hb
 ·obtain⟨sl,q⟩:=N.slot b o n1 n2 n3 hb;exact⟨sl,by rw[xa2 _ _ (xbx (ne b o hb))];exact q⟩
 ·rw[xa2 _ _ (xbx (ne e oe a4))];exact N.exc
 ·have z3:3<ts.size:=(xcj.mp t3).1;exact⟨_,_,xbH _ t1 (xdu (xbK t2 _)),xbK t2 _,by simp[z3]⟩
theorem Ym (N:Noted fs z h s.heap e oe T fl)(a4:h.get? e=some oe)(a5:oe.data=.fields vs)(a6:1<vs.size)
  (k:∀h',Noted fs z h h' e oe T .none->Q () {s with heap:=h'}):wpAny M A (setFlight (.ref e) none) Q E s:=by
 obtain⟨oT,ts,t1,t2,t3⟩:=N.tb;refine V8 N.exc (xbK a5 _) (by simp[a6]) t1 t2 (xcj.mp t3).1 (k _ (Yn N a4 a5))
theorem Yk (a1:A.frames=some (env::outer))(a2:s.heap.FunFrames base (env::outer))(a3:env.frame=some L)
  (a4:s.heap.get? e=some oe) (a5:oe.data=.fields vs) (a6:vs[1]? =some (.ref T0)) (b1:T0≠e) (b2:s.heap.get? T0=some oT) (b3:oT.data=.fields ts) (b4:ts[3]? =some .none)
  (k:∀h' T,Noted (frs (env::outer)) T0 s.heap h' e oe T (rawInt L)->Q () {s with heap:=h'}):wpAny M A (noteFrame (.ref e) env) Q E s:=by
 have z1:=(xcj.mp a6).1;unfold noteFrame;simp only[a3];refine xaa (xbW a4 a5 a6 ?_);rw[xac (by simp)];refine xaa (xbW b2 b3 b4 ?_);rw[xad (by simp[rawInt])];refine xaa (xcO b2 b3 (xcj.mp b4).1 ?_);have oth:∀b,b≠T0->(s.heap.update T0 (Obj.mapFields (·.setIfInBounds 3 Value.none))).get? b=s.heap.get? b:=fun b hb=>xa2 _ _ (xbx hb);have fr:∀b o,s.heap.get? b=some o->(∀us,o.data≠ .fields us)->b≠T0:=fun b o hb n r=>by
  rw[r,b2]at hb;cases hb;exact n ts b3
 refine Yj (s:={s with heap:=s.heap.update T0 (Obj.mapFields (·.setIfInBounds 3 Value.none))}) a1 (a2.of_keeps fun b o hb n=>⟨o,(oth b (fr b o hb n)).trans hb,rfl⟩) a3 ((oth e (xbx b1)).trans a4) a5 z1 fun h' T N=>k h' T ?_;exact⟨fun b o n1 n2 n3 hb=>N.keep b o n1 n2 n2 ((oth b n3).trans hb),fun b o n1 n2 n3 hb=>N.slot b o n1 n2 n2 ((oth b n3).trans hb),N.exc,by rw[<-Heap.size_after_update s.heap T0 (Obj.mapFields (·.setIfInBounds 3 Value.none))];exact N.new,N.tb⟩
end
abbrev LQ:List Value:=[.type "ValueError",.type "Exception",.type "BaseException",.type "object"]
def LK:List Value->Bool
 |.ref _::r=>LK r
 |l=>l==LQ
noncomputable def kY (K:Fgx) (C:Addr):Bool:=match K.lookup C with
  | some ⟨.type "type", _, .cls cd, sl⟩ => (match cd.mro,sl.toList with
    |.ref c::bm,[_,_,_,_,some (.builtin n),_]=>c==C && (n=="ValueError.__new__" && (!cd.hasDel && (PySem.W.tailIn K LQ bm && (PySem.W.nsOkIn K cd.ns && (cd.hasDict && LK bm)))))
    |_,_=>false)
  |_=>false
structure XCls (h:Heap)(C:Addr)(nm qn:Str)(N:Addr)(bs bm:List Value)(sn:List Str)(sub:List Value)(ab:Bool)(col:Option Bool)(dd:Option Addr)(k0 k1 k2 k3 k5:Option Value):Prop where
 obj:h.get? C=some (excClassObj nm qn C N bs bm true sn sub ab col dd k0 k1 k2 k3 k5 "ValueError.__new__")
 tail:OwnTail h LQ bm
 ns:h.Ns N (h.nsMap N)
 over:LK bm=true
noncomputable def T_ (K:Fgx) (C:Addr):Bool:=match K.lookup C with
 |some ⟨_,_,.cls cd,_⟩=>PySem.W.nsIn K cd.ns "__init__"==some none
 |_=>false
noncomputable def Gj (K:Fgx) (C:Addr):Bool:=PySem.W.findIn K (.ref C) "__getattribute__"==some (some (.builtin "BaseException.__getattribute__")) &&
 (PySem.W.findIn K (.ref C) "__getattr__"==some none && PySem.W.mroIn K C (.type "BaseException")==some true)
noncomputable def xo (a C:Addr) (dx:Option Addr) (b:Bool):HO:=.ext fun h=>∃oe vs t,h.get? a=some oe/\oe.cls=.ref C/\oe.dict=dx/\oe.data=.fields vs/\vs.size=6/\vs[0]? =some (.ref t)/\(b=true->vs[1]? =some .none)
theorem zd6 (x:∃oe vs t,h.get? a=some oe/\oe.cls=.ref C/\oe.dict=dx/\oe.data=.fields vs/\vs.size=6/\vs[0]? =some (.ref t)/\(b=true->vs[1]? =some .none)):
  cH P w H h a (xo a C dx b):=by
 obtain⟨oe,vs,t,e,r⟩:=x;exact⟨⟨oe,vs,t,e,r⟩,⟨oe,e⟩,fun h1 h2 ⟨oe,vs,t,e,r⟩ k=>⟨oe,vs,t,k _ e,r⟩⟩
def Gn (h:Heap)(a T:Addr):Prop:=∃oe vs oT ts,h.get? a=some oe/\oe.data=.fields vs/\vs[1]? =some (.ref T)/\T≠a/\h.get? T=some oT/\oT.data=.fields ts/\ts[3]? =some .none
section
variable {P:Program}{w:World}{H:Hp}{h h':Heap}{fs ch:List Addr}{z a C T:Addr}{oe:Obj}{fl:Value}{dx:Option Addr}{b:Bool}{vs:Array Value}
theorem Yl (N:Noted fs z h h' a oe T .none)(e1:h.get? a=some oe)(e2:oe.data=.fields vs)(e3:vs.size=6):Gn h' a T:=by
 obtain⟨oT,ts,t1,t2,t3⟩:=N.tb;refine⟨_,_,oT,ts,N.exc,xbK e2 _,by simp[e3],fun q=>?_,t1,t2,t3⟩;have z:=xap (xao e1) N.new;rw[q]at z;exact absurd z (xbT _)
theorem Yo (N:Noted fs z h h' a oe T fl)(x:∃vs t,oe.cls=.ref C/\oe.dict=dx/\oe.data=.fields vs/\vs.size=6/\vs[0]? =some (.ref t)):∃oe vs t,h'.get? a=some oe/\oe.cls=.ref C/\oe.dict=dx/\oe.data=.fields vs/\vs.size=6/\vs[0]? =some (.ref t)/\(false=true->vs[1]? =some .none):=by
 obtain⟨vs,t,c1,c2,c3,c4,c5⟩:=x;refine⟨_,_,t,N.exc,(Obj.cls_mapFields _ _).trans c1,?_,xbK c3 _,by simp[c4],?_,fun q=>by cases q⟩
 ·obtain⟨_,_,od,_⟩:=oe;dsimp only at c3;subst c3;exact c2
 ·rw[Array.getElem?_setIfInBounds_ne (by decide)];exact c5
theorem zbr (N:Noted fs z h h' a oe T fl)(ha:H a=some (xo a C dx b))(hz:z=a\/z∈ch):Un fs ch H (upd H a (xo a C dx false)) h h':=by
 have n1:∀c,H c=none->c≠a:=fun c n q=>by rw[q,ha]at n;cases n
 have n2:∀c,c≠a->c∉ch->c≠z:=fun c n m q=>by
  rcases hz with r |r
  ·exact n (q.trans r)
  ·exact m (q ▸ r)
 have n3:∀c u,H c=some u->(∀φ,u≠ .ext φ)->c≠a:=fun c u q m r=>by
  rw[r,ha]at q;exact m _ (xaA q).symm
 refine ⟨fun c o q n hc hx=>N.keep c o hc (n1 c n) (n2 c (n1 c n) hx) q,fun c o q n hc hx=>N.slot c o hc (n1 c n) (n2 c (n1 c n) hx) q,fun c o q n hx=>by rw[aW (n1 c n)];exact n,fun c o q hx=>?_,
  fun c xs q=>by rw[aW (n3 c _ q (by intro _ z;cases z))];exact q,fun c o u q=>by rw[aW (n3 c _ q (by intro _ z;cases z))];exact q,fun c ps q=>⟨#[],by rw[aW (n3 c _ q (by intro _ z;cases z)),q];simp⟩⟩
 by_cases ca:c=a
 ·rw[ca];exact⟨_,N.exc⟩
 ·by_cases cf:c∈fs
  ·obtain⟨sl,r⟩:=N.slot c o cf ca (n2 c ca hx) q;exact⟨_,r⟩
  ·exact⟨o,N.keep c o cf ca (n2 c ca hx) q⟩
theorem Ws (ok:bZ P w H h)(N:Noted fs z h h' a oe T fl)(ha:H a=some (xo a C dx b))(hz:z=a\/H z=none)(hf:∀c∈fs,H c=none)
  (x:∃vs t,oe.cls=.ref C/\oe.dict=dx/\oe.data=.fields vs/\vs.size=6/\vs[0]? =some (.ref t)):bZ P w (upd H a (xo a C dx false)) h':=fun c u q=>by
 have n3:∀c u,H c=some u->(∀φ,u≠ .ext φ)->c≠a:=fun c u q m r=>by
  rw[r,ha]at q;exact m _ (xaA q).symm
 by_cases hc:c=a
 ·subst hc;rw[bJ]at q;cases q;exact zd6 (Yo N x)
 ·rw [aW hc] at q;have kp : ∀ d u v, H d = some u -> d ≠ a -> h.get? d = some v -> h'.get? d = some v := fun d u v q nd r => N.keep d v (fun m => by rw [hf d m] at q; cases q) nd (fun e=>by
   rcases hz with g |g
   ·exact nd (e.trans g)
   ·rw[e,g]at q;cases q) r
  refine(ok c u q).stay (fun d v hd r=>?_) (fun d r=>by rw[aW (n3 d _ r (by intro _ z;cases z))];exact r) fun d xs r=>by rw[aW (n3 d _ r (by intro _ z;cases z))];exact r
  rcases hd with rfl |hd
  ·exact kp d u v q hc r
  ·exact kp d _ v hd (n3 d _ hd (by intro _ z;cases z)) r
theorem Un.less (u:Un (L::fs) ch H H' h h')(n:h.get? L=none):Un fs ch H H' h h':=by
 have m:∀c o,h.get? c=some o->c≠L:=fun c o q e=>by rw[e,n]at q;cases q
 exact⟨fun c o q k hc hx=>u.keep c o q k (fun z=>(xaq.mp z).elim (m c o q) hc) hx,fun c o q k hc hx=>u.slot c o q k (xal _ hc) hx,u.free,u.there,u.tups,u.frzs,u.tbls⟩
end
noncomputable def xH (P:Program) (w:World):fj:=fun outer H s E e s'=>∃a C dx H' T,e=.ref a/\s'.os=s.os/\AllBare s'.gens/\Un (frs outer) [] H H' s.heap s'.heap/\bZ P w H' s'.heap/\H' a=some (xo a C dx false)/\H' T=none/\s.heap.objs.size<=T/\Gn s'.heap a T/\E (.ref C) dx H'
theorem zcZ (e:H a=some o):upd H a o=H:=by
 funext b;unfold upd
 split
 ·subst_vars;exact e.symm
 ·rfl
theorem zc2 (ok:bZ P w H h)(e:H a=some (xo a C dx b)):
  ∃oe vs t,h.get? a=some oe/\oe.cls=.ref C/\oe.dict=dx/\oe.data=.fields vs/\vs.size=6/\vs[0]? =some (.ref t)/\(b=true->vs[1]? =some .none):=(ok a _ e).1
section
variable {X:Cx}{pins:Pnx}{σ:St}{H:Hp}{s:Shared}
noncomputable def Gk (K : Fgx) (C : Addr) : Bool := Gj K C && (PySem.W.hasDictIn K C && (PySem.W.findIn K (.ref C) "__class__"==some (some (.builtin "object.__class__")) &&
 (PySem.W.specialIn K (.builtin "object.__class__") "__get__"==some (some (.builtin "getset_descriptor.__get__")) && (PySem.W.takesIn K (.builtin "object.__class__")==some true && PySem.W.mroIn K C (.type "object")==some true))))
end
section
variable {X:Cx}{pins:Pnx}{σ:St}{H:Hp}{s:Shared}
structure Caught (X:Cx)(pins:Pnx)(σ:St)(H:Hp)(s:Shared)(a C:Addr)(dx:Option Addr)(T:Addr):Prop where
 inv:Inv X pins σ H s
 obj:H a=some (xo a C dx false)
 fl:Gn s.heap a T
 hT:H T=none
 t1:X.s₀.heap.objs.size<=T
 t2:T≠X.env.locals
 t3:∀x c,X.env.cells.lookup x=some c->c≠T
 t4:∀p∈X.pn ++ pins,p.1≠T
theorem U8 (I:Inv X pins σ H s)(h:s.heap.objs.size<=T):X.s₀.heap.objs.size<=T/\T≠X.env.locals/\(∀x c,X.env.cells.lookup x=some c->c≠T)/\∀p∈X.pn ++ pins,p.1≠T:=by
 refine⟨xay I.sz h,xcN (xap I.lt h),fun x c e=>?_,fun p hp=>?_⟩
 ·obtain⟨v,o,ho,_⟩:=I.cell x c e;exact xaI (xap (xao ho) h)
 ·exact xaI (xap (xao (I.pin p hp).1) h)
variable {a C T:Addr}{dx:Option Addr}{Q:Unit->Shared->Prop}{E:Value->Shared->Prop}{M:Model}
theorem Caught.note (c:Caught X pins σ H s a C dx T)(hs:X.stack=X.env::X.outer)(hf:X.env.frame=some X.env.locals)(k:∀s' T',Caught X pins σ H s' a C dx T'->Q () s'):
  wpAny M X.A (noteFrame (.ref a) X.env) (fun _ s2=>wpAny M X.A (setFlight (.ref a) none) Q E s2) E s:=by
 obtain ⟨oe, vs, t, e1, e2, e3, e4, e5, e6, _⟩ := zc2 c.inv.hok c.obj;obtain ⟨oe', vs', oT, ts, f1, f2, f3, f4, f5, f6, f7⟩ := c.fl;rw [e1] at f1;cases f1;rw [e4] at f2;cases f2;have fr := c.inv.ok.frames;have st := c.inv.stack;rw [hs] at fr st;refine Yk fr st hf e1 e4 f3 f4 f5 f6 f7 fun h' T' N => Ym (s := { s with heap := h' }) N e1 e4 (by lia) fun h2 N2 => k _ T' ?_;have hx : ∃ vs t, oe.cls = .ref C /\ oe.dict = dx /\ oe.data = .fields vs /\ vs.size = 6 /\ vs[0]? = some (.ref t) := ⟨vs, t, e2, e3, e4, e5, e6⟩;rw [<- hs] at N2;have u := zbr (ch := [T]) N2 c.obj (.inr (xaB.mpr rfl));have hk := Ws c.inv.hok N2 c.obj (.inr c.hT) (fun b hb => c.inv.stkFree b hb) hx;rw [zcZ c.obj] at u hk;have I2 : Inv X pins σ H { s with heap := h2 } := c.inv.call' (s' := { s with heap := h2 }) rfl u hk c.inv.bare (fun b hb=>by
  rw[xaB.mp hb];exact⟨.inr c.t1,c.t2,c.t3,c.t4⟩)
 obtain⟨z1,z2,z3,z4⟩:=U8 c.inv N2.new;exact⟨I2,c.obj,Yl N2 e1 e4 e5,c.inv.hok.fresh N2.new,z1,z2,z3,z4⟩
end
abbrev Cx.pin (X:Cx)(pins:Pnx)(E:Value->Shared->Prop):Cx:={X with pn:=X.pn ++ pins,xe:=E}
abbrev Cx.suite (X:Cx)(e:Value):Cx:={X with A:=X.A.mark (some e),calm:=false,xe:=fun _ _=>False}
end L2
namespace E3
open PySem PySem.Spec PyProof.Rows L2
inductive D where
 |non |bl (b:Bool) |int (i:Int) |str (s:Str) |tup (xs:List D) |lst (xs:List D) |ref (n:Nat)
structure FnT where
 st:Stmt
 x:Str
 q:Str
 pos:Pos
 fr:List Str
 dd:List Int:=[]
inductive Cl where
  |lst (ds:List D) |obj (c:Str) (fs:List (Str×D)) |dct (kvs:List (L2.Key×D))
    |dcf (kvs:List (L2.Key×D))
    |dtc (kvs:List (List L2.Key×D)) |dtf (kvs:List (List L2.Key×D))
    |fn (i:FnT) (caps:List (Str×D)) |tbl (nm:Str) (i:FnT)
    |tpc (ds:List D)
abbrev Mm:=List Cl
inductive Slot where
 |un |val (d:D) |own (ds:List D) |exc (c:Str) (n:Int)
abbrev Env:=List Slot
mutual
def D.lf:D->Bool
 |.tup xs=>D.lfs xs
 |.lst _=>false
 |.ref _=>false
 |_=>true
def D.lfs:List D->Bool
 | []=>true
 |a::as=>D.lf a && D.lfs as
end
def KL (K:Fgx)(a:Addr)(vs:List V):Prop:=∃(o:Obj) (its:Array Value) (n:Nat),K.lookup a=some o/\o.cls=.type "list"/\o.dict=none/\o.data=.seq its n/\its.size<=sizeLine/\Vals vs its.toList
structure Pl where
 io:Nat->Addr
 n:Nat
 bd:Addr->Prop
def t_ (K:Fgx)(P:Pl)(H:Hp)(a:Addr)(vs:List V):Prop:=(¬ P.bd a/\Rd H a (.lst vs))\/KL K a vs
def Ml (K:Fgx)(P:Pl)(H:Hp)(a:Addr)(vs:List V):Prop:=((∀k,k<P.n->P.io k≠a)/\Rd H a (.lst vs))\/KL K a vs
mutual
def Is (K:Fgx)(P:Pl)(H:Hp):D->V->Prop
 |.non,v=>v=.non
 |.bl b,v=>v=.bl b
 |.int i,v=>v=.int i
 |.str s,v=>v=.str s
 |.tup ds,v=>∃a vs,v=.ref a/\cZ K H a vs/\aA K P H ds vs
 |.lst ds,v=>∃a vs,v=.ref a/\t_ K P H a vs/\aA K P H ds vs
 |.ref k,v=>k<P.n/\v=.ref (P.io k)
def aA (K:Fgx)(P:Pl)(H:Hp):List D->List V->Prop
 | [],vs=>vs=[]
 |d::ds,vs=>∃v r,vs=v::r/\Is K P H d v/\aA K P H ds r
end
def Fx (o:HO):Prop:=(∃xs,o=.tup xs)\/(∃u w,o=.frz u w)\/(∃g,o=.ext g)\/∃fs,o=.xd fs
structure Lt (P:Pl)(H:Hp)(P':Pl)(H':Hp):Prop where
 n:P.n<=P'.n
 io:∀k,k<P.n->P'.io k=P.io k
 bd:∀a,P'.bd a->P.bd a\/H a=none
 keep:∀a o,H a=some o->(Fx o\/¬ P.bd a)->H' a=some o
 sure:∀a,H' a=none->H a=none
section
variable {K:Fgx}{P P' P'':Pl}{H H' H'':Hp}
theorem Lt.refl (P:Pl)(H:Hp):Lt P H P H:=⟨xaf _,fun _ _=>rfl,fun _ z=>.inl z,fun _ _ e _=>e,fun _ z=>z⟩
theorem Lt.frz (l:Lt P H P' H'):∀b o u,H b=some (.frz o u)->H' b=some (.frz o u):=fun b o u e=>l.keep b _ e (.inl (.inr (.inl ⟨_,_,rfl⟩)))
theorem Lt.fz (l:Lt P H P' H'):∀b o c,H b=some (.frz o (.own c))->H' b=some (.frz o (.own c)):=fun b o c e=>l.frz b o _ e
theorem Lt.not (l:Lt P H P' H')(e:H a=some o)(n:¬ P.bd a):¬ P'.bd a:=fun z=>(l.bd a z).elim n fun z=>by rw[e]at z;cases z
theorem Lt.trans (l:Lt P H P' H')(m:Lt P' H' P'' H''):Lt P H P'' H'' where
 n:=xay l.n m.n
 io:=fun k h=>(m.io k (xap h l.n)).trans (l.io k h)
 bd:=fun a z=>(m.bd a z).elim (l.bd a) fun z=>.inr (l.sure a z)
 keep:=fun a o e h=>m.keep a o (l.keep a o e h) (h.imp id fun n=>l.not e n)
 sure:=fun a z=>l.sure a (m.sure a z)
theorem Lt.rd (l:Lt P H P' H')(n:¬ P.bd a)(h:Rd H a (.lst xs)):Rd H' a (.lst xs):=by
 rcases h with h |⟨o,h⟩
 ·exact .inl (l.keep _ _ h (.inr n))
 ·exact .inr ⟨o,l.keep _ _ h (.inr n)⟩
theorem Q7 (h:Rd H a o):∃o',H a=some o':=h.elim (fun h=>⟨_,h⟩) fun⟨_,h⟩=>⟨_,h⟩
theorem Lt.rda (l:Lt P H P' H')(h:t_ K P H a xs):t_ K P' H' a xs:=h.imp (fun⟨n,h⟩=>⟨by obtain⟨o,e⟩:=Q7 h;exact l.not e n,l.rd n h⟩) id
theorem Lt.tup (l:Lt P H P' H')(h:cZ K H a xs):cZ K H' a xs:=by
 rcases h with(h |⟨o,h⟩) |h
 ·exact .inl (.inl (l.keep _ _ h (.inl (.inl ⟨_,rfl⟩))))
 ·exact .inl (.inr ⟨o,l.keep _ _ h (.inl (.inr (.inl ⟨_,_,rfl⟩)))⟩)
 ·exact .inr h
mutual
theorem Is.mv (n:P.n<=P'.n)(io:∀k,k<P.n->P'.io k=P.io k)(t:∀a vs,cZ K H a vs->cZ K H' a vs)(r:∀a vs,t_ K P H a vs->t_ K P' H' a vs):∀{d:D} {v:V},Is K P H d v->Is K P' H' d v
  |.non,_,h=>h
  |.bl _,_,h=>h
  |.int _,_,h=>h
  |.str _,_,h=>h
  |.tup ds,_,h=>by
    obtain⟨a,vs,e,s,q⟩:=h;exact⟨a,vs,e,t _ _ s,aA.mv n io t r q⟩
  |.lst ds,_,h=>by
    obtain⟨a,vs,e,s,q⟩:=h;exact⟨a,vs,e,r _ _ s,aA.mv n io t r q⟩
  |.ref k,_,h=>⟨xap h.1 n,by rw[io k h.1];exact h.2⟩
theorem aA.mv (n:P.n<=P'.n)(io:∀k,k<P.n->P'.io k=P.io k)(t:∀a vs,cZ K H a vs->cZ K H' a vs)(r:∀a vs,t_ K P H a vs->t_ K P' H' a vs):∀{ds:List D} {vs:List V},aA K P H ds vs->aA K P' H' ds vs
  | [],_,h=>h
  |_::_,_,h=>by
    obtain⟨v,w,e,p,q⟩:=h;exact⟨v,w,e,Is.mv n io t r p,aA.mv n io t r q⟩
end
theorem Is.lt (l:Lt P H P' H'){d:D}{v:V}(h:Is K P H d v):Is K P' H' d v:=Is.mv l.n l.io (fun _ _=>l.tup) (fun _ _=>l.rda) h
theorem aA.lt (l:Lt P H P' H'){ds:List D}{vs:List V}(h:aA K P H ds vs):aA K P' H' ds vs:=aA.mv l.n l.io (fun _ _=>l.tup) (fun _ _=>l.rda) h
theorem aA.rd (s:∀b xs,Rd H b (.tup xs)->Rd H' b (.tup xs))(t:∀b xs,Rd H b (.lst xs)->Rd H' b (.lst xs)){ds:List D}{vs:List V}(h:aA K P H ds vs):aA K P H' ds vs:=
 aA.mv (xaf _) (fun _ _=>rfl) (fun _ _=>xdT (s _ _) id) (fun _ _=>xdT (fun z=>⟨z.1,t _ _ z.2⟩) id) h
noncomputable def Pl.less (P:Pl) (B:Addr->Prop):Pl:={P with bd:=fun a=>P.bd a/\B a}
theorem Is.less (h:Is K P H d v):Is K (P.less B) H d v:=Is.mv (P:=P) (P':=P.less B) (xaf _) (fun _ _=>rfl) (fun _ _ z=>z) (fun _ _ s=>s.imp (fun⟨n,h⟩=>⟨fun z=>n z.1,h⟩) id) h
theorem aA.less (h:aA K P H ds vs):aA K (P.less B) H ds vs:=aA.mv (P:=P) (P':=P.less B) (xaf _) (fun _ _=>rfl) (fun _ _ z=>z) (fun _ _ s=>s.imp (fun⟨n,h⟩=>⟨fun z=>n z.1,h⟩) id) h
mutual
theorem Is.free (P':Pl):∀{d:D} {v:V},d.lf=true->Is K P H d v->Is K P' H d v
  |.non,_,_,h=>h
  |.bl _,_,_,h=>h
  |.int _,_,_,h=>h
  |.str _,_,_,h=>h
  |.tup ds,_,l,h=>by
    obtain⟨a,vs,e,s,r⟩:=h;exact⟨a,vs,e,s,aA.free P' (by simpa only[D.lf] using l) r⟩
  |.lst _,_,l,_=>by simp[D.lf]at l
  |.ref _,_,l,_=>by simp[D.lf]at l
theorem aA.free (P':Pl):∀{ds:List D} {vs:List V},D.lfs ds=true->aA K P H ds vs->aA K P' H ds vs
  | [],_,_,h=>h
  |_::_,_,l,h=>by
    obtain⟨v,r,e,p,q⟩:=h;simp only[D.lfs,xaC]at l;exact⟨v,r,e,Is.free P' l.1 p,aA.free P' l.2 q⟩
end
theorem aA.len:∀{ds:List D} {vs:List V},aA K P H ds vs->vs.length=ds.length
  | [],_,h=>by rw[show _=[] from h];rfl
  |d::ds,_,h=>by
    obtain⟨v,r,e,_,q⟩:=h;subst e
    simp[aA.len q]
theorem aA.get:∀{ds:List D} {vs:List V} {i:Nat} {d:D},aA K P H ds vs->ds[i]? =some d->∃v,vs[i]? =some v/\Is K P H d v
  | [],_,_,_,_,e=>by simp at e
  |d::ds,_,0,_,h,e=>by
    obtain⟨v,r,e',p,_⟩:=h
    simp at e
    subst e e';exact⟨v,rfl,p⟩
  |d::ds,_,i + 1,_,h,e=>by
    obtain⟨v,r,e',_,q⟩:=h;subst e'
    simpa using aA.get (i:=i) q (by simpa using e)
theorem aA.append:∀{ds es:List D} {vs ws:List V},aA K P H ds vs->aA K P H es ws->aA K P H (ds ++ es) (vs ++ ws)
  | [],_,_,_,h,q=>by rw[show _=[] from h];exact q
  |d::ds,_,_,_,h,q=>by
    obtain⟨v,r,e,p,h⟩:=h;subst e;exact⟨v,r ++ _,rfl,p,aA.append h q⟩
theorem aA.take:∀{ds:List D} {vs:List V} (n:Nat),aA K P H ds vs->aA K P H (ds.take n) (vs.take n)
  |_,_,0,_=>rfl
  | [],_,n + 1,h=>by rw[show _=[] from h];rfl
  |d::ds,_,n + 1,h=>by
    obtain⟨v,r,e,p,h⟩:=h;subst e;exact⟨v,_,rfl,p,aA.take n h⟩
theorem aA.drop:∀{ds:List D} {vs:List V} (n:Nat),aA K P H ds vs->aA K P H (ds.drop n) (vs.drop n)
  |_,_,0,h=>h
  | [],_,n + 1,h=>by rw[show _=[] from h];rfl
  |d::ds,_,n + 1,h=>by
    obtain⟨v,r,e,p,h⟩:=h;subst e;exact aA.drop n h
theorem aA.one (h:Is K P H d v):aA K P H [d] [v]:=⟨v,[],rfl,h,rfl⟩
theorem aA.set:∀{ds:List D} {vs:List V} {d:D} {v:V} (n:Nat),aA K P H ds vs->Is K P H d v->aA K P H (ds.set n d) (vs.set n v)
  | [],_,_,_,_,h,_=>by rw[show _=[] from h];rfl
  |d::ds,_,_,_,0,h,p=>by
    obtain⟨v,r,e,_,h⟩:=h;subst e;exact⟨_,r,rfl,p,h⟩
  |d::ds,_,_,_,n + 1,h,p=>by
    obtain⟨v,r,e,q,h⟩:=h;subst e;exact⟨v,_,rfl,q,aA.set n h p⟩
end
noncomputable def lQ (H:Hp):List (Str×Addr)->List V->Prop
 | [],vs=>vs=[]
 |p::r,vs=>∃v ws u o,vs=v::ws/\RelV v u/\H p.2=some (.frz o (.own p.2))/\o.data=.cell (some u)/\lQ H r ws
theorem lQ.up {H H':Hp}(s:∀b o u,H b=some (.frz o (.own u))->H' b=some (.frz o (.own u))):∀{cl:List (Str×Addr)} {vs:List V},lQ H cl vs->lQ H' cl vs
  | [],_,h=>h
  |_::_,_,h=>by
    obtain⟨v,ws,u,o,e,r,q,d,h⟩:=h;exact⟨v,ws,u,o,e,r,s _ _ _ q,d,h.up s⟩
def lR (H:Hp)(c:Addr)(q:Str):Prop:=∃(o:Obj) (fs:Array Value) (t:Tok),H c=some (.frz o (.own c))/\o.data=.fields fs/\fs[1]? =some (.str q t)
theorem lR.up {H H':Hp}{c:Addr}{q:Str}(s:∀b o u,H b=some (.frz o (.own u))->H' b=some (.frz o (.own u)))(h:lR H c q):lR H' c q:=by
 obtain⟨o,fs,t,e,r⟩:=h;exact⟨o,fs,t,s _ _ _ e,r⟩
def lV (H:Hp)(dd:List Int)(dV:Value):Prop:=(dd=[]/\dV=.none)\/(dd≠ []/\∃(td:Addr) (o:Obj) (its:Array Value) (n:Nat),dV=.ref td/\H td=some (.frz o (.own td))/\o.data=.seq its n/\Vals (dd.map V.int) its.toList)
theorem lV.up {H H':Hp}{dd:List Int}{dV:Value}(s:∀b o u,H b=some (.frz o (.own u))->H' b=some (.frz o (.own u)))(h:lV H dd dV):lV H' dd dV:=
 h.imp id fun⟨e,td,o,its,n,e1,e2,r⟩=>⟨e,td,o,its,n,e1,s _ _ _ e2,r⟩
noncomputable def Oo (mg:Mgx) (i:FnT) (cl:List (Str×Addr)) (dV doc ctv:Value) (c:Addr):Obj:={cls:=.type "function",data:=.func (PySem.W.fnX i.x i.q (b_ i.st) (bO i.st) (aM i.st) cl dV .none doc ((mg "__name__").getD .none) none (.ref c) ctv)}
def xJ (K:Fgx)(mg:Mgx)(P:Pl)(H:Hp)(a:Addr)(i:FnT)(caps:List (Str×D)):Prop:=
 ∃(cl:List (Str×Addr)) (dV doc ctv:Value) (c:Addr) (vs:List V),H a=some (.frz (Oo mg i cl dV doc ctv c) (.own a))/\(lR H c i.q/\lV H i.dd dV)/\(cl.map (·.1)=caps.map (·.1)/\caps.map (·.1)=i.fr)/\aA K P H (caps.map (·.2)) vs/\lQ H cl vs/\∀x y a,cl.lookup x=some a->cl.lookup y=some a->x=y
theorem xJ.up {K:Fgx}{mg:Mgx}{P P':Pl}{H H':Hp}{a:Addr}{i:FnT}{caps:List (Str×D)}(h:xJ K mg P H a i caps)(s:∀b o u,H b=some (.frz o (.own u))->H' b=some (.frz o (.own u)))(q:∀ds vs,aA K P H ds vs->aA K P' H' ds vs):xJ K mg P' H' a i caps:=by
 obtain⟨cl,dV,doc,ctv,c,vs,e1,e2,e3,e4,e5,e6⟩:=h;exact⟨cl,dV,doc,ctv,c,vs,s _ _ _ e1,⟨e2.1.up s,e2.2.up s⟩,e3,q _ _ e4,e5.up s,e6⟩
def Ul (K:Fgx)(H:Hp)(a:Addr)(nm:Str)(i:FnT):Prop:=
 ∃(c:Addr) (ps:Array Value),PySem.W.tabIn K nm=some (c,a)/\H a=some (.tbl ps)/\(ps= #[]\/∃c',ps= #[rawInt i.pos.line,rawInt i.pos.col,.ref c']/\lR H c' i.q)
noncomputable def m8 (K:Fgx) (mg:Mgx) (P:Pl) (H:Hp) (a:Addr):Cl->Prop
 |.lst ds=>∃vs,H a=some (.lst vs)/\aA K P H ds vs
 |.obj c fs=>∃C dx gs,mg c=some (.ref C)/\H a=some (.ins C dx gs)/\gs.map (·.1)=fs.map (·.1)/\aA K P H (fs.map (·.2)) (gs.map (·.2))
 |.dct kvs=>∃vs:List (L2.Key×V),H a=some (.dK vs)/\vs.map (·.1)=kvs.map (·.1)/\aA K P H (kvs.map (·.2)) (vs.map (·.2))
 |.dcf kvs=>∃(vs:List (L2.Key×V)) (ob:Obj) (es:Array DictEntry) (ep:Nat),H a=some (.frz ob (.dK vs))/\ob.data=.dict es ep/\vs.map (·.1)=kvs.map (·.1)/\aA K P H (kvs.map (·.2)) (vs.map (·.2))
 |.dtc kvs=>∃vs:List (List L2.Key×V),H a=some (.dT vs)/\vs.map (·.1)=kvs.map (·.1)/\aA K P H (kvs.map (·.2)) (vs.map (·.2))
 |.dtf kvs=>∃(vs:List (List L2.Key×V)) (ob:Obj) (es:Array DictEntry) (ep:Nat),H a=some (.frz ob (.dT vs))/\ob.data=.dict es ep/\vs.map (·.1)=kvs.map (·.1)/\aA K P H (kvs.map (·.2)) (vs.map (·.2))
 |.fn i caps=>xJ K mg P H a i caps
 |.tbl nm i=>Ul K H a nm i
 |.tpc ds=>∃vs,H a=some (.tup vs)/\aA K P H ds vs
noncomputable def Cl.fix:Cl->Bool
 |.dcf _=>true
 |.dtf _=>true
 |.fn _ _=>true
 |.tpc _=>true
 |_=>false
theorem m8.up {K:Fgx}{mg:Mgx}{P P':Pl}{H H':Hp}{a:Addr}{c:Cl}(h:m8 K mg P H a c)(e:∀o,H a=some o->(∀g,o≠ .ext g)->H' a=some o)(s:∀b o u,H b=some (.frz o (.own u))->H' b=some (.frz o (.own u)))(q:∀ds vs,aA K P H ds vs->aA K P' H' ds vs):m8 K mg P' H' a c:=by
  cases c with
  |lst ds=>
    obtain⟨vs,e1,r⟩:=h;exact⟨vs,e _ e1 (fun _ z=>nomatch z),q _ _ r⟩
  |obj c fs=>
    obtain⟨C,dx,gs,e1,e2,e3,r⟩:=h;exact⟨C,dx,gs,e1,e _ e2 (fun _ z=>nomatch z),e3,q _ _ r⟩
  |dct kvs=>
    obtain⟨vs,e1,e2,r⟩:=h;exact⟨vs,e _ e1 (fun _ z=>nomatch z),e2,q _ _ r⟩
  |dtc kvs=>
    obtain⟨vs,e1,e2,r⟩:=h;exact⟨vs,e _ e1 (fun _ z=>nomatch z),e2,q _ _ r⟩
  |dcf kvs=>
    obtain⟨vs,ob,es,ep,e1,eD,e2,r⟩:=h;exact⟨vs,ob,es,ep,e _ e1 (fun _ z=>nomatch z),eD,e2,q _ _ r⟩
  |dtf kvs=>
    obtain⟨vs,ob,es,ep,e1,eD,e2,r⟩:=h;exact⟨vs,ob,es,ep,e _ e1 (fun _ z=>nomatch z),eD,e2,q _ _ r⟩
  |fn i caps=>exact xJ.up h s q
  |tbl nm i=>
    obtain⟨c,ps,e1,e2,e3⟩:=h;exact⟨c,ps,e1,e _ e2 (fun _ z=>nomatch z),e3.imp id fun⟨c',z,r⟩=>⟨c',z,r.up s⟩⟩
  |tpc ds=>
    obtain⟨vs,e1,r⟩:=h;exact⟨vs,e _ e1 (fun _ z=>nomatch z),q _ _ r⟩
structure Hk (K:Fgx)(mg:Mgx)(P:Pl)(H:Hp)(M:Mm):Prop where
 n:P.n=M.length
 cell:∀(k:Nat) c,M[k]? =some c->m8 K mg P H (P.io k) c
 inj:∀j k,j<P.n->k<P.n->P.io j=P.io k->j=k
 bd:∀k,k<P.n->P.bd (P.io k)
 here:∀a,P.bd a->H a≠none
structure LtE (P:Pl)(H:Hp)(P':Pl)(H':Hp):Prop where
 n:P.n<=P'.n
 io:∀k,k<P.n->P'.io k=P.io k
 bd:∀a,P'.bd a->P.bd a\/H a=none
 bm:∀a,P.bd a->P'.bd a
 keep:∀a o,H a=some o->(Fx o\/∀k,k<P.n->P.io k≠a)->H' a=some o
 sure:∀a,H' a=none->H a=none
 nw:∀k,P.n<=k->k<P'.n->H (P'.io k)=none
section
variable {K:Fgx}{mg:Mgx}{P P' P'':Pl}{H H' H'':Hp}{M M':Mm}
theorem LtE.refl (P:Pl)(H:Hp):LtE P H P H:=⟨xaf _,fun _ _=>rfl,fun _ z=>.inl z,fun _ z=>z,fun _ _ e _=>e,fun _ z=>z,fun k h1 h2=>absurd h1 (xd7.mpr h2)⟩
theorem LtE.same (s:Same H H'):LtE P H P H':=⟨xaf _,fun _ _=>rfl,fun _ z=>.inl z,fun _ z=>z,fun a o e _=>s a o e,fun a z=>s.free z,fun k h1 h2=>absurd h1 (xd7.mpr h2)⟩
theorem Hk.cellAt (h:Hk K mg P H M)(hc:M[k]? =some c)(nd:c.fix=false:=by rfl):∃o,H (P.io k)=some o/\¬ Fx o:=by
  have:=h.cell k c hc
  cases c with
  |lst ds=>
    obtain⟨vs,e,_⟩:=this;exact⟨_,e,fun z=>by rcases z with⟨_,z⟩ |⟨_,_,z⟩ |⟨_,z⟩ |⟨_,z⟩<;>cases z⟩
  |obj c fs=>
    obtain⟨C,dx,gs,_,e,_⟩:=this;exact⟨_,e,fun z=>by rcases z with⟨_,z⟩ |⟨_,_,z⟩ |⟨_,z⟩ |⟨_,z⟩<;>cases z⟩
  |dct kvs=>
    obtain⟨vs,e,_⟩:=this;exact⟨_,e,fun z=>by rcases z with⟨_,z⟩ |⟨_,_,z⟩ |⟨_,z⟩ |⟨_,z⟩<;>cases z⟩
  |dtc kvs=>
    obtain⟨vs,e,_⟩:=this;exact⟨_,e,fun z=>by rcases z with⟨_,z⟩ |⟨_,_,z⟩ |⟨_,z⟩ |⟨_,z⟩<;>cases z⟩
  |dcf kvs=>cases nd
  |dtf kvs=>cases nd
  |fn i caps=>cases nd
  |tpc ds=>cases nd
  |tbl nm i=>
    obtain⟨c,ps,_,e,_⟩:=this;exact⟨_,e,fun z=>by rcases z with⟨_,z⟩ |⟨_,_,z⟩ |⟨_,z⟩ |⟨_,z⟩<;>cases z⟩
theorem LtE.lt (l:LtE P H P' H')(h:Hk K mg P H M):Lt P H P' H' where
 n:=l.n
 io:=l.io
 bd:=l.bd
 sure:=l.sure
 keep:=fun a o e z=>l.keep a o e (z.imp id fun z k hk q=>z (q ▸ h.bd k hk))
theorem LtE.trans (l:LtE P H P' H')(m:LtE P' H' P'' H''):LtE P H P'' H'' where
 n:=xay l.n m.n
 io:=fun k h=>(m.io k (xap h l.n)).trans (l.io k h)
 bd:=fun a z=>(m.bd a z).elim (l.bd a) fun z=>.inr (l.sure a z)
 bm:=fun a z=>m.bm a (l.bm a z)
 keep:=fun a o e h=>m.keep a o (l.keep a o e h) <| h.imp id fun h k hk q=>by
  rcases xaT k P.n with z |z
  ·rw[l.io k z]at q;exact h k z q
  ·rw[<-q,l.nw k z hk]at e;cases e
 sure:=fun a z=>l.sure a (m.sure a z)
 nw:=fun k h1 h2=>by
  rcases xaT k P'.n with z |z
  ·rw[m.io k z];exact l.nw k h1 z
  ·exact l.sure _ (m.nw k z h2)
end
inductive Cp where
 |eq |ne |lt |le |gt |ge |isin |notin |same |other
mutual
def D.eq:D->D->Bool
 |.non,.non=>true
 |.bl a,.bl b=>a==b
 |.bl a,.int b=>(if a then 1 else 0)==b
 |.int a,.bl b=>a==(if b then 1 else 0)
 |.int a,.int b=>a==b
 |.str a,.str b=>a==b
 |.tup a,.tup b=>D.eqs a b
 |.lst a,.lst b=>D.eqs a b
 |.ref a,.ref b=>a==b
 |_,_=>false
def D.eqs:List D->List D->Bool
 | [],[]=>true
 |a::as,b::bs=>D.eq a b && D.eqs as bs
 |_,_=>false
end
mutual
def D.dep:D->Nat
 |.tup xs=>D.deps xs + 1
 |.lst xs=>D.deps xs + 1
 |.ref _=>101
 |_=>0
def D.deps:List D->Nat
 | []=>0
 |a::as=>max (D.dep a) (D.deps as)
end
noncomputable def D.flat:D->Bool
 |.tup _=>false
 |.lst _=>false
 |.ref _=>false
 |_=>true
noncomputable def O3 (i j:Str):Bool:= !(Builtin.Str.occurrences j i 0 j.length 1).isEmpty
def eU (a b:D):Bool:=a.flat==b.flat && decide (b.dep<=50)
noncomputable def rP (a b:D):Option Bool:=if eU a b=true/\a.dep<=50 then some (D.eq a b) else none
noncomputable def vd (a b:D):Option Bool:=if eU a b=true/\a.dep<=50 then some (!D.eq a b) else none
noncomputable def dF (f:Int->Int->Bool) (a b:D):Option Bool:=match a with
 |.int i=>(match b with |.int j=>some (f i j) |_=>none)
 |_=>none
noncomputable def rQ (a b:D):Option Bool:=match b with
 |.str j=>(match a with |.str i=>some (O3 i j) |_=>none)
 |.lst xs=>if (a.flat && xs.all D.flat)=true then some (xs.any fun y=>D.eq y a) else none
 |.tup xs=>if (a.flat && xs.all D.flat)=true then some (xs.any fun y=>D.eq y a) else none
 |_=>none
noncomputable def fM (a b:D):Option Bool:=match b with
 |.str j=>(match a with |.str i=>some (!O3 i j) |_=>none)
 |.lst xs=>if (a.flat && xs.all D.flat)=true then some (!xs.any fun y=>D.eq y a) else none
 |.tup xs=>if (a.flat && xs.all D.flat)=true then some (!xs.any fun y=>D.eq y a) else none
 |_=>none
noncomputable def rW (a b:D):Option Bool:=match b with
 |.bl b=>(match a with |.bl a=>some (a==b) |_=>some false)
 |.non=>(match a with |.non=>some true |_=>some false)
 |_=>none
noncomputable def rR (a b:D):Option Bool:=match b with
 |.bl b=>(match a with |.bl a=>some (!(a==b)) |_=>some true)
 |.non=>(match a with |.non=>some false |_=>some true)
 |_=>none
noncomputable def dw (c:Cp) (a b:D):Option Bool:=match c with
 |.eq=>rP a b
 |.ne=>vd a b
 |.lt=>dF (fun i j=>decide (i<j)) a b
 |.le=>dF (fun i j=>decide (i<=j)) a b
 |.gt=>dF (fun i j=>decide (j<i)) a b
 |.ge=>dF (fun i j=>decide (j<=i)) a b
 |.isin=>rQ a b
 |.notin=>fM a b
 |.same=>rW a b
 |.other=>rR a b
noncomputable def cY (K:Fgx) (P:Pl) (H:Hp):D->V->Prop
 |.lst ds,v=>∃a vs,v=.ref a/\Ml K P H a vs/\aA K P H ds vs
 |d,v=>Is K P H d v
section
variable {X:Cx}{pins:Pnx}{σ:L2.St}{H:Hp}{s:Shared}
theorem zdM {K:Fgx}{P:Pl}{a:Addr}{xs:List V}(h:Ml K P H a xs):bI K H a xs:=h.imp (·.2) id
noncomputable def bV (K:Fgx) (P:Pl) (H:Hp):D->V->Prop
 |.lst ds,v=>∃a vs,v=.ref a/\bI K H a vs/\aA K P H ds vs
 |d,v=>Is K P H d v
theorem cY.w {K:Fgx}{P:Pl}{d:D}{v:V}(h:cY K P H d v):bV K P H d v:=by
 cases d<;>first |exact h |(obtain⟨a,vs,e,r,q⟩:=h;exact⟨a,vs,e,zdM r,q⟩)
theorem Is.w {K:Fgx}{P:Pl}{d:D}{v:V}(h:Is K P H d v):bV K P H d v:=by
 cases d<;>first |exact h |(obtain⟨a,vs,e,r,q⟩:=h;exact⟨a,vs,e,r.imp (·.2) id,q⟩)
theorem sql (I:Inv X pins σ H s)(h:bI X.K H l xs):xs.length<=sizeLine/\∃its:List Value,Vals xs its/\s.heap.IsList l its.toArray:=by
 obtain⟨its,r,p,z⟩:=I.list h;exact⟨z,its,r,p.isList⟩
mutual
theorem Is.inj (I:Inv X pins σ H s):∀(d e:D) (v:V),bV X.K A H d v->bV X.K B H e v->d.dep<=100->e.dep<=100->d=e
  |.ref _,e,v,h,h',hd,he=>by simp[D.dep]at hd
  |.non,e,v,h,h',hd,he=>by
    have hv:v=.non:=h;subst hv;cases e<;>first |(simp[D.dep]at he;done) |(simp[bV,Is]at h'<;>rfl)
  |.bl b,e,v,h,h',hd,he=>by
    have hv:v=.bl b:=h;subst hv;cases e<;>first |(simp[D.dep]at he;done) |(simp[bV,Is]at h'<;>simp[h'])
  |.int b,e,v,h,h',hd,he=>by
    have hv:v=.int b:=h;subst hv;cases e<;>first |(simp[D.dep]at he;done) |(simp[bV,Is]at h'<;>simp[h'])
  |.str b,e,v,h,h',hd,he=>by
    have hv:v=.str b:=h;subst hv;cases e<;>first |(simp[D.dep]at he;done) |(simp[bV,Is]at h'<;>simp[h'])
  |.tup ds,e,v,h,h',hd,he=>by
    simp only[D.dep]at hd;simp only[bV,Is]at h;obtain⟨a,vs,rfl,t,r⟩:=h
    cases e with
    |tup es=>
      simp only[bV,Is]at h';obtain⟨b,ws,e1,t',r'⟩:=h';cases e1;have e2:=I.tuple_inj t t';subst e2;simp only[D.dep]at he;rw[aA.inj I ds es vs r r' (by lia) (by lia)]
    |lst es=>
      obtain⟨b,ws,e1,t',r'⟩:=h';cases e1;obtain⟨_,its,_,o2,e2,c2,_⟩:=sql I t';obtain⟨its2,_,⟨o,e3,c3,_⟩,_⟩:=I.tuple t;rw[e2]at e3;cases e3;rw[c2]at c3;exact absurd c3 (by simp)
    |ref _=>simp[D.dep]at he
    |_=>simp[bV,Is]at h'
  |.lst ds,e,v,h,h',hd,he=>by
    simp only[D.dep]at hd;obtain⟨a,vs,rfl,t,r⟩:=h
    cases e with
    |lst es=>
      obtain⟨b,ws,e1,t',r'⟩:=h';cases e1;have e2:=I.list_inj (t) (t');subst e2;simp only[D.dep]at he;rw[aA.inj I ds es vs r r' (by lia) (by lia)]
    |tup es=>
      simp only[bV,Is]at h';obtain⟨b,ws,e1,t',r'⟩:=h';cases e1;obtain⟨_,its,_,o2,e2,c2,_⟩:=sql I t;obtain⟨its2,_,⟨o,e3,c3,_⟩,_⟩:=I.tuple t';rw[e2]at e3;cases e3;rw[c2]at c3;exact absurd c3 (by simp)
    |ref _=>simp[D.dep]at he
    |_=>simp[bV,Is]at h'
theorem aA.inj (I:Inv X pins σ H s):∀(ds es:List D) (vs:List V),aA X.K A H ds vs->aA X.K B H es vs->D.deps ds<=100->D.deps es<=100->ds=es
  | [],es,vs,h,h',hd,he=>by
    have hv:vs=[]:=h;subst hv
    cases es with
    |nil=>rfl
    |cons=>simp[aA]at h'
  |d::ds,es,vs,h,h',hd,he=>by
    simp only[D.deps]at hd;obtain⟨v,r,rfl,p,q⟩:=h
    cases es with
    |nil=>simp[aA]at h'
    |cons e es=>
      obtain⟨v',r',e1,p',q'⟩:=h';cases e1;simp only[D.deps]at he;rw[Is.inj I d e v p.w p'.w (by lia) (by lia),aA.inj I ds es r q q' (by lia) (by lia)]
end
mutual
theorem D.eq_refl:∀d:D,D.eq d d=true
 |.non=>rfl
 |.bl b=>by simp[D.eq]
 |.int b=>by simp[D.eq]
 |.str b=>by simp[D.eq]
 |.tup ds=>by simp only[D.eq];exact D.eqs_refl ds
 |.lst ds=>by simp only[D.eq];exact D.eqs_refl ds
 |.ref n=>by simp[D.eq]
theorem D.eqs_refl:∀d:List D,D.eqs d d=true
 | []=>rfl
 |d::ds=>by simp only[D.eqs,D.eq_refl d,D.eqs_refl ds,xeP]
end
theorem D.eqs_len:∀(ds es:List D),ds.length≠es.length->D.eqs ds es=false
  | [],[],h=>absurd rfl h
  | [],_::_,_=>rfl
  |_::_,[],_=>rfl
  |d::ds,e::es,h=>by
    simp only[D.eqs,D.eqs_len ds es (by simpa using h),xeC]
theorem D.eqs_all:∀(ds es:List D),ds.length=es.length->D.eqs ds es=(List.range ds.length).all fun j=>D.eq (ds.getD j .non) (es.getD j .non)
  | [],[],_=>rfl
  |d::ds,e::es,h=>by
    rw[D.eqs,D.eqs_all ds es (by simpa using h),xav,List.range_succ_eq_map,xci,List.all_map];rfl
mutual
theorem HX (I:Inv X pins σ H s):∀(d e:D) (v w:V) (u u':Value),bV X.K A H d v->bV X.K B H e w->RelV v u->RelV w u'->Ar.units + d.dep<cLine->d.dep<=100->e.dep<=100->SeqAt.EqAt Ar s u u' (D.eq d e)
  |.ref _,e,v,w,u,u',h1,h2,r1,r2,hu,hd,he=>by simp[D.dep]at hd
  |.non,e,v,w,u,u',h1,h2,r1,r2,hu,hd,he=>by
    have hv:v=.non:=h1;subst hv;cases r1;have hu':Ar.units<cLine:=by lia
    cases e with
    |ref _=>simp[D.dep]at he
    |non=>have hw:w=.non:=h2;subst hw;cases r2;exact xdC _
    |bl b=>have hw:w=.bl b:=h2;subst hw;cases r2;exact SeqAt.EqAt.none_bool _
    |int b=>have hw:w=.int b:=h2;subst hw;obtain⟨t,rfl⟩:=r2;exact SeqAt.EqAt.none_int _ _
    |str b=>have hw:w=.str b:=h2;subst hw;obtain⟨t,rfl⟩:=r2;exact SeqAt.EqAt.none_str _ _
    |tup es=>obtain⟨a,vs,rfl,t,_⟩:=h2;cases r2;obtain⟨its,_,p,_⟩:=I.tuple t;exact SeqAt.EqAt.none_tuple p hu'
    |lst es=>obtain⟨a,vs,rfl,t,_⟩:=h2;cases r2;obtain⟨_,its,_,p⟩:=sql I t;exact SeqAt.EqAt.none_list p hu'
  |.bl x,e,v,w,u,u',h1,h2,r1,r2,hu,hd,he=>by
    have hv:v=.bl x:=h1;subst hv;cases r1;have hu':Ar.units<cLine:=by lia
    cases e with
    |ref _=>simp[D.dep]at he
    |non=>have hw:w=.non:=h2;subst hw;cases r2;exact SeqAt.EqAt.bool_none _
    |bl b=>have hw:w=.bl b:=h2;subst hw;cases r2;exact SeqAt.EqAt.bool_bool _ _
    |int b=>have hw:w=.int b:=h2;subst hw;obtain⟨t,rfl⟩:=r2;exact SeqAt.EqAt.bool_int _ _ _
    |str b=>have hw:w=.str b:=h2;subst hw;obtain⟨t,rfl⟩:=r2;exact SeqAt.EqAt.bool_str _ _ _
    |tup es=>obtain⟨a,vs,rfl,t,_⟩:=h2;cases r2;obtain⟨its,_,p,_⟩:=I.tuple t;exact SeqAt.EqAt.bool_tuple _ p hu'
    |lst es=>obtain⟨a,vs,rfl,t,_⟩:=h2;cases r2;obtain⟨_,its,_,p⟩:=sql I t;exact SeqAt.EqAt.bool_list _ p hu'
  |.int x,e,v,w,u,u',h1,h2,r1,r2,hu,hd,he=>by
    have hv:v=.int x:=h1;subst hv;obtain⟨t0,rfl⟩:=r1;have hu':Ar.units<cLine:=by lia
    cases e with
    |ref _=>simp[D.dep]at he
    |non=>have hw:w=.non:=h2;subst hw;cases r2;exact SeqAt.EqAt.int_none _ _
    |bl b=>have hw:w=.bl b:=h2;subst hw;cases r2;exact SeqAt.EqAt.int_bool _ _ _
    |int b=>have hw:w=.int b:=h2;subst hw;obtain⟨t,rfl⟩:=r2;exact xdR _ _ _ _
    |str b=>have hw:w=.str b:=h2;subst hw;obtain⟨t,rfl⟩:=r2;exact xdP _ _ _ _
    |tup es=>obtain⟨a,vs,rfl,t,_⟩:=h2;cases r2;obtain⟨its,_,p,_⟩:=I.tuple t;exact SeqAt.EqAt.int_tuple _ _ p hu'
    |lst es=>obtain⟨a,vs,rfl,t,_⟩:=h2;cases r2;obtain⟨_,its,_,p⟩:=sql I t;exact SeqAt.EqAt.int_list _ _ p hu'
  |.str x,e,v,w,u,u',h1,h2,r1,r2,hu,hd,he=>by
    have hv:v=.str x:=h1;subst hv;obtain⟨t0,rfl⟩:=r1;have hu':Ar.units<cLine:=by lia
    cases e with
    |ref _=>simp[D.dep]at he
    |non=>have hw:w=.non:=h2;subst hw;cases r2;exact SeqAt.EqAt.str_none _ _
    |bl b=>have hw:w=.bl b:=h2;subst hw;cases r2;exact SeqAt.EqAt.str_bool _ _ _
    |int b=>have hw:w=.int b:=h2;subst hw;obtain⟨t,rfl⟩:=r2;exact xdQ _ _ _ _
    |str b=>have hw:w=.str b:=h2;subst hw;obtain⟨t,rfl⟩:=r2;exact xdS _ _ _ _
    |tup es=>obtain⟨a,vs,rfl,t,_⟩:=h2;cases r2;obtain⟨its,_,p,_⟩:=I.tuple t;exact SeqAt.EqAt.str_tuple _ _ p hu'
    |lst es=>obtain⟨a,vs,rfl,t,_⟩:=h2;cases r2;obtain⟨_,its,_,p⟩:=sql I t;exact SeqAt.EqAt.str_list _ _ p hu'
  |.tup ds,e,v,w,u,u',h1,h2,r1,r2,hu,hd,he=>by
    have h1':=h1;have hd':=hd;simp only[D.dep]at hu hd;have hu':Ar.units<cLine:=by lia
    obtain⟨a,vs,rfl,t,q⟩:=h1;cases r1;obtain⟨its,rv,p,hz⟩:=I.tuple t
    cases e with
    |ref _=>simp[D.dep]at he
    |non=>have hw:w=.non:=h2;subst hw;cases r2;exact SeqAt.EqAt.tuple_none p hu'
    |bl b=>have hw:w=.bl b:=h2;subst hw;cases r2;exact SeqAt.EqAt.tuple_bool _ p hu'
    |int b=>have hw:w=.int b:=h2;subst hw;obtain⟨t,rfl⟩:=r2;exact SeqAt.EqAt.tuple_int _ _ p hu'
    |str b=>have hw:w=.str b:=h2;subst hw;obtain⟨t,rfl⟩:=r2;exact SeqAt.EqAt.tuple_str _ _ p hu'
    |tup es=>
      have h2':=h2;have he':=he;simp only[D.dep]at he;obtain⟨b,ws,rfl,t',q'⟩:=h2;cases r2
      by_cases hab:a=b
      · subst hab;rw[Is.inj I _ _ _ h1' h2' hd' he',D.eq_refl];exact xdC _
      · obtain⟨its',rv',p',hz'⟩:=I.tuple t';refine SeqAt.EqAt.of_refs hab ?_;have l1:its.toArray.size=ds.length:=by rw[xan, <-rv.length,q.len]
        have l2:its'.toArray.size=es.length:=by rw[xan, <-rv'.length,q'.len]
        have key:=SeqAt.RcAt.tuples (A:=Ar) (s:=s) (e:=fun j=>D.eq (ds.getD j .non) (es.getD j .non)) p p' hu' fun j j1 j2=>by
          simpa using zp I ds es vs ws its its' q q' rv rv' (Ar:=Ar.in1) (by show Ar.units + 1 + _<_;lia) (by lia) (by lia) j (by simpa using j1) (by simpa using j2)
        rw[l1,l2]at key
        by_cases hl:ds.length=es.length
        · rw[show D.eq (.tup ds) (.tup es)=D.eqs ds es from rfl,D.eqs_all ds es hl];rw[hl,Nat.min_self,xbJ,xeQ]at key;rw[hl];exact key
        · rw[show D.eq (.tup ds) (.tup es)=D.eqs ds es from rfl,D.eqs_len ds es hl];rw[xbh.mpr hl,xeC]at key;exact key
    |lst es=>obtain⟨b,ws,rfl,t',_⟩:=h2;cases r2;obtain⟨_,its',_,p'⟩:=sql I t';exact SeqAt.EqAt.tuple_list p p' hu'
  |.lst ds,e,v,w,u,u',h1,h2,r1,r2,hu,hd,he=>by
    have h1':=h1;have hd':=hd;simp only[D.dep]at hu hd;have hu':Ar.units<cLine:=by lia
    obtain⟨a,vs,rfl,t,q⟩:=h1;cases r1;obtain⟨hz,its,rv,p⟩:=sql I t
    cases e with
    |ref _=>simp[D.dep]at he
    |non=>have hw:w=.non:=h2;subst hw;cases r2;exact SeqAt.EqAt.list_none p hu'
    |bl b=>have hw:w=.bl b:=h2;subst hw;cases r2;exact SeqAt.EqAt.list_bool _ p hu'
    |int b=>have hw:w=.int b:=h2;subst hw;obtain⟨t,rfl⟩:=r2;exact SeqAt.EqAt.list_int _ _ p hu'
    |str b=>have hw:w=.str b:=h2;subst hw;obtain⟨t,rfl⟩:=r2;exact SeqAt.EqAt.list_str _ _ p hu'
    |tup es=>obtain⟨b,ws,rfl,t',_⟩:=h2;cases r2;obtain⟨its',_,p',_⟩:=I.tuple t';exact SeqAt.EqAt.list_tuple p p' hu'
    |lst es=>
      have h2':=h2;have he':=he;simp only[D.dep]at he;obtain⟨b,ws,rfl,t',q'⟩:=h2;cases r2
      by_cases hab:a=b
      · subst hab;rw[Is.inj I _ _ _ h1' h2' hd' he',D.eq_refl];exact xdC _
      · obtain⟨hz',its',rv',p'⟩:=sql I t';refine SeqAt.EqAt.of_refs hab ?_;have l1:its.toArray.size=ds.length:=by rw[xan, <-rv.length,q.len]
        have l2:its'.toArray.size=es.length:=by rw[xan, <-rv'.length,q'.len]
        by_cases hl:ds.length=es.length
        · have key:=SeqAt.RcAt.lists (A:=Ar) (s:=s) (e:=fun j=>D.eq (ds.getD j .non) (es.getD j .non)) p p' (by rw[l1,l2,hl]) hu' fun j j1 j2=>by
            simpa using zp I ds es vs ws its its' q q' rv rv' (Ar:=Ar.in1) (by show Ar.units + 1 + _<_;lia) (by lia) (by lia) j (by simpa using j1) (by simpa using j2)
          rw[show D.eq (.lst ds) (.lst es)=D.eqs ds es from rfl,D.eqs_all ds es hl];rw[l1]at key;exact key
        · rw[show D.eq (.lst ds) (.lst es)=D.eqs ds es from rfl,D.eqs_len ds es hl];exact xef p p' (by rw[l1,l2];simpa using hl) hu'
theorem zp (I:Inv X pins σ H s):∀(ds es:List D) (vs ws:List V) (its its':List Value),aA X.K A H ds vs->aA X.K B H es ws->Vals vs its->Vals ws its'->Ar.units + D.deps ds<cLine->D.deps ds<=100->D.deps es<=100->
    ∀(j:Nat) (h1:j<its.length) (h2:j<its'.length),SeqAt.EqAt Ar s its[j] its'[j] (D.eq (ds.getD j .non) (es.getD j .non))
  | [],es,vs,ws,its,its',h,h',r,r',hu,hd,he,j,j1,j2=>by
    have hv:vs=[]:=h;subst hv;cases r;exact absurd j1 (xcC _)
  |d::ds,[],vs,ws,its,its',h,h',r,r',hu,hd,he,j,j1,j2=>by
    have hv:ws=[]:=h';subst hv;cases r';exact absurd j2 (xcC _)
  |d::ds,e::es,vs,ws,its,its',h,h',r,r',hu,hd,he,j,j1,j2=>by
    obtain⟨v,vr,rfl,p,q⟩:=h;obtain⟨w,wr,rfl,p',q'⟩:=h';simp only[D.deps]at hu hd he
    cases r with
    |cons r1 r2=>
      cases r' with
      |cons r1' r2'=>
        cases j with
        |zero=>exact HX I d e v w _ _ p.w p'.w r1 r1' (by lia) (by lia) (by lia)
        |succ j=>exact zp I ds es vr wr _ _ q q' r2 r2' (by lia) (by lia) (by lia) j (by simpa using j1) (by simpa using j2)
end
theorem RP {d e:D}{A B:Pl}{K:Fgx}{v w:V}(fd:d.flat=true)(fe:e.flat=true)(h1:bV K A H d v)(h2:bV K B H e w):
  (rF v w=true/\D.eq d e=decide (v=w))\/(∃a i,v=.bl a/\w=.int i/\D.eq d e=((if a then 1 else 0)==i))\/∃a i,v=.int i/\w=.bl a/\D.eq d e=(i==(if a then 1 else 0)):=by
 cases d<;>cases e<;>simp only[D.flat,xa3]at fd fe<;>simp only[bV,Is]at h1 h2<;>subst h1 h2<;>simp[rF,D.eq]
 all_goals first |rfl |(rw[xbP];simp)
noncomputable def p7 (K:Fgx) (neg:Bool):R2:=fun x y H Q=>∃(A B:Pl) (d e:D),bV K A H d x/\bV K B H e y/\eU d e=true/\d.dep<=50/\Q (.bl (if neg then !D.eq d e else D.eq d e)) H
theorem Q5 (I:Inv X pins σ H s){A B:Pl}{d e:D}{x y:V}{v u:Value}(hu:X.A.units + 60<cLine)(h1:bV X.K A H d x)(h2:bV X.K B H e y)(rx:RelV x v)(ry:RelV y u)(fd:d.flat=false)(fe:e.flat=false)(hd:d.dep<=50)(he:e.dep<=50):
    SeqAt.RcAt X.A s v u (D.eq d e)/\SeqAt.RcNeAt X.A s v u (!D.eq d e):=by
  have hu':X.A.units<cLine:=by lia
  cases d with
  |tup ds=>
    obtain⟨a,vs,rfl,t,p⟩:=h1;cases rx;obtain⟨its,rv,pt,hz⟩:=I.tuple t;simp only[D.dep]at hd
    cases e with
    |tup es=>
      obtain⟨b,ws,rfl,t',p'⟩:=h2;cases ry;obtain⟨its',rv',pt',hz'⟩:=I.tuple t';have l1:its.toArray.size=ds.length:=by rw[xan, <-rv.length,p.len]
      have l2:its'.toArray.size=es.length:=by rw[xan, <-rv'.length,p'.len]
      have ea:∀(j:Nat) (j1:j<its.toArray.size) (j2:j<its'.toArray.size),SeqAt.EqAt X.A.in1 s its.toArray[j] its'.toArray[j] (D.eq (ds.getD j .non) (es.getD j .non)):=fun j j1 j2=>by
        simpa using zp I ds es vs ws its its' p p' rv rv' (Ar:=X.A.in1) (by show X.A.units + 1 + _<_;lia) (by lia) (by simp only[D.dep]at he;lia) j (by simpa using j1) (by simpa using j2)
      have key:=SeqAt.RcAt.tuples (A:=X.A) (s:=s) (e:=fun j=>D.eq (ds.getD j .non) (es.getD j .non)) pt pt' hu' ea;have kn:=SeqAt.RcNeAt.tuples (A:=X.A) (s:=s) (e:=fun j=>D.eq (ds.getD j .non) (es.getD j .non)) pt pt' hu' ea;rw[l1,l2]at key kn;rw[show D.eq (.tup ds) (.tup es)=D.eqs ds es from rfl]
      by_cases hl:ds.length=es.length
      · rw[D.eqs_all ds es hl];rw[hl,Nat.min_self,xbJ,xeQ]at key kn;rw[hl];exact⟨key,kn⟩
      · rw[D.eqs_len ds es hl];rw[xbh.mpr hl,xeC]at key kn;exact⟨key,kn⟩
    |lst es=>
      obtain⟨b,ws,rfl,t',p'⟩:=h2;cases ry;obtain⟨_,its',rv',e'⟩:=sql I t';exact⟨SeqAt.RcAt.tuple_list pt e' hu',SeqAt.RcNeAt.tuple_list pt e' hu'⟩
    |ref _=>simp[D.dep]at he
    |_=>cases fe
  |lst ds=>
    obtain⟨a,vs,rfl,t,p⟩:=h1;cases rx;obtain⟨hz,its,rv,pt⟩:=sql I t;simp only[D.dep]at hd
    cases e with
    |tup es=>
      obtain⟨b,ws,rfl,t',p'⟩:=h2;cases ry;obtain⟨its',rv',pt',hz'⟩:=I.tuple t';exact⟨SeqAt.RcAt.list_tuple pt pt' hu',SeqAt.RcNeAt.list_tuple pt pt' hu'⟩
    |lst es=>
      obtain⟨b,ws,rfl,t',p'⟩:=h2;cases ry;obtain⟨_,its',rv',pt'⟩:=sql I t';have l1:its.toArray.size=ds.length:=by rw[xan, <-rv.length,p.len]
      have l2:its'.toArray.size=es.length:=by rw[xan, <-rv'.length,p'.len]
      rw[show D.eq (.lst ds) (.lst es)=D.eqs ds es from rfl]
      by_cases hl:ds.length=es.length
      · have ea:∀(j:Nat) (j1:j<its.toArray.size) (j2:j<its'.toArray.size),SeqAt.EqAt X.A.in1 s its.toArray[j] its'.toArray[j] (D.eq (ds.getD j .non) (es.getD j .non)):=fun j j1 j2=>by
          simpa using zp I ds es vs ws its its' p p' rv rv' (Ar:=X.A.in1) (by show X.A.units + 1 + _<_;lia) (by lia) (by simp only[D.dep]at he;lia) j (by simpa using j1) (by simpa using j2)
        have key:=SeqAt.RcAt.lists (A:=X.A) (s:=s) (e:=fun j=>D.eq (ds.getD j .non) (es.getD j .non)) pt pt' (by rw[l1,l2,hl]) hu' ea;have kn:=SeqAt.RcNeAt.lists (A:=X.A) (s:=s) (e:=fun j=>D.eq (ds.getD j .non) (es.getD j .non)) pt pt' (by rw[l1,l2,hl]) hu' ea;rw[D.eqs_all ds es hl];rw[l1]at key kn;exact⟨key,kn⟩
      · rw[D.eqs_len ds es hl];exact⟨xef pt pt' (by rw[l1,l2];simpa using hl) hu',SeqAt.RcNeAt.lists_lengths pt pt' (by rw[l1,l2];simpa using hl) hu'⟩
    |ref _=>simp[D.dep]at he
    |_=>cases fe
  |ref _=>simp[D.dep]at hd
  |_=>cases fd
theorem Zd (hu:X.A.units + 60<cLine):bU X (compareOp .Eq) (p7 X.K false):=by
  intro pins s σ H x y v u Q I rx ry h;obtain⟨A,B,d,e,h1,h2,hk,hd,q⟩:=h;have q:Q (.bl (D.eq d e)) H:=q;simp only[eU,xaC,xbp,xcn]at hk
  cases fd:d.flat with
  |true=>
    rcases RP fd (hk.1.symm.trans fd) h1 h2 with⟨sc,eq⟩ |⟨a,i,rfl,rfl,eq⟩ |⟨a,i,rfl,rfl,eq⟩
    · exact Zc pins s σ H x y v u Q I rx ry ⟨sc,by rw[<-eq];exact q⟩
    · cases rx;obtain⟨t,rfl⟩:=ry;exact EqBoolInt.eq_bool_int ⟨.bl _,H,I,rfl,by rw[<-eq];exact q⟩
    · cases ry;obtain⟨t,rfl⟩:=rx;exact EqBoolInt.eq_int_bool ⟨.bl _,H,I,rfl,by rw[<-eq];exact q⟩
  |false=>exact EqBoolInt.of_rc (Q5 I hu h1 h2 rx ry fd (hk.1.symm.trans fd) hd hk.2).1 ⟨.bl _,H,I,rfl,q⟩
theorem Zq (hu:X.A.units + 60<cLine):bU X (compareOp .NotEq) (p7 X.K true):=by
  intro pins s σ H x y v u Q I rx ry h;obtain⟨A,B,d,e,h1,h2,hk,hd,q⟩:=h;have q:Q (.bl (!D.eq d e)) H:=q;simp only[eU,xaC,xbp,xcn]at hk
  cases fd:d.flat with
  |true=>
    rcases RP fd (hk.1.symm.trans fd) h1 h2 with⟨sc,eq⟩ |⟨a,i,rfl,rfl,eq⟩ |⟨a,i,rfl,rfl,eq⟩
    · exact Zo pins s σ H x y v u Q I rx ry ⟨sc,by rw[<-eq];exact q⟩
    · cases rx;obtain⟨t,rfl⟩:=ry;exact EqBoolInt.ne_bool_int ⟨.bl _,H,I,rfl,by rw[<-eq];exact q⟩
    · cases ry;obtain⟨t,rfl⟩:=rx;exact EqBoolInt.ne_int_bool ⟨.bl _,H,I,rfl,by rw[<-eq];exact q⟩
  |false=>exact EqBoolInt.of_rcne (Q5 I hu h1 h2 rx ry fd (hk.1.symm.trans fd) hd hk.2).2 ⟨.bl _,H,I,rfl,q⟩
noncomputable def Hu:Cp->CmpOp
 |.eq=>.Eq
 |.ne=>.NotEq
 |.lt=>.Lt
 |.le=>.LtE
 |.gt=>.Gt
 |.ge=>.GtE
 |.isin=>.In
 |.notin=>.NotIn
 |.same=>.Is
 |.other=>.IsNot
noncomputable def JX (K:Fgx):Cp->R2
 |.eq=>p7 K false
 |.ne=>p7 K true
 |.lt=>gO fun i j=>.bl (decide (i<j))
 |.le=>gO fun i j=>.bl (decide (i<=j))
 |.gt=>gO fun i j=>.bl (decide (j<i))
 |.ge=>gO fun i j=>.bl (decide (j<=i))
 |.isin=>fun x y H Q=>(∃i j,x=.str i/\y=.str j/\Q (.bl (!(Builtin.Str.occurrences j i 0 j.length 1).isEmpty)) H)\/Ep K false x y H Q
 |.notin=>fun x y H Q=>(∃i j,x=.str i/\y=.str j/\Q (.bl (!(!(Builtin.Str.occurrences j i 0 j.length 1).isEmpty))) H)\/Ep K true x y H Q
 |.same=>fun x y H Q=>(y=.non/\Q (.bl (decide (x=.non))) H)\/(∃b,y=.bl b/\Q (.bl (decide (x=.bl b))) H)
 |.other=>fun x y H Q=>(y=.non/\Q (.bl (!decide (x=.non))) H)\/(∃b,y=.bl b/\Q (.bl (!decide (x=.bl b))) H)
theorem Hv (hu:X.A.units + 60<cLine):∀c:Cp,bU X (compareOp (Hu c)) (JX X.K c)
 |.eq=>Zd hu
 |.ne=>Zq hu
 |.lt=>Zn
 |.le=>Zm
 |.gt=>Zf
 |.ge=>Ze
 |.isin=>Zh.or Zg
 |.notin=>Zu.or Zr
 |.same=>Zj.or Zi
 |.other=>Zt.or Zk
theorem zB {K:Fgx}{A:Pl}{d:D}{v:V}(f:d.flat=true)(h:Is K A H d v):nj v=true:=by
 cases d<;>simp only[D.flat,xa3]at f<;>simp only[Is]at h<;>subst h<;>rfl
theorem HY {K:Fgx}{A B:Pl}{d e:D}{v w:V}(f:d.flat=true)(g:e.flat=true)(h:Is K A H d v)(h':Is K B H e w):pK v w=D.eq d e:=by
 cases d<;>cases e<;>simp only[D.flat,xa3]at f g<;>simp only[Is]at h h'<;>subst h h'<;>rfl
theorem zE {K:Fgx}{A:Pl}:∀{ds:List D} {vs:List V},ds.all D.flat=true->aA K A H ds vs->vs.all nj=true
  | [],_,_,h=>by rw[show _=[] from h];rfl
  |d::ds,_,f,h=>by
    obtain⟨v,r,rfl,p,q⟩:=h;rw[xci,xaC]at f;rw[xci,zB f.1 p,zE f.2 q];rfl
theorem mK {K:Fgx}{A B:Pl}{e:D}{w:V}(g:e.flat=true)(h':Is K B H e w):∀{ds:List D} {vs:List V},ds.all D.flat=true->aA K A H ds vs->inV w vs=ds.any fun y=>D.eq y e
  | [],_,_,h=>by rw[show _=[] from h];rfl
  |d::ds,_,f,h=>by
    obtain⟨v,r,rfl,p,q⟩:=h;rw[xci,xaC]at f;have:=mK g h' f.2 q;unfold inV at this ⊢;rw[xbN,xbN,this,HY f.1 g p h']
theorem Va {K:Fgx}{A B:Pl}{c:Cp}{d e:D}{v w:V}{b:Bool}{Q:VK}(h:dw c d e=some b)(h1:bV K A H d v)(h2:bV K B H e w)(q:Q (.bl b) H):JX K c v w H Q:=by
  cases c
  case eq=>
    simp only[dw,rP,vd]at h;split at h
    · rename_i hc;cases h;exact⟨A,B,d,e,h1,h2,hc.1,hc.2,q⟩
    · cases h
  case ne=>
    simp only[dw,rP,vd]at h;split at h
    · rename_i hc;cases h;exact⟨A,B,d,e,h1,h2,hc.1,hc.2,q⟩
    · cases h
  case isin=>
    cases e with
    |str j=>
      cases d<;>simp only[dw,dF,rQ,fM,rW,rR,reduceCtorEq]at h
      simp only[bV,Is]at h1 h2;subst h1 h2;cases h;exact .inl ⟨_,_,rfl,rfl,q⟩
    |lst xs=>
      have h':(if (d.flat && xs.all D.flat)=true then some (xs.any fun y=>D.eq y d) else none)=some b:=by cases d<;>exact h
      split at h'
      · rename_i hc;rw[xaC]at hc;cases h';obtain⟨a,vs,rfl,t,p⟩:=h2;have h1':Is K A H d v:=by cases d<;>first |exact h1 |cases hc.1
        refine .inr ⟨a,vs,rfl,.inl (t),zB hc.1 h1',zE hc.2 p,?_⟩;rw[mK hc.1 h1' hc.2 p];exact q
      · cases h'
    |tup xs=>
      have h':(if (d.flat && xs.all D.flat)=true then some (xs.any fun y=>D.eq y d) else none)=some b:=by cases d<;>exact h
      split at h'
      · rename_i hc;rw[xaC]at hc;cases h';obtain⟨a,vs,rfl,t,p⟩:=h2;have h1':Is K A H d v:=by cases d<;>first |exact h1 |cases hc.1
        refine .inr ⟨a,vs,rfl,.inr t,zB hc.1 h1',zE hc.2 p,?_⟩;rw[mK hc.1 h1' hc.2 p];exact q
      · cases h'
    |_=>cases d<;>simp only[dw,dF,rQ,fM,rW,rR,reduceCtorEq]at h
  case notin=>
    cases e with
    |str j=>
      cases d<;>simp only[dw,dF,rQ,fM,rW,rR,reduceCtorEq]at h
      simp only[bV,Is]at h1 h2;subst h1 h2;cases h;exact .inl ⟨_,_,rfl,rfl,q⟩
    |lst xs=>
      have h':(if (d.flat && xs.all D.flat)=true then some (!xs.any fun y=>D.eq y d) else none)=some b:=by cases d<;>exact h
      split at h'
      · rename_i hc;rw[xaC]at hc;cases h';obtain⟨a,vs,rfl,t,p⟩:=h2;have h1':Is K A H d v:=by cases d<;>first |exact h1 |cases hc.1
        refine .inr ⟨a,vs,rfl,.inl (t),zB hc.1 h1',zE hc.2 p,?_⟩;rw[mK hc.1 h1' hc.2 p];exact q
      · cases h'
    |tup xs=>
      have h':(if (d.flat && xs.all D.flat)=true then some (!xs.any fun y=>D.eq y d) else none)=some b:=by cases d<;>exact h
      split at h'
      · rename_i hc;rw[xaC]at hc;cases h';obtain⟨a,vs,rfl,t,p⟩:=h2;have h1':Is K A H d v:=by cases d<;>first |exact h1 |cases hc.1
        refine .inr ⟨a,vs,rfl,.inr t,zB hc.1 h1',zE hc.2 p,?_⟩;rw[mK hc.1 h1' hc.2 p];exact q
      · cases h'
    |_=>cases d<;>simp only[dw,dF,rQ,fM,rW,rR,reduceCtorEq]at h
  case same=>
    cases d<;>cases e<;>simp only[dw,dF,rQ,fM,rW,rR,reduceCtorEq]at h<;>cases h<;>simp only[bV,Is]at h1 h2
    all_goals first
      |(subst h1 h2;first |exact .inr ⟨_,rfl,by rw[Dd];exact q⟩ |exact .inl ⟨rfl,by simpa using q⟩ |exact .inr ⟨_,rfl,by simpa using q⟩)
      |(obtain⟨a,vs,rfl,_⟩:=h1;subst h2;first |exact .inl ⟨rfl,by simpa using q⟩ |exact .inr ⟨_,rfl,by simpa using q⟩)
  case other=>
    cases d<;>cases e<;>simp only[dw,dF,rQ,fM,rW,rR,reduceCtorEq]at h<;>cases h<;>simp only[bV,Is]at h1 h2
    all_goals first
      |(subst h1 h2;first |exact .inr ⟨_,rfl,by rw[Dd];exact q⟩ |exact .inl ⟨rfl,by simpa using q⟩ |exact .inr ⟨_,rfl,by simpa using q⟩)
      |(obtain⟨a,vs,rfl,_⟩:=h1;subst h2;first |exact .inl ⟨rfl,by simpa using q⟩ |exact .inr ⟨_,rfl,by simpa using q⟩)
  all_goals
    cases d<;>cases e<;>simp only[dw,dF,rQ,fM,rW,rR,reduceCtorEq]at h
    simp only[bV,Is]at h1 h2;subst h1 h2;cases h;exact⟨_,_,rfl,rfl,q⟩
end
inductive Mode where
 |val |bor
def Cu (mg:Mgx)(H:Hp)(c:Str)(n:Int)(v:V):Prop:=∃a C dx,v=.ref a/\mg c=some (.ref C)/\H a=some (xo a C dx false)/\
 match dx with
 |none=>n=0
 |some d=>∃fs,H d=some (.xd fs)/\fs.lookup ("at":Str)=some (.int (n - 1))/\n≠0
theorem Cu.lt (l:Lt P H P' H')(h:Cu mg H c n v):Cu mg H' c n v:=by
  obtain⟨a,C,dx,e,m,ea,q⟩:=h;refine⟨a,C,dx,e,m,l.keep _ _ ea (.inl (.inr (.inr (.inl ⟨_,rfl⟩)))),?_⟩
  cases dx with
  |none=>exact q
  |some d=>
    obtain⟨fs,ed,el⟩:=q;exact⟨fs,l.keep _ _ ed (.inl (.inr (.inr (.inr ⟨_,rfl⟩)))),el⟩
noncomputable def Mp (K:Fgx) (mg:Mgx) (P:Pl) (H:Hp) (o:Option Addr) (sv:Option V):Slot->Prop
 |.un=>True
 |.val d=>∃v,sv=some v/\Is K P H d v
 |.own ds=>∃a vs,o=some a/\sv=some (.ref a)/\H a=some (.lst vs)/\aA K P H ds vs
 |.exc c n=>∃v,sv=some v/\Cu mg H c n v
structure Ok (K:Fgx)(mg:Mgx)(P0:Pl)(H0:Hp)(P:Pl)(O:List (Option Addr))(H:Hp)(M:Mm)(st:L2.St)(env:Env):Prop where
 hk:Hk K mg P H M
 base:LtE P0 H0 P H
 b0:∀a,P0.bd a->H0 a≠none
 slot:∀(i:Nat) s,env[i]? =some s->Mp K mg P H (O[i]?).join (st[i]?).join s
 own:∀a,some a∈O->P.bd a/\(∀k,k<P.n->P.io k≠a)/\H0 a=none
 inj:∀(i j:Nat) a,O[i]? =some (some a)->O[j]? =some (some a)->i=j
 olen:O.length=env.length
 slen:st.length=env.length
def cB (K:Fgx)(P:Pl)(H:Hp)(m:Mode)(d:D)(v:V):Prop:=match m with
 |.val=>Is K P H d v
 |.bor=>cY K P H d v
inductive Res where
 |v (d:D) |x (c:Str) (n:Int)
abbrev O:=Option (Res×Mm)
abbrev E:=Env->Mm->O
noncomputable def bnd (o:O) (k:D->Mm->O):O:=match o with
 |some (.v d,M)=>k d M
 |some (.x c n,M)=>some (.x c n,M)
 |none=>none
theorem bN (h:bnd o k=some (r,M')):(∃d M,o=some (.v d,M)/\k d M=some (r,M'))\/∃c n,o=some (.x c n,M')/\r=.x c n:=by
 unfold bnd at h;split at h
 ·exact .inl ⟨_,_,rfl,h⟩
 ·cases h;exact .inr ⟨_,_,rfl,rfl⟩
 ·cases h
abbrev XW:=Pl->Hp->Mm->Str->Int->Prop
section
variable {K:Fgx}{mg:Mgx}{P0 P P':Pl}{H0 H H':Hp}{M M':Mm}{Os:List (Option Addr)}{st:L2.St}{env:Env}{d:D}{v:V}{m:Mode}
theorem Is.b (h:Hk K mg P H M)(i:Is K P H d v):cY K P H d v:=by
  cases d with
  |lst ds=>
    obtain⟨a,vs,e,r,q⟩:=i;exact⟨a,vs,e,r.imp (fun⟨n,r⟩=>⟨fun k hk z=>n (z ▸ h.bd k hk),r⟩) id,q⟩
  |_=>exact i
theorem cB.of (h:Hk K mg P H M)(i:Is K P H d v):cB K P H m d v:=by
 cases m with
 |val=>exact i
 |bor=>exact i.b h
theorem cB.b (h:Hk K mg P H M)(i:cB K P H m d v):cY K P H d v:=by
 cases m with
 |val=>exact Is.b h i
 |bor=>exact i
theorem LtE.nc (l:LtE P H P' H')(e:H a=some o)(n:∀k,k<P.n->P.io k≠a):∀k,k<P'.n->P'.io k≠a:=fun k hk z=>by
 rcases xaT k P.n with q |q
 ·rw[l.io k q]at z;exact n k q z
 ·rw[<-z,l.nw k q hk]at e;cases e
theorem cY.lt (l:LtE P H P' H')(h:Hk K mg P H M)(i:cY K P H d v):cY K P' H' d v:=by
  cases d with
  |lst ds=>
    obtain⟨a,vs,e,r,q⟩:=i;refine⟨a,vs,e,r.imp (fun⟨n,r⟩=>?_) id,aA.lt (l.lt h) q⟩;obtain⟨o,eo⟩:=Q7 r;refine⟨l.nc eo n,?_⟩;rcases r with r |⟨o',r⟩
    · exact .inl (l.keep _ _ r (.inr n))
    · exact .inr ⟨o',l.keep _ _ r (.inr n)⟩
  |_=>exact Is.lt (l.lt h) i
theorem Ok.next (k:Ok K mg P0 H0 P Os H M st env)(l:LtE P H P' H')(h:Hk K mg P' H' M'):Ok K mg P0 H0 P' Os H' M' st env where
  hk:=h
  base:=k.base.trans l
  b0:=k.b0
  slot:=fun i s e=>by
    have q:=k.slot i s e
    cases s with
    |un=>exact True.intro
    |val d=>
      obtain⟨v,e1,q⟩:=q;exact⟨v,e1,Is.lt (l.lt k.hk) q⟩
    |own ds=>
      obtain ⟨a, vs, e1, e2, e3, q⟩ := q;have ho := k.own a (by
        cases hx:Os[i]? with
        |none=>rw[hx]at e1;cases e1
        |some o=>rw[hx]at e1;cases o with
          |none=>cases e1
          |some b=>cases e1;exact xaP hx)
      exact⟨a,vs,e1,e2,l.keep _ _ e3 (.inr ho.2.1),aA.lt (l.lt k.hk) q⟩
    |exc c n=>
      obtain⟨v,e1,q⟩:=q;exact⟨v,e1,q.lt (l.lt k.hk)⟩
  own:=fun a z=>by
    have ho:=k.own a z;refine⟨l.bm a ho.1,?_,ho.2.2⟩;obtain⟨o,eo⟩:∃o,H a=some o:=by
      cases e:H a with
      |none=>exact absurd e (k.hk.here a ho.1)
      |some o=>exact⟨o,rfl⟩
    exact l.nc eo ho.2.1
  inj:=k.inj
  olen:=k.olen
  slen:=k.slen
theorem Hk.same (h:Hk K mg P H M)(s:Same H H'):Hk K mg P H' M:=by
 have l:Lt P H P H':=(LtE.same s).lt h;refine⟨h.n,fun k c e=>?_,h.inj,h.bd,fun a z q=>h.here a z (s.free q)⟩;exact(h.cell k c e).up (fun _ e _=>s _ _ e) l.fz fun _ _ q=>aA.lt l q
end
noncomputable def RQ (K:Fgx) (mg:Mgx) (Wx:XW) (m:Mode) (P0:Pl) (H0:Hp) (P:Pl) (H:Hp) (M':Mm) (Q:VK):Res->Prop
 |.v d=>∀P' v H',LtE P H P' H'->Hk K mg P' H' M'->cB K P' H' m d v->Q v H'
 |.x c n=>Wx P0 H0 M' c n
theorem bR (h:PE X e t)(i:∀st H Q,t' st H Q->t st H Q):PE X e t':=fun pins s σ H Q I z=>h pins s σ H Q I (i _ _ _ z)
noncomputable def tE (K:Fgx) (mg:Mgx) (Wx:XW) (m:Mode) (f:E):TE:=fun st H Q=>∃P0 H0 P Os env M r M',Ok K mg P0 H0 P Os H M st env/\f env M=some (r,M')/\RQ K mg Wx m P0 H0 P H M' Q r
structure Fit (X:Cx)(Wx:XW):Prop where
 calm:X.calm=true
 room:X.A.units + 60<cLine
section
variable {X:Cx}{Wx:XW}{m:Mode}
def SE (X:Cx)(Wx:XW)(m:Mode)(e:Expr)(f:E):Prop:=PE X e (tE X.K X.mg Wx m f)
theorem SE.bor (h : SE X Wx .val e f) : SE X Wx m e f := bR h fun st H Q ⟨P0, H0, P, Os, env, M, r, M', k, e, q⟩ => ⟨P0,H0,P,Os,env,M,r,M',k,e,by
 cases r with
 |v d=>exact fun P' v H' l h i=>q P' v H' l h (cB.of h i)
 |x c n=>exact q⟩
theorem aQ {f:E}{K:Fgx}{mg:Mgx}{P0 P:Pl}{H0 H:Hp}{Os:List (Option Addr)}{M M':Mm}{st:L2.St}{env:Env}{r:Res}{Q:VK}(k:Ok K mg P0 H0 P Os H M st env)(e:f env M=some (r,M'))
  (q:RQ K mg Wx m P0 H0 P H M' Q r):tE K mg Wx m f st H Q:=⟨P0,H0,P,Os,env,M,r,M',k,e,q⟩
noncomputable def aj (i:Nat):E:=fun env M=>match env[i]? with
 |some (.val d)=>some (.v d,M)
 |_=>none
noncomputable def Bl (i:Nat):E:=fun env M=>match env[i]? with
 |some (.val d)=>some (.v d,M)
 |some (.own ds)=>some (.v (.lst ds),M)
 |_=>none
def ak (d:D):E:=fun _ M=>some (.v d,M)
theorem nA {α:Type}{l:List (Option α)}{i:Nat}{a:α}(h:(l[i]?).join=some a):l[i]? =some (some a):=by
  cases e:l[i]? with
  |none=>rw[e]at h;cases h
  |some o=>rw[e]at h;cases o with
    |none=>cases h
    |some b=>cases h;rfl
theorem R4 {i:Nat}{x:Str}{pos:Pos}(hN:X.N[i]? =some x)(hv:uc X.env.scope x)(hd:(x==("__debug__":Str))=false:=by x_go)(hcd:(x==("__classdict__":Str))=false:=by x_go):SE X Wx .val (.Name x pos) (aj i):=by
 refine bR (Jy hN hv hd hcd) ?_;rintro st H Q ⟨P0,H0,P,Os,env,M,r,M',k,e,q⟩;unfold aj at e;split at e
 ·rename_i d hs;cases e;obtain⟨v,e1,i1⟩:=k.slot i _ hs;exact⟨v,nA e1,q P v H (LtE.refl P H) k.hk i1⟩
 ·cases e
theorem zbI {i:Nat}{x:Str}{pos:Pos}(hN:X.N[i]? =some x)(hv:uc X.env.scope x)(hd:(x==("__debug__":Str))=false:=by x_go)(hcd:(x==("__classdict__":Str))=false:=by x_go):SE X Wx .bor (.Name x pos) (Bl i):=by
 refine bR (Jy hN hv hd hcd) ?_;rintro st H Q ⟨P0,H0,P,Os,env,M,r,M',k,e,q⟩;unfold Bl at e;split at e
 ·rename_i d hs;cases e;obtain⟨v,e1,i1⟩:=k.slot i _ hs;exact⟨v,nA e1,q P v H (LtE.refl P H) k.hk (cB.of k.hk i1)⟩
 ·rename_i ds hs;cases e;obtain⟨a,vs,e1,e2,e3,i1⟩:=k.slot i _ hs;exact⟨.ref a,nA e2,q P _ H (LtE.refl P H) k.hk ⟨a,vs,rfl,.inl ⟨(k.own a (xaP (nA e1))).2.1,.inl e3⟩,i1⟩⟩
 ·cases e
theorem Kr (h:PE X e (tC v))(hd:∀P H,Is X.K P H d v):SE X Wx .val e (ak d):=by
 refine bR h ?_;rintro st H Q ⟨P0,H0,P,Os,env,M,r,M',k,e,q⟩;cases e;exact q P v H (LtE.refl P H) k.hk (hd P H)
noncomputable def vw (M:Mm) (d:D):D:=match d with
  | .ref k => (match M[k]? with
    |some (.lst ds)=>.lst ds
    |_=>.ref k)
  |d=>d
theorem cY.vw {K:Fgx}{mg:Mgx}{P:Pl}{H:Hp}{M:Mm}{d:D}{v:V}(h:Hk K mg P H M)(i:cY K P H d v):bV K P H (vw M d) v:=by
  cases d with
  |ref k=>
    unfold E3.vw;dsimp only
    split
    · rename_i ds e;obtain⟨i1,i2⟩:k<P.n/\v=.ref (P.io k):=i;obtain⟨vs,e1,q⟩:=h.cell k _ e;exact⟨_,vs,i2,.inl (.inl e1),q⟩
    · exact i
  |lst ds=>exact i.w
  |_=>exact i
noncomputable def s1 (o:D->Option D) (f:E):E:=fun env M=>bnd (f env M) fun d M1=>(o (vw M1 d)).map fun z=>(.v z,M1)
noncomputable def s2 (o:D->D->Option D) (f g:E):E:=fun env M=>bnd (f env M) fun d M1=>bnd (g env M1) fun e M2=>(o (vw M2 d) (vw M2 e)).map fun z=>(.v z,M2)
def gR (K:Fgx)(r:R2)(o:D->D->Option D):Prop:=∀(P:Pl) (H:Hp) (d e z:D) (v w:V) (Q:VK),o d e=some z->bV K P H d v->bV K P H e w->(∀p,H p=none->¬ P.bd p)->(∀u H',Same H H'->Is K P H' z u->Q u H')->r v w H Q
def Gz (K:Fgx)(r:V->Hp->VK->Prop)(o:D->Option D):Prop:=∀(P:Pl) (H:Hp) (d z:D) (v:V) (Q:VK),o d=some z->bV K P H d v->(∀p,H p=none->¬ P.bd p)->(∀u H',Same H H'->Is K P H' z u->Q u H')->r v H Q
theorem Hk.new {K:Fgx}{mg:Mgx}{P:Pl}{H:Hp}{M:Mm}(h:Hk K mg P H M):∀p,H p=none->¬ P.bd p:=fun p hp z=>h.here p z hp
theorem Ga {f g:E}{o:D->D->Option D}{r:R2}{st:L2.St}{H:Hp}{Q:VK}(po:gR X.K r o)(h:tE X.K X.mg Wx m (s2 o f g) st H Q):BP r (tE X.K X.mg Wx .bor f) (tE X.K X.mg Wx .bor g) st H Q:=by
 obtain⟨P0,H0,P,Os,env,M,rr,M',k,e,q⟩:=h;unfold s2 at e;rcases bN e with⟨d,M1,e1,e⟩ |⟨c,n,e1,rfl⟩
 ·refine aQ k e1 fun P1 v1 H1 l1 h1 i1=>?_;have k1:=k.next l1 h1
  rcases bN e with⟨d2,M2,e2,e⟩ |⟨c,n,e2,rfl⟩
  ·refine aQ k1 e2 fun P2 v2 H2 l2 h2 i2=>?_;rw[xah]at e;obtain⟨z,ez,e⟩:=e;cases e;exact po P2 H2 _ _ z v1 v2 Q ez (cY.vw h2 (cY.lt l2 h1 i1)) (cY.vw h2 i2) h2.new fun u H' s i=>q P2 u H' (l1.trans (l2.trans (LtE.same s))) (h2.same s) (cB.of (h2.same s) i)
  ·exact aQ k1 e2 q
 ·exact aQ k e1 q
theorem zeH {f:E}{o:D->Option D}{r:V->Hp->VK->Prop}{st:L2.St}{H:Hp}{Q:VK}(po:Gz X.K r o)(h:tE X.K X.mg Wx m (s1 o f) st H Q):Tg r (tE X.K X.mg Wx .bor f) st H Q:=by
 obtain⟨P0,H0,P,Os,env,M,rr,M',k,e,q⟩:=h;unfold s1 at e;rcases bN e with⟨d,M1,e1,e⟩ |⟨c,n,e1,rfl⟩
 ·refine aQ k e1 fun P1 v1 H1 l1 h1 i1=>?_;rw[xah]at e;obtain⟨z,ez,e⟩:=e;cases e;exact po P1 H1 _ z v1 Q ez (cY.vw h1 i1) h1.new fun u H' s i=>q P1 u H' (l1.trans (LtE.same s)) (h1.same s) (cB.of (h1.same s) i)
 ·exact aQ k e1 q
theorem aY (ho:bU X (binaryOp op) r)(po:gR X.K r o)(ha:SE X Wx .bor a f)(hb:SE X Wx .bor b g):SE X Wx m (.BinOp a op b pos) (s2 o f g):=
 bR (Qv ho ha hb) fun _ _ _ h=>Ga po h
theorem zcJ (ho:bU X (compareOp op) r)(po:gR X.K r o)(ha:SE X Wx .bor a f)(hb:SE X Wx .bor b g)(hm:behindInMarks op b=false:=by rfl):SE X Wx m (.Compare a [op] [b] pos) (s2 o f g):=
 bR (ZD ho ha hb hm) fun _ _ _ h=>Ga po h
theorem zeG (ho:m_ X r)(po:gR X.K r o)(ha:SE X Wx .bor a f)(hb:SE X Wx .bor b g)(hs:Gy b:=by exact fun _ _=>rfl):SE X Wx m (.Subscript a b pos) (s2 o f g):=
 bR (ZP ho ha hb hs) fun _ _ _ h=>Ga po h
noncomputable def TQ (K:Fgx) (mg:Mgx) (Wx:XW) (P0:Pl) (H0:Hp) (P:Pl) (H:Hp) (M':Mm) (Q:Bool->Hp->Prop):Res->Prop
 |.v d=>∃b,d=.bl b/\∀P' H',LtE P H P' H'->Hk K mg P' H' M'->Q b H'
 |.x c n=>Wx P0 H0 M' c n
noncomputable def rK (K:Fgx) (mg:Mgx) (Wx:XW) (f:E):TT:=fun st H Q=>∃P0 H0 P Os env M r M',Ok K mg P0 H0 P Os H M st env/\f env M=some (r,M')/\TQ K mg Wx P0 H0 P H M' Q r
def ST (X:Cx)(Wx:XW)(e:Expr)(f:E):Prop:=PT X e (rK X.K X.mg Wx f)
theorem Em (h:PT X e t)(i:∀st H Q,t' st H Q->t st H Q):PT X e t':=fun pins s σ H Q I z=>h pins s σ H Q I (i _ _ _ z)
theorem fX {f:E}{K:Fgx}{mg:Mgx}{P0 P:Pl}{H0 H:Hp}{Os:List (Option Addr)}{M M':Mm}{st:L2.St}{env:Env}{r:Res}{Q:Bool->Hp->Prop}(k:Ok K mg P0 H0 P Os H M st env)(e:f env M=some (r,M'))
  (q:TQ K mg Wx P0 H0 P H M' Q r):rK K mg Wx f st H Q:=⟨P0,H0,P,Os,env,M,r,M',k,e,q⟩
theorem Tt {f:E}{st:L2.St}{H:Hp}{Q:Bool->Hp->Prop}(h:rK X.K X.mg Wx f st H Q):Tf (tE X.K X.mg Wx .val f) st H Q:=by
  obtain⟨P0,H0,P,Os,env,M,r,M',k,e,q⟩:=h;refine aQ k e ?_
  cases r with
  |v d=>
    obtain⟨b,rfl,q⟩:=q;exact fun P' v H' l h i=>⟨b,i,q P' H' l h⟩
  |x c n=>exact q
theorem S5 (ho:bU X (compareOp op) r)(po:gR X.K r o)(ha:SE X Wx .bor a f)(hb:SE X Wx .bor b g)(hm:behindInMarks op b=false:=by rfl):ST X Wx (.Compare a [op] [b] pos) (s2 o f g):=
 Em (zcc ho ha hb hm) fun _ _ _ h=>Ga po (Tt h)
noncomputable def gK:D->Option Bool
 |.non=>some false
 |.bl b=>some b
 |.int i=>some (i !=0)
 |.str s=>if s.length<=sizeLine then some ((s.length:Int) !=0) else none
 |.lst ds=>some (!ds.isEmpty)
 |.tup ds=>some (!ds.isEmpty)
 |.ref _=>none
def dN (f:E):E:=s1 (fun d=>(gK d).map .bl) f
noncomputable def dM (f:E):E:=fun env M=>bnd (f env M) fun d M1=>match d with
 |.bl b=>some (.v (.bl (!b)),M1)
 |_=>none
noncomputable def dJ (f g:E):E:=fun env M=>bnd (f env M) fun d M1=>match d with
 |.bl b=>if b=true then g env M1 else some (.v (.bl false),M1)
 |_=>none
noncomputable def rz (f g:E):E:=fun env M=>bnd (f env M) fun d M1=>match d with
 |.bl b=>if b=true then some (.v (.bl true),M1) else g env M1
 |_=>none
noncomputable def mX (c f g:E):E:=fun env M=>bnd (c env M) fun d M1=>match d with
 |.bl b=>if b=true then f env M1 else g env M1
 |_=>none
def SW (X:Cx)(Wx:XW)(e:Expr)(f:E):Prop:=PW X e (rK X.K X.mg Wx f)
theorem QS (h:PW X e t)(i:∀st H Q,t' st H Q->t st H Q):PW X e t':=fun wh pins s σ H Q I z=>h wh pins s σ H Q I (i _ _ _ z)
theorem tR (ha:ST X Wx a f):ST X Wx (.UnaryOp .Not a pos) (dM f):=by
 refine Em (zdf ha) ?_;rintro st H Q ⟨P0,H0,P,Os,env,M,r,M',k,e,q⟩;unfold dM at e;rcases bN e with⟨d,M1,e1,e⟩ |⟨c,n,e1,rfl⟩
 ·cases d<;>simp only[reduceCtorEq]at e
  cases e;obtain⟨b,e2,q⟩:=q;cases e2;exact fX k e1 ⟨_,rfl,q⟩
 ·exact fX k e1 q
theorem zbP (ha:ST X Wx a f):SW X Wx (.BoolOp .And [a] pos) f:=zcn ha
theorem FZ (ha:ST X Wx a f):SW X Wx (.BoolOp .Or [a] pos) f:=zc3 ha
theorem zcW (ha:ST X Wx a f)(hb:SW X Wx (.BoolOp .And (b::rest) pos) g):SW X Wx (.BoolOp .And (a::b::rest) pos) (dJ f g):=by
  refine QS (zdx ha hb) ?_;rintro st H Q ⟨P0,H0,P,Os,env,M,r,M',k,e,q⟩;unfold dJ at e;rcases bN e with⟨d,M1,e1,e⟩ |⟨c,n,e1,rfl⟩
  · cases d<;>simp only[reduceCtorEq]at e
    rename_i b;refine fX k e1 ⟨b,rfl,fun P1 H1 l1 h1=>?_⟩
    cases b with
    |true=>
      rw[xac rfl]at e ⊢;refine fX (k.next l1 h1) e ?_
      cases r with
      |v d=>obtain⟨b,e2,q⟩:=q;exact⟨b,e2,fun P' H' l h=>q P' H' (l1.trans l) h⟩
      |x c n=>exact q
    |false=>
      rw[xad (by decide)]at e ⊢;cases e;obtain⟨b,e2,q⟩:=q;cases e2;exact q P1 H1 l1 h1
  · exact fX k e1 q
theorem yF (ha:ST X Wx a f)(hb:SW X Wx (.BoolOp .Or (b::rest) pos) g):SW X Wx (.BoolOp .Or (a::b::rest) pos) (rz f g):=by
  refine QS (zd0 ha hb) ?_;rintro st H Q ⟨P0,H0,P,Os,env,M,r,M',k,e,q⟩;unfold rz at e;rcases bN e with⟨d,M1,e1,e⟩ |⟨c,n,e1,rfl⟩
  · cases d<;>simp only[reduceCtorEq]at e
    rename_i b;refine fX k e1 ⟨b,rfl,fun P1 H1 l1 h1=>?_⟩
    cases b with
    |false=>
      rw[xad (by decide)]at e ⊢;refine fX (k.next l1 h1) e ?_
      cases r with
      |v d=>obtain⟨b,e2,q⟩:=q;exact⟨b,e2,fun P' H' l h=>q P' H' (l1.trans l) h⟩
      |x c n=>exact q
    |true=>
      rw[xac rfl]at e ⊢;cases e;obtain⟨b,e2,q⟩:=q;cases e2;exact q P1 H1 l1 h1
  · exact fX k e1 q
theorem SW.st (h:SW X Wx e f):ST X Wx e f:=h.pt
end
section
variable {X:Cx}{Wx:XW}{m:Mode}
theorem RQ.imp {K:Fgx}{mg:Mgx}{P0 P P1:Pl}{H0 H H1:Hp}{M':Mm}{Q:VK}{r:Res}(l:LtE P H P1 H1)(q:RQ K mg Wx m P0 H0 P H M' Q r):RQ K mg Wx m P0 H0 P1 H1 M' Q r:=by
 cases r with
 |v d=>exact fun P' v H' l' h i=>q P' v H' (l.trans l') h i
 |x c n=>exact q
theorem Ku (ha:SE X Wx m a f):SE X Wx m (.BoolOp op [a] pos) f:=Z2 ha
theorem Bo (ha:SE X Wx .val a f)(hb:SE X Wx m (.BoolOp .And (b::rest) pos) g):SE X Wx m (.BoolOp .And (a::b::rest) pos) (dJ f g):=by
  refine bR (Zx ha hb) ?_;rintro st H Q ⟨P0,H0,P,Os,env,M,r,M',k,e,q⟩;unfold dJ at e;rcases bN e with⟨d,M1,e1,e⟩ |⟨c,n,e1,rfl⟩
  · cases d<;>simp only[reduceCtorEq]at e
    rename_i b;refine aQ k e1 fun P1 v1 H1 l1 h1 i1=>⟨b,i1,?_⟩
    cases b with
    |true=>
      rw[xac rfl]at e ⊢;exact aQ (k.next l1 h1) e (RQ.imp l1 q)
    |false=>
      rw[xad (by decide)]at e ⊢;cases e;exact q P1 _ H1 l1 h1 (cB.of h1 (show Is _ _ _ (.bl false) _ from rfl))
  · exact aQ k e1 q
theorem RZ (hc:ST X Wx c t)(ha:SE X Wx m a f)(hb:SE X Wx m b g):SE X Wx m (.IfExp c a b pos) (mX t f g):=by
  refine bR (ZK hc ha hb) ?_;rintro st H Q ⟨P0,H0,P,Os,env,M,r,M',k,e,q⟩;unfold mX at e;rcases bN e with⟨d,M1,e1,e⟩ |⟨c,n,e1,rfl⟩
  · cases d<;>simp only[reduceCtorEq]at e
    rename_i b;refine fX k e1 ⟨b,rfl,fun P1 H1 l1 h1=>?_⟩
    cases b with
    |true=>
      rw[xac rfl]at e ⊢;exact aQ (k.next l1 h1) e (RQ.imp l1 q)
    |false=>
      rw[xad (by decide)]at e ⊢;exact aQ (k.next l1 h1) e (RQ.imp l1 q)
  · exact fX k e1 q
theorem Tq {K:Fgx}{P:Pl}{H:Hp}{d:D}{v:V}{b:Bool}(h:gK d=some b)(i:bV K P H d v):o_ K v H b:=by
  cases d with
  |non=>have e:v=.non:=i;subst e;cases h;rfl
  |bl c=>have e:v=.bl c:=i;subst e;cases h;rfl
  |int c=>have e:v=.int c:=i;subst e;cases h;rfl
  |str c=>
    have e:v=.str c:=i;subst e;simp only[gK]at h;split at h
    · rename_i hl;cases h;exact⟨hl,rfl⟩
    · cases h
  |lst ds=>
    obtain⟨a,vs,rfl,r,q⟩:=i;cases h;refine .inl ⟨vs,r,?_⟩
    cases ds with
    |nil=>rw[show vs=[] from q];rfl
    |cons d ds=>obtain⟨w,r',rfl,_⟩:=q;rfl
  |tup ds=>
    obtain⟨a,vs,rfl,r,q⟩:=i;cases h;refine .inr (.inl ⟨vs,r,?_⟩)
    cases ds with
    |nil=>rw[show vs=[] from q];rfl
    |cons d ds=>obtain⟨w,r',rfl,_⟩:=q;rfl
  |ref k=>cases h
theorem tU (ha:SE X Wx .bor a f)(he:∀whole,isTrue a X.env whole=(do let v <-whole;standAt a.pos;holding [v] (truthy v)):=by exact fun _=>rfl):ST X Wx a (dN f):=by
 refine Em (zba ha he) ?_;rintro st H Q ⟨P0,H0,P,Os,env,M,r,M',k,e,q⟩;unfold dN s1 at e;rcases bN e with⟨d,M1,e1,e⟩ |⟨c,n,e1,rfl⟩
 ·rw[xah]at e;obtain⟨z,ez,e⟩:=e;cases e;rw[xah]at ez;obtain⟨b,eb,rfl⟩:=ez;obtain⟨b',e2,q⟩:=q;cases e2;exact aQ k e1 fun P1 v1 H1 l1 h1 i1=>⟨b,Tq eb (cY.vw h1 i1),q P1 H1 l1 h1⟩
 ·exact aQ k e1 q
theorem Z1 (ha:PE X a ta):PE X (.UnaryOp .Not a pos) (fun σ H Q=>ta σ H fun x H1=>∃k,o_ X.K x H1 k/\Q (.bl (!k)) H1):=by
 intro pins s σ H Q I h;refine UnaryOp_ (aN (ha pins s σ H _ I h) fun v s1 ⟨x, H1, I1, r1, k, tv, q⟩ => ?_);exact not_of (aN (Tr pins s1 σ H1 x v (fun b H'=>b=k/\H'=H1) I1 r1 ⟨k,tv,rfl,rfl⟩) fun b s2 ⟨H2,I2,e1,e2⟩=>by
  subst e1 e2;exact⟨.bl (!b),H2,I2,rfl,q⟩)
def Ew (f:E):E:=s1 (fun d=>(gK d).map fun b=>.bl (!b)) f
theorem zdw (ha:SE X Wx .bor a f):SE X Wx m (.UnaryOp .Not a pos) (Ew f):=by
 refine bR (Z1 ha) ?_;rintro st H Q ⟨P0,H0,P,Os,env,M,r,M',k,e,q⟩;unfold Ew s1 at e;rcases bN e with⟨d,M1,e1,e⟩ |⟨c,n,e1,rfl⟩
 ·rw[xah]at e;obtain⟨z,ez,e⟩:=e;cases e;rw[xah]at ez;obtain⟨b,eb,rfl⟩:=ez;exact aQ k e1 fun P1 v1 H1 l1 h1 i1=>⟨b,Tq eb (cY.vw h1 i1),q P1 _ H1 l1 h1 (cB.of h1 (show Is _ _ _ (.bl _) _ from rfl))⟩
 ·exact aQ k e1 q
inductive ResA where
 |v (ds:List D) |x (c:Str) (n:Int)
abbrev EA:=Env->Mm->Option (ResA×Mm)
def aq:EA:=fun _ M=>some (.v [],M)
noncomputable def au (f:E) (fs:EA):EA:=fun env M=>match f env M with
  | some (.v d, M1) => (match fs env M1 with
    |some (.v ds,M2)=>some (.v (d::ds),M2)
    |some (.x c n,M2)=>some (.x c n,M2)
    |none=>none)
  |some (.x c n,M1)=>some (.x c n,M1)
  |none=>none
noncomputable def cA (o:Option (ResA×Mm)) (k:List D->Mm->O):O:=match o with
 |some (.v ds,M)=>k ds M
 |some (.x c n,M)=>some (.x c n,M)
 |none=>none
theorem mq (h:cA o k=some (r,M')):(∃ds M,o=some (.v ds,M)/\k ds M=some (r,M'))\/∃c n,o=some (.x c n,M')/\r=.x c n:=by
 unfold cA at h;split at h
 ·exact .inl ⟨_,_,rfl,h⟩
 ·cases h;exact .inr ⟨_,_,rfl,rfl⟩
 ·cases h
noncomputable def cT (K:Fgx) (P:Pl) (H:Hp) (m:Mode):List D->List V->Prop
 | [],vs=>vs=[]
 |d::ds,vs=>∃v ws,vs=v::ws/\cB K P H m d v/\cT K P H m ds ws
theorem cT.iss {K:Fgx}{P:Pl}{H:Hp}:∀{ds:List D} {vs:List V},cT K P H .val ds vs->aA K P H ds vs
  | [],_,h=>h
  |_::_,_,h=>by
    obtain⟨v,ws,e,p,q⟩:=h;exact⟨v,ws,e,p,cT.iss q⟩
noncomputable def AQ (K:Fgx) (mg:Mgx) (Wx:XW) (m:Mode) (P0:Pl) (H0:Hp) (P:Pl) (H:Hp) (M':Mm) (Q:List V->Hp->Prop):ResA->Prop
 |.v ds=>∀P' vs H',LtE P H P' H'->Hk K mg P' H' M'->cT K P' H' m ds vs->Q vs H'
 |.x c n=>Wx P0 H0 M' c n
noncomputable def S9 (K:Fgx) (mg:Mgx) (Wx:XW) (m:Mode) (fs:EA):TA:=fun st H Q=>∃P0 H0 P Os env M r M',Ok K mg P0 H0 P Os H M st env/\fs env M=some (r,M')/\AQ K mg Wx m P0 H0 P H M' Q r
def SA (X:Cx)(Wx:XW)(m:Mode)(es:List Expr)(fs:EA):Prop:=PA X es (S9 X.K X.mg Wx m fs)
theorem Qs (h:PA X es t)(w:∀σ H Q,t' σ H Q->t σ H Q):PA X es t':=fun pos pins s σ H Q I hw=>h pos pins s σ H Q I (w σ H Q hw)
theorem aH:SA X Wx m [] aq:=by
 refine Qs nJ ?_;rintro st H Q ⟨P0,H0,P,Os,env,M,r,M',k,e,q⟩;cases e;exact q P [] H (LtE.refl P H) k.hk rfl
theorem aD (ha:SE X Wx m e f)(hr:SA X Wx m es fs)(hs:starEach (e::es) X.env=(false,eval e X.env)::starEach es X.env:=by rfl):SA X Wx m (e::es) (au f fs):=by
 refine Qs (lF ha hr hs) ?_;rintro st H Q ⟨P0,H0,P,Os,env,M,r,M',k,e,q⟩;unfold au at e;split at e
 ·rename_i d M1 e1;refine aQ k e1 fun P1 v1 H1 l1 h1 i1=>?_;split at e
  ·rename_i ds M2 e2;cases e;refine⟨P0,H0,P1,Os,env,M1,_,_,k.next l1 h1,e2,fun P2 vs H2 l2 h2 i2=>q P2 _ H2 (l1.trans l2) h2 ⟨v1,vs,rfl,?_,i2⟩⟩
   cases m with
   |val=>exact Is.lt (l2.lt h1) i1
   |bor=>exact cY.lt l2 h1 i1
  ·rename_i c n M2 e2;cases e;exact⟨P0,H0,P1,Os,env,M1,_,_,k.next l1 h1,e2,q⟩
  ·cases e
 ·rename_i c n M1 e1;cases e;exact aQ k e1 q
 ·cases e
noncomputable def sN (o:List D->Option D) (fs:EA):E:=fun env M=>cA (fs env M) fun ds M1=>(o (ds.map (vw M1))).map fun z=>(.v z,M1)
noncomputable def nY (K:Fgx) (P:Pl) (H:Hp):List D->List V->Prop
 | [],vs=>vs=[]
 |d::ds,vs=>∃v ws,vs=v::ws/\bV K P H d v/\nY K P H ds ws
theorem cT.w {K:Fgx}{mg:Mgx}{P:Pl}{H:Hp}{M:Mm}(h:Hk K mg P H M):∀{ds:List D} {vs:List V},cT K P H m ds vs->nY K P H (ds.map (vw M)) vs
  | [],_,q=>q
  |d::ds,_,q=>by
    obtain⟨v,ws,e,p,q⟩:=q;exact⟨v,ws,e,cY.vw h (p.b h),cT.w h q⟩
def kZ (K:Fgx)(r:List V->Hp->VK->Prop)(o:List D->Option D):Prop:=∀(P:Pl) (H:Hp) (ds:List D) (z:D) (vs:List V) (Q:VK),o ds=some z->nY K P H ds vs->(∀p,H p=none->¬ P.bd p)->(∀u H',Same H H'->Is K P H' z u->Q u H')->r vs H Q
theorem RW (h:∀t,PA X (e::es) t->PE X ex (K5 r t))(po:kZ X.K r o)(ha:SA X Wx .bor (e::es) fs):SE X Wx m ex (sN o fs):=by
 refine bR (h _ ha) ?_;rintro st H Q ⟨P0,H0,P,Os,env,M,r,M',k,e,q⟩;unfold sN at e;rcases mq e with⟨ds,M1,e1,e⟩ |⟨c,n,e1,rfl⟩
 ·rw[xah]at e;obtain⟨z,ez,e⟩:=e;cases e;exact⟨P0,H0,P,Os,env,M,_,_,k,e1,fun P1 vs H1 l1 h1 i1=>po P1 H1 _ z vs Q ez (cT.w h1 i1) h1.new fun u H' s i=>q P1 u H' (l1.trans (LtE.same s)) (h1.same s) (cB.of (h1.same s) i)⟩
 ·exact⟨P0,H0,P,Os,env,M,_,_,k,e1,q⟩
noncomputable def aX (fs:EA):E:=fun env M=>cA (fs env M) fun ds M1=>if ds.length<=sizeLine then some (.v (.tup ds),M1) else none
theorem dB {es:List Expr}{x1:Nat}{pos:Pos}{fs:EA}(ha:SA X Wx .val es fs):SE X Wx m (.Tuple es x1 pos) (aX fs):=by
 refine bR (Jx ha) ?_;rintro st H Q ⟨P0,H0,P,Os,env,M,r,M',k,e,q⟩;unfold aX at e;rcases mq e with⟨ds,M1,e1,e⟩ |⟨c,n,e1,rfl⟩
 ·split at e
  ·rename_i hl;cases e;refine⟨P0,H0,P,Os,env,M,_,_,k,e1,fun P1 vs H1 l1 h1 i1=>⟨by rw[i1.iss.len];exact hl,fun p hp=>?_⟩⟩;have s:=mY (o:=.tup vs) hp;exact q P1 _ _ (l1.trans (LtE.same s)) (h1.same s) (cB.of (h1.same s) ⟨p,vs,rfl,.inl (.inl bJ),aA.lt ((LtE.same s).lt h1) i1.iss⟩)
  ·cases e
 ·exact⟨P0,H0,P,Os,env,M,_,_,k,e1,q⟩
noncomputable def NQ (K:Fgx) (mg:Mgx) (Wx:XW) (P0:Pl) (H0:Hp) (P:Pl) (H:Hp) (M':Mm) (Q:VK):Res->Prop
 |.v d=>∃ds,d=.lst ds/\∀P' a vs H',LtE P H P' H'->Hk K mg P' H' M'->H a=none->P'.bd a->(∀k,k<P'.n->P'.io k≠a)->H' a=some (.lst vs)->aA K P' H' ds vs->Q (.ref a) H'
 |.x c n=>Wx P0 H0 M' c n
noncomputable def tN (K:Fgx) (mg:Mgx) (Wx:XW) (f:E):TE:=fun st H Q=>∃P0 H0 P Os env M r M',Ok K mg P0 H0 P Os H M st env/\f env M=some (r,M')/\NQ K mg Wx P0 H0 P H M' Q r
def SN (X:Cx)(Wx:XW)(e:Expr)(f:E):Prop:=PE X e (tN X.K X.mg Wx f)
def Pl.bar (P:Pl)(p:Addr):Pl:={P with bd:=fun a=>P.bd a\/a=p}
theorem pF {K:Fgx}{mg:Mgx}{P:Pl}{H:Hp}{M:Mm}{p:Addr}{vs:List V}(h:Hk K mg P H M)(hp:H p=none):LtE P H (P.bar p) (upd H p (.lst vs))/\Hk K mg (P.bar p) (upd H p (.lst vs)) M/\∀k,k<P.n->P.io k≠p:=by
 have s:=mY (o:=.lst vs) hp;have nc:∀k,k<P.n->P.io k≠p:=fun k hk z=>h.here _ (h.bd k hk) (z ▸ hp);have l:LtE P H (P.bar p) (upd H p (.lst vs)):=⟨xaf _,fun _ _=>rfl,fun a z=>xdT (fun q=>q) (fun(q:a=p)=>by rw[q];exact hp) z,fun a z=>.inl z,fun a o e _=>s a o e,fun a z=>s.free z,fun k h1 h2=>absurd h1 (xd7.mpr h2)⟩;have lt:=l.lt h;refine⟨l,⟨h.n,fun k c e=>?_,h.inj,fun k hk=>.inl (h.bd k hk),fun a z q=>?_⟩,nc⟩
 ·exact(h.cell k c e).up (fun _ e _=>s _ _ e) lt.fz fun _ _ q=>aA.lt lt q
 ·rcases z with z |z
  ·exact h.here a z (s.free q)
  ·subst z;rw[bJ]at q;cases q
theorem SN.se (h:SN X Wx e f)(hf:∀env M r M',f env M=some (.v r,M')->∃ds,r=.lst ds):SE X Wx .val e f:=by
  refine bR h ?_;rintro st H Q ⟨P0,H0,P,Os,env,M,r,M',k,e,q⟩;refine⟨P0,H0,P,Os,env,M,r,M',k,e,?_⟩
  cases r with
  |x c n=>exact q
  |v d=>
    obtain⟨ds,rfl⟩:=hf _ _ _ _ e;refine⟨ds,rfl,fun P' a vs H' l h ha ba nc ea is=>q (P'.less (· ≠a)) _ H' ?_ ?_ ⟨a,vs,rfl,.inl ⟨fun z=>z.2 rfl,.inl ea⟩,aA.less is⟩⟩
    · exact⟨l.n,l.io,fun b z=>l.bd b z.1,fun b z=>⟨l.bm b z,fun q=>k.hk.here b z (q ▸ ha)⟩,l.keep,l.sure,l.nw⟩
    · refine⟨h.n,fun j c e=>?_,h.inj,fun j hj=>⟨h.bd j hj,nc j hj⟩,fun b z=>h.here b z.1⟩;exact(h.cell j c e).up (fun _ z _=>z) (fun _ _ _ z=>z) fun _ _ q=>aA.less q
noncomputable def bG (fs:EA):E:=fun env M=>cA (fs env M) fun ds M1=>if ds.length<=sizeLine then some (.v (.lst ds),M1) else none
theorem gk {es:List Expr}{pos:Pos}{fs:EA}(ha:SA X Wx .val es fs):SN X Wx (.List es pos) (bG fs):=by
 refine bR (ZV ha) ?_;rintro st H Q ⟨P0,H0,P,Os,env,M,r,M',k,e,q⟩;unfold bG at e;rcases mq e with⟨ds,M1,e1,e⟩ |⟨c,n,e1,rfl⟩
 ·split at e
  ·rename_i hl;cases e;obtain⟨ds',e',q⟩:=q;cases e';refine⟨P0,H0,P,Os,env,M,_,_,k,e1,fun P1 vs H1 l1 h1 i1=>⟨by rw[i1.iss.len];exact hl,fun p hp=>?_⟩⟩;obtain⟨l2,h2,nc⟩:=pF (vs:=vs) h1 hp;exact q (P1.bar p) p vs _ (l1.trans l2) h2 (l1.sure p hp) (.inr rfl) nc bJ (aA.lt (l2.lt h1) i1.iss)
  ·cases e
 ·exact⟨P0,H0,P,Os,env,M,_,_,k,e1,q⟩
theorem lst_is:∀env M r M',bG fs env M=some (.v r,M')->∃ds,r=.lst ds:=fun env M r M' e=>by
 unfold bG at e;rcases mq e with⟨ds,M1,e1,e⟩ |⟨c,n,e1,e⟩
 ·split at e
  ·cases e;exact⟨_,rfl⟩
  ·cases e
 ·cases e
end
inductive Out where
 |nx (env:Env) |bk (env:Env) |ct (env:Env) |rt (d:D) |ex (c:Str) (n:Int)
abbrev OS:=Option (Out×Mm)
abbrev S:=Env->Mm->OS
noncomputable def Post (K:Fgx) (mg:Mgx) (Wx:XW) (P0:Pl) (H0:Hp) (P:Pl) (H:Hp) (M':Mm) (D:Ends):Out->Prop
 |.nx env=>∀P' Os' H' st',Lt P H P' H'->Ok K mg P0 H0 P' Os' H' M' st' env->D.nx st' H'
 |.bk env=>∀P' Os' H' st',Lt P H P' H'->Ok K mg P0 H0 P' Os' H' M' st' env->D.bk st' H'
 |.ct env=>∀P' Os' H' st',Lt P H P' H'->Ok K mg P0 H0 P' Os' H' M' st' env->D.ct st' H'
 |.rt d=>∀P' v H',LtE P0 H0 P' H'->Hk K mg P' H' M'->Is K P' H' d v->D.rt v H'
 |.ex c n=>Wx P0 H0 M' c n
noncomputable def tS (K:Fgx) (mg:Mgx) (Wx:XW) (f:S):TS:=fun D st H=>∃P0 H0 P Os env M out M',Ok K mg P0 H0 P Os H M st env/\f env M=some (out,M')/\Post K mg Wx P0 H0 P H M' D out
def SS (X:Cx)(Wx:XW)(s:Stmt)(f:S):Prop:=PS X s (tS X.K X.mg Wx f)
def SB (X:Cx)(Wx:XW)(s:List Stmt)(f:S):Prop:=gw X s (tS X.K X.mg Wx f)
noncomputable def bC (o:O) (k:D->Mm->OS):OS:=match o with
 |some (.v d,M)=>k d M
 |some (.x c n,M)=>some (.ex c n,M)
 |none=>none
theorem eE (h:bC o k=some (r,M')):(∃d M,o=some (.v d,M)/\k d M=some (r,M'))\/∃c n,o=some (.x c n,M')/\r=.ex c n:=by
 unfold bC at h;split at h
 ·exact .inl ⟨_,_,rfl,h⟩
 ·cases h;exact .inr ⟨_,_,rfl,rfl⟩
 ·cases h
section
variable {K:Fgx}{mg:Mgx}{Wx:XW}{P0 P P' P1:Pl}{H0 H H' H1:Hp}{M M':Mm}{Os:List (Option Addr)}{st:L2.St}{env:Env}{d:D}{v:V}{i:Nat}
theorem Br (l:List (Option α))(i j:Nat)(x:Option α)(hi:i<l.length):((l.set i x)[j]?).join=if i=j then x else(l[j]?).join:=by
 rw[xbj]
 by_cases h:i=j
 ·subst h;rw[xac rfl,xac hi,xac rfl];rfl
 ·rw[xad h,xad h]
theorem Ok.asg (k:Ok K mg P0 H0 P Os H M st env)(hi:i<env.length)(h:Is K P H d v):Ok K mg P0 H0 P (Os.set i none) H M (st.set i (some v)) (env.set i (.val d)) where
 hk:=k.hk
 base:=k.base
 b0:=k.b0
 slot:=fun j s e=>by
  rw[Br _ _ _ _ (by rw[k.olen];exact hi),Br _ _ _ _ (by rw[k.slen];exact hi)];rw[xbj]at e;split at e
  ·rename_i ij;subst ij;cases e;rw[xac rfl,xac rfl];exact⟨v,rfl,h⟩
  ·rename_i ij;rw[xad ij,xad ij];exact k.slot j s e
 own := fun a h => k.own a (by
  rcases xd8 h with h |h
  ·exact h
  ·cases h)
 inj:=fun j l a e1 e2=>by
  rw[xbj]at e1 e2;split at e1
  ·split at e1<;>cases e1
  ·split at e2
   ·split at e2<;>cases e2
   ·exact k.inj j l a e1 e2
 olen:=by rw[xaR,xaR,k.olen]
 slen:=by rw[xaR,xaR,k.slen]
theorem Ok.here (k:Ok K mg P0 H0 P Os H M st env)(h:some a∈Os):H a≠none:=k.hk.here a (k.own a h).1
theorem Ok.mine (k0:Ok K mg P0 H0 P Os H M st env)(l:LtE P H P' H')(hk:Hk K mg P' H' M')(hi:i<env.length)(ha:H a=none)(ba:P'.bd a)(nc:∀j,j<P'.n->P'.io j≠a)(e:H' a=some (.lst vs))(h:aA K P' H' ds vs):
  Ok K mg P0 H0 P' (Os.set i (some a)) H' M' (st.set i (some (.ref a))) (env.set i (.own ds)):=by
 have k:=k0.next l hk
 have nO:∀j,Os[j]? ≠some (some a):=fun j z=>k0.here (xaP z) ha;exact {
  hk:=k.hk
  base:=k.base
  b0:=k.b0
  slot:=fun j s e'=>by
   rw[Br _ _ _ _ (by rw[k.olen];exact hi),Br _ _ _ _ (by rw[k.slen];exact hi)];rw[xbj]at e';split at e'
   ·rename_i ij;subst ij;cases e';rw[xac rfl,xac rfl];exact⟨a,vs,rfl,rfl,e,h⟩
   ·rename_i ij;rw[xad ij,xad ij];exact k.slot j s e'
  own:=fun b hb=>by
   rcases xd8 hb with hb |hb
   ·exact k.own b hb
   ·cases hb;exact⟨ba,nc,k0.base.sure a ha⟩
  inj:=fun j l b e1 e2=>by
   rw[xbj]at e1 e2;split at e1
   ·split at e1
    ·cases e1;split at e2
     ·rename_i z1 _ z2;exact z1.symm.trans z2
     ·exact absurd e2 (nO l)
    ·cases e1
   ·split at e2
    ·split at e2
     ·cases e2;exact absurd e1 (nO j)
     ·cases e2
    ·exact k.inj j l b e1 e2
  olen:=by rw[xaR,xaR,k.olen]
  slen:=by rw[xaR,xaR,k.slen]}
theorem mR (b : P.bd a) (e : H a = some o) (nf : ¬ Fx o) : Lt P H P (upd H a o') := ⟨xaf _,fun _ _=>rfl,fun _ z=>.inl z,fun c u ec z=>by
  by_cases h:c=a
  ·subst h;rw[e]at ec;cases ec;exact(z.elim nf fun n=>n b).elim
  ·rw[aW h];exact ec,fun c z=>by
  by_cases h:c=a
  ·subst h;rw[bJ]at z;cases z
  ·rw[aW h]at z;exact z⟩
theorem Ea:¬ Fx (.lst vs):=fun z=>by rcases z with⟨_,z⟩ |⟨_,_,z⟩ |⟨_,z⟩ |⟨_,z⟩<;>cases z
theorem Ye:¬ Fx (.ins C dx gs):=fun z=>by rcases z with⟨_,z⟩ |⟨_,_,z⟩ |⟨_,z⟩ |⟨_,z⟩<;>cases z
theorem m8.lt (l:Lt P H P' H')(e:∀o,H a=some o->H' a=some o)(h:m8 K mg P H a c):m8 K mg P' H' a c:=by
 exact h.up (fun _ z _=>e _ z) l.fz fun _ _ q=>aA.lt l q
theorem Ok.chg (k:Ok K mg P0 H0 P Os H M st env)(hi:env[i]? =some (.own ds))(ho:Os[i]? =some (some a))(e:H a=some (.lst vs))(h:aA K P H ds' vs'):
    Lt P H P (upd H a (.lst vs'))/\Ok K mg P0 H0 P Os (upd H a (.lst vs')) M st (env.set i (.own ds')):=by
  obtain⟨b1,b2,b3⟩:=k.own a (xaP ho);have l:Lt P H P (upd H a (.lst vs')):=mR b1 e Ea;have ilt:i<env.length:=(xai.mp hi).1;refine⟨l,?_⟩;exact {
    hk:=⟨k.hk.n,fun j c ej=>(k.hk.cell j c ej).lt l fun o eo=>by rw[aW (b2 j (by rw[k.hk.n];exact(xai.mp ej).1))];exact eo,k.hk.inj,k.hk.bd,fun c z q=>k.hk.here c z (l.sure c q)⟩
    base := ⟨k.base.n,k.base.io,k.base.bd,k.base.bm,fun c o ec n=>by
      have:=k.base.keep c o ec n;rw[aW (fun z=>by subst z;rw[b3]at ec;cases ec)];exact this,fun c z=>k.base.sure c (l.sure c z),k.base.nw⟩
    b0:=k.b0
    slot:=fun j s ej=>by
      rw[xbj]at ej;split at ej
      · rename_i ij;subst ij;cases ej;obtain⟨a',vs0,e1,e2,e3,q⟩:=k.slot i _ hi;rw[ho]at e1;cases e1;exact⟨a,vs',by rw[ho];rfl,e2,bJ,aA.lt l h⟩
      · rename_i ij;have q:=k.slot j s ej
        cases s with
        |un=>exact True.intro
        |val d=>obtain⟨v,e1,q⟩:=q;exact⟨v,e1,Is.lt l q⟩
        |own es=>
          obtain⟨a',ws,e1,e2,e3,q⟩:=q;refine⟨a',ws,e1,e2,?_,aA.lt l q⟩;rw[aW (fun z=>ij (k.inj i j a ho (by rw[<-z];exact nA e1)))];exact e3
        |exc c n=>obtain⟨v,e1,q⟩:=q;exact⟨v,e1,q.lt l⟩
    own:=k.own
    inj:=k.inj
    olen:=by rw[xaR,k.olen]
    slen:=by rw[xaR,k.slen]}
theorem Hk.set (h:Hk K mg P H M)(e:M[j]? =some c)(w:m8 K mg P (upd H (P.io j) o') (P.io j) c')(nd:c.fix=false:=by rfl):Lt P H P (upd H (P.io j) o')/\LtE P H P (upd H (P.io j) o')/\Hk K mg P (upd H (P.io j) o') (M.set j c'):=by
 have jl:j<P.n:=by rw[h.n];exact(xai.mp e).1
 obtain ⟨o, eo, nf⟩ := h.cellAt e nd;have l : Lt P H P (upd H (P.io j) o') := mR (h.bd j jl) eo nf;refine ⟨l, ⟨xaf _,fun _ _=>rfl,fun _ z=>.inl z,fun _ z=>z,fun a u ea n=>by
  have ne:a≠P.io j:=by
   rintro rfl;rw[eo]at ea;cases ea;exact n.elim nf fun nc=>nc j jl rfl
  rw[aW ne];exact ea,l.sure,fun k h1 h2=>absurd h1 (xd7.mpr h2)⟩,⟨by rw[xaR,h.n],fun k b ek=>?_,h.inj,h.bd,fun a z q=>h.here a z (l.sure a q)⟩⟩
 rw[xbj]at ek;split at ek
 ·rename_i jk;subst jk;rw[xac (by rw[<-h.n];exact jl)]at ek;cases ek;exact w
 ·rename_i jk;have kl:k<P.n:=by rw[h.n];exact(xai.mp ek).1
  exact(h.cell k b ek).lt l fun u eu=>by rw[aW (fun z=>jk (h.inj j k jl kl z.symm))];exact eu
theorem Ok.frz (k:Ok K mg P0 H0 P Os H M st env)(hi:env[i]? =some (.own ds)):∃P' Os',Lt P H P' H/\Ok K mg P0 H0 P' Os' H M st (env.set i (.val (.lst ds))):=by
 obtain⟨a,vs,e1,e2,e3,q⟩:=k.slot i _ hi;have ho:=nA e1;obtain⟨b1,b2,b3⟩:=k.own a (xaP ho);have ilt:i<env.length:=(xai.mp hi).1;have nO:∀b,some b∈Os.set i none->some b∈Os/\b≠a:=fun b z=>by
  obtain⟨j,hj⟩:=xeD.mp z;rw[xbj]at hj;split at hj
  ·split at hj<;>cases hj
  ·rename_i ij;exact⟨xaP hj,fun z=>by subst z;exact ij (k.inj i j b ho hj)⟩
 have l : Lt P H (P.less (· ≠ a)) H := ⟨xaf _, fun _ _ => rfl, fun c z => .inl z.1, fun _ _ e _ => e, fun _ z => z⟩;refine ⟨P.less (· ≠a),Os.set i none,l,{
  hk:=⟨k.hk.n,fun j c ej=>(k.hk.cell j c ej).lt l fun _ z=>z,k.hk.inj,fun j hj=>⟨k.hk.bd j hj,b2 j hj⟩,fun c z=>k.hk.here c z.1⟩
  base:=⟨k.base.n,k.base.io,fun c z=>k.base.bd c z.1,fun c z=>⟨k.base.bm c z,fun q=>k.b0 c z (q ▸ b3)⟩,k.base.keep,k.base.sure,k.base.nw⟩
  b0:=k.b0
  slot:=fun j s ej=>?_
  own:=fun c z=>?_
  inj:=fun j l b z1 z2=>?_
  olen:=by rw[xaR,xaR,k.olen]
  slen:=by rw[xaR,k.slen]}⟩
 ·rw[Br _ _ _ _ (by rw[k.olen];exact ilt)];rw[xbj]at ej;split at ej
  ·rename_i ij;subst ij;cases ej;exact⟨.ref a,e2,a,vs,rfl,.inl ⟨fun z=>z.2 rfl,.inl e3⟩,aA.less q⟩
  ·rename_i ij;rw[xad ij];have q:=k.slot j s ej
   cases s with
   |un=>exact True.intro
   |val d=>obtain⟨v,e1,q⟩:=q;exact⟨v,e1,Is.less q⟩
   |own es=>obtain⟨a',ws,e1,e2,e3,q⟩:=q;exact⟨a',ws,e1,e2,e3,aA.less q⟩
   |exc c n=>obtain⟨v,e1,q⟩:=q;exact⟨v,e1,q.lt l⟩
 ·obtain⟨z1,z2⟩:=nO c z;obtain⟨c1,c2,c3⟩:=k.own c z1;exact⟨⟨c1,z2⟩,c2,c3⟩
 ·rw[xbj]at z1 z2;split at z1
  ·split at z1<;>cases z1
  ·split at z2
   ·split at z2<;>cases z2
   ·exact k.inj j l b z1 z2
end
section
variable {X:Cx}{Wx:XW}{pos:Pos}
theorem fQ (h:PS X s t)(w:∀D σ H,t' D σ H->t D σ H):PS X s t':=fun pins s σ H D I hw=>h pins s σ H D I (w D σ H hw)
theorem JF (h:gw X s t)(w:∀D σ H,t' D σ H->t D σ H):gw X s t':=fun pins s σ H D I hw=>h pins s σ H D I (w D σ H hw)
def aC:S:=fun env M=>some (.nx env,M)
noncomputable def ao (f g:S):S:=fun env M=>match f env M with
 |some (.nx e,M1)=>g e M1
 |o=>o
theorem aL:SB X Wx [] aC:=by
 refine JF zbK ?_;rintro D st H ⟨P0,H0,P,Os,env,M,out,M',k,e,q⟩;cases e;exact q P Os H st (Lt.refl P H) k
theorem Post.lt {K:Fgx}{mg:Mgx}{P0 P P1:Pl}{H0 H H1:Hp}{M':Mm}{D:Ends}{o:Out}(l:Lt P H P1 H1)(q:Post K mg Wx P0 H0 P H M' D o):Post K mg Wx P0 H0 P1 H1 M' D o:=by
 cases o with
 |nx env=>exact fun P' Os' H' st' l' k=>q P' Os' H' st' (l.trans l') k
 |bk env=>exact fun P' Os' H' st' l' k=>q P' Os' H' st' (l.trans l') k
 |ct env=>exact fun P' Os' H' st' l' k=>q P' Os' H' st' (l.trans l') k
 |rt d=>exact q
 |ex c n=>exact q
theorem aF (h1:SS X Wx s f)(h2:SB X Wx ss g):SB X Wx (s::ss) (ao f g):=by
  refine JF (zbj h1 h2) ?_;rintro D st H ⟨P0,H0,P,Os,env,M,out,M',k,e,q⟩;unfold ao at e;split at e
  · rename_i e1 M1 ef;refine⟨P0,H0,P,Os,env,M,_,_,k,ef,fun P1 Os1 H1 st1 l1 k1=>?_⟩;exact⟨P0,H0,P1,Os1,e1,M1,_,_,k1,e,q.lt l1⟩
  · rename_i o ho
    cases ef:f env M with
    |none=>rw[ef]at e;cases e
    |some om=>
      obtain⟨o1,M1⟩:=om;rw[ef]at e;cases e;refine⟨P0,H0,P,Os,env,M,_,_,k,ef,?_⟩
      cases out with
      |nx env'=>exact(ho _ _ ef).elim
      |bk env'=>exact q
      |ct env'=>exact q
      |rt d=>exact q
      |ex c n=>exact q
noncomputable def aO (i:Nat) (f:E):S:=fun env M=>bC (f env M) fun d M1=>if i<env.length then some (.nx (env.set i (.val d)),M1) else none
theorem cD (hN:X.N.Nodup)(hi:X.N[i]? =some x)(hx:Loc X.env.scope x)(he:SE X Wx .val e f)(hs:swapsWith e (some (.Name x pos')) pos.line X.env=pure false:=by rfl)
  (hf:X.fn x=true\/X.env.scope.names.lookup x=some .local:=by first |exact .inl rfl |exact .inr rfl):SS X Wx (.Assign [.Name x pos'] e pos) (aO i f):=by
 refine fQ (QD hN hi hx he hs hf) ?_;rintro D st H ⟨P0,H0,P,Os,env,M,out,M',k,e,q⟩;unfold aO at e;rcases eE e with⟨d,M1,e1,e⟩ |⟨c,n,e1,rfl⟩
 ·split at e
  ·rename_i hl;cases e;exact⟨P0,H0,P,Os,env,M,_,_,k,e1,fun P1 v1 H1 l1 h1 i1=>q _ _ _ _ (l1.lt k.hk) ((k.next l1 h1).asg hl i1)⟩
  ·cases e
 ·exact⟨P0,H0,P,Os,env,M,_,_,k,e1,q⟩
noncomputable def nQ (i:Nat) (f:E):S:=fun env M=>bC (f env M) fun d M1=>match d with
 |.lst ds=>if i<env.length then some (.nx (env.set i (.own ds)),M1) else none
 |_=>none
theorem KY (hN:X.N.Nodup)(hi:X.N[i]? =some x)(hx:Loc X.env.scope x)(he:SN X Wx e f)(hs:swapsWith e (some (.Name x pos')) pos.line X.env=pure false:=by rfl)
  (hf:X.fn x=true\/X.env.scope.names.lookup x=some .local:=by first |exact .inl rfl |exact .inr rfl):SS X Wx (.Assign [.Name x pos'] e pos) (nQ i f):=by
 refine fQ (QD hN hi hx he hs hf) ?_;rintro D st H ⟨P0,H0,P,Os,env,M,out,M',k,e,q⟩;unfold nQ at e;rcases eE e with⟨d,M1,e1,e⟩ |⟨c,n,e1,rfl⟩
 ·cases d<;>simp only[reduceCtorEq]at e
  rename_i ds;split at e
  ·rename_i hl;cases e;exact⟨P0,H0,P,Os,env,M,_,_,k,e1,ds,rfl,fun P1 a vs H1 l1 h1 ha ba nc ea is=>q _ _ _ _ (l1.lt k.hk) (k.mine l1 h1 hl ha ba nc ea is)⟩
  ·cases e
 ·exact⟨P0,H0,P,Os,env,M,_,_,k,e1,q⟩
def aK (f:E):S:=fun env M=>bC (f env M) fun d M1=>some (.rt d,M1)
theorem bM (he:SE X Wx .val e f):SS X Wx (.Return (some e) pos) (aK f):=by
 refine fQ (zcR he) ?_;rintro D st H ⟨P0,H0,P,Os,env,M,out,M',k,e,q⟩;unfold aK at e;rcases eE e with⟨d,M1,e1,e⟩ |⟨c,n,e1,rfl⟩
 ·cases e;exact⟨P0,H0,P,Os,env,M,_,_,k,e1,fun P1 v1 H1 l1 h1 i1=>q P1 v1 H1 (k.base.trans l1) h1 i1⟩
 ·exact⟨P0,H0,P,Os,env,M,_,_,k,e1,q⟩
noncomputable def Bj (f:E):S:=fun env M=>bC (f env M) fun _ M1=>some (.nx env,M1)
theorem Sx (he:SE X Wx .bor e f)(hs:swapsWith e none pos.line X.env=pure false:=by rfl):SS X Wx (.Expr e pos) (Bj f):=by
 refine fQ (JD he hs) ?_;rintro D st H ⟨P0,H0,P,Os,env,M,out,M',k,e,q⟩;unfold Bj at e;rcases eE e with⟨d,M1,e1,e⟩ |⟨c,n,e1,rfl⟩
 ·cases e;exact⟨P0,H0,P,Os,env,M,_,_,k,e1,fun P1 v1 H1 l1 h1 i1=>q _ _ _ _ (l1.lt k.hk) (k.next l1 h1)⟩
 ·exact⟨P0,H0,P,Os,env,M,_,_,k,e1,q⟩
noncomputable def cM (c:E) (f g:S):S:=fun env M=>bC (c env M) fun d M1=>match d with
 |.bl b=>if b=true then f env M1 else g env M1
 |_=>none
theorem cR (hc:ST X Wx c t)(ha:SB X Wx a f)(hb:SB X Wx b g):SS X Wx (.If c a b pos) (cM t f g):=by
  refine fQ (zd4 hc ha hb) ?_;rintro D st H ⟨P0,H0,P,Os,env,M,out,M',k,e,q⟩;unfold cM at e;rcases eE e with⟨d,M1,e1,e⟩ |⟨c,n,e1,rfl⟩
  · cases d<;>simp only[reduceCtorEq]at e
    rename_i b;refine fX k e1 ⟨b,rfl,fun P1 H1 l1 h1=>?_⟩
    cases b with
    |true=>
      rw[xac rfl]at e ⊢;exact⟨P0,H0,P1,Os,env,M1,_,_,k.next l1 h1,e,q.lt (l1.lt k.hk)⟩
    |false=>
      rw[xad (by decide)]at e ⊢;exact⟨P0,H0,P1,Os,env,M1,_,_,k.next l1 h1,e,q.lt (l1.lt k.hk)⟩
  · exact fX k e1 q
noncomputable def kE (i:Nat):S:=fun env M=>match env[i]? with
 |some (.own ds)=>some (.nx (env.set i (.val (.lst ds))),M)
 |_=>none
theorem Kp (h:SB X Wx ss g):SB X Wx ss (ao (kE i) g):=by
 refine JF h ?_;rintro D st H ⟨P0,H0,P,Os,env,M,out,M',k,e,q⟩;unfold ao kE at e;split at e
 ·rename_i e1 M1 ef;split at ef
  ·rename_i ds es;cases ef;obtain⟨P1,Os1,l1,k1⟩:=k.frz es;exact⟨P0,H0,P1,Os1,_,_,_,_,k1,e,q.lt l1⟩
  ·cases ef
 ·rename_i ho;split at e
  ·rename_i es;exact(ho _ _ (by rw[es])).elim
  ·cases e
noncomputable def kj (i:Nat) (f:E):S:=fun env M=>match env[i]? with
 |some (.own ds)=>bC (f env M) fun d M1=>if ds.length<sizeLine then some (.nx (env.set i (.own (ds ++ [d]))),M1) else none
 |_=>none
theorem KR (hN:X.N[i]? =some x)(hv:uc X.env.scope x)(he:SE X Wx .val e f)(hd:(x==("__debug__":Str))=false:=by x_go)(hcd:(x==("__classdict__":Str))=false:=by x_go)
  (hfew:((backTo q (starEach [e] X.env)).all (fun x=> !x.1) && (backToKw q (keywordEach [] X.env)).all (fun x=>x.1.isSome) && decide ([e].length + ([]:List Keyword).length + (if ([]:List Keyword).isEmpty then 0 else 1)<30))=true:=by rfl)
  (hline:(p.endLine==q.line)=true:=by rfl) (hs:starEach [e] X.env=(false,eval e X.env)::starEach [] X.env:=by rfl) (hw:swapsWith (.Call (.Attribute (.Name x p0) "append" p) [e] [] q) none pos.line X.env=pure false:=by rfl):
  SS X Wx (.Expr (.Call (.Attribute (.Name x p0) "append" p) [e] [] q) pos) (kj i f):=by
 refine fQ (JD (Az xen xeg xeh Ji (Jy hN hv hd hcd) (lF he nJ hs) rfl hfew hline hs rfl) hw) ?_;rintro D st H ⟨P0,H0,P,Os,env,M,out,M',k,e,q⟩;unfold kj at e;split at e
 ·rename_i ds es;obtain⟨a,vs,o1,o2,o3,o4⟩:=k.slot i _ es;refine⟨.ref a,nA o2,.inl ⟨rfl,vs,.inl (.inl o3)⟩,?_⟩;rcases eE e with⟨d,M1,e1,e⟩ |⟨c,n,e1,rfl⟩
  ·split at e
   ·rename_i hz;cases e;refine aQ k e1 fun P1 v1 H1 l1 h1 i1=>?_;have k1:=k.next l1 h1
    obtain⟨a',vs',o1',o2',o3',o4'⟩:=k1.slot i _ es;have ea:a'=a:=by
     have z:=o2'.symm.trans o2;cases z;rfl
    subst ea;refine⟨a',vs',v1,rfl,rfl,o3',by rw[o4'.len];exact hz,?_⟩;obtain⟨l2,k2⟩:=k1.chg es (nA o1') o3' (aA.append o4' (aA.one i1));exact q _ _ _ _ ((l1.lt k.hk).trans l2) k2
   ·cases e
  ·exact aQ k e1 q
 ·cases e
def Wk (K:Fgx)(P1:Pl)(H1:Hp)(J:It)(ds:List D):Prop:=∀P H,Lt P1 H1 P H->(∀k,k<ds.length->J.go k H)/\(∀k,ds.length<=k->k<=ds.length->J.stop k H)/\∀k x H',J.yld k H x H'->k<ds.length->H'=H/\∃d,ds[k]? =some d/\Is K P H d x
noncomputable def IQ (K:Fgx) (mg:Mgx) (Wx:XW) (P0:Pl) (H0:Hp) (P:Pl) (H:Hp) (M':Mm) (R:It->Hp->Prop):ResA->Prop
 |.v ds=>∀P' H' J,LtE P H P' H'->Hk K mg P' H' M'->Wk K P' H' J ds->R J H'
 |.x c n=>Wx P0 H0 M' c n
noncomputable def tI (K:Fgx) (mg:Mgx) (Wx:XW) (fs:EA):TI:=fun st H R=>∃P0 H0 P Os env M r M',Ok K mg P0 H0 P Os H M st env/\fs env M=some (r,M')/\IQ K mg Wx P0 H0 P H M' R r
def SI (X:Cx)(Wx:XW)(tg iter:Expr)(fs:EA):Prop:=PI X tg iter (tI X.K X.mg Wx fs)
theorem JB (h:PI X tg iter t)(w:∀σ H R,t' σ H R->t σ H R):PI X tg iter t':=fun pins s σ H R I hw=>h pins s σ H R I (w σ H R hw)
noncomputable def loopS (i:Nat) (body:S):List D->Env->Mm->OS
  | [],env,M=>some (.nx env,M)
  | d :: ds, env, M => if i < env.length then (match body (env.set i (.val d)) M with
    |some (.nx e,M1)=>loopS i body ds e M1
    |some (.ct e,M1)=>loopS i body ds e M1
    |some (.bk e,M1)=>some (.nx e,M1)
    |some (.rt d,M1)=>some (.rt d,M1)
    |some (.ex c n,M1)=>some (.ex c n,M1)
    |none=>none) else none
noncomputable def fW (i:Nat) (fs:EA) (body:S):S:=fun env M=>match fs env M with
 |some (.v ds,M1)=>loopS i body ds env M1
 |some (.x c n,M1)=>some (.ex c n,M1)
 |none=>none
theorem XD {K:Fgx}{mg:Mgx}{P0 P1:Pl}{H0 H1:Hp}{Os:List (Option Addr)}{M M':Mm}{st:L2.St}{env:Env}{i:Nat}{b:S}{J:It}{ds:List D}{out:Out}{D:Ends}(k:Ok K mg P0 H0 P1 Os H1 M st env)(wk:Wk K P1 H1 J ds)
  (h:loopS i b ds env M=some (out,M')) (q:Post K mg Wx P0 H0 P1 H1 M' D out):
  ∃W:Nat->Nat->L2.St->Hp->Prop,(∃m,W 0 m st H1)/\∀j m σ H,W j m σ H->
   (J.stop j H/\D.nx σ H)\/(J.go j H/\∃Nn:L2.St->Hp->Prop,(∀σ' H',Nn σ' H'->∃m',m'<m/\W (j + 1) m' σ' H')/\∀x H',J.yld j H x H'->pN i x σ H' fun σ2 H2=>tS K mg Wx b {D with nx:=Nn,ct:=Nn,bk:=D.nx} σ2 H2):=by
 refine⟨fun j m σ H=>m=ds.length - j/\j<=ds.length/\∃P Os' M1 env',Lt P1 H1 P H/\Ok K mg P0 H0 P Os' H M1 σ env'/\loopS i b (ds.drop j) env' M1=some (out,M'),⟨ds.length,by simp,xa0 _,P1,Os,M,env,Lt.refl _ _,k,h⟩,?_⟩;rintro j m σ H ⟨rfl,hj,P,Os',M1,env',lt,k',h'⟩;obtain⟨w1,w2,w3⟩:=wk P H lt
 by_cases hlt:j<ds.length
 ·refine .inr ⟨w1 j hlt,fun σ' H'=>∃P Os' M1 env',Lt P1 H1 P H'/\Ok K mg P0 H0 P Os' H' M1 σ' env'/\loopS i b (ds.drop (j + 1)) env' M1=some (out,M'),fun σ' H' z=>⟨ds.length - (j + 1),by lia,rfl,hlt,z⟩,fun x H' y=>?_⟩;obtain⟨e3,d,ed,iv⟩:=w3 j x H' y hlt;subst e3;have ed':ds.drop j=d::ds.drop (j + 1):=by
   rw[xaZ hlt];rw[xar hlt]at ed;rw[xaA ed]
  rw[ed']at h';simp only[loopS]at h';split at h'
  ·rename_i hi;have k2:=k'.asg hi iv;split at h'
   ·rename_i e M2 eb;exact⟨P0,H0,P,_,_,M1,_,_,k2,eb,fun P' Os2 H2 st2 l2 k3=>⟨P',Os2,_,e,lt.trans l2,k3,h'⟩⟩
   ·rename_i e M2 eb;exact⟨P0,H0,P,_,_,M1,_,_,k2,eb,fun P' Os2 H2 st2 l2 k3=>⟨P',Os2,_,e,lt.trans l2,k3,h'⟩⟩
   ·rename_i e M2 eb;cases h';exact⟨P0,H0,P,_,_,M1,_,_,k2,eb,fun P' Os2 H2 st2 l2 k3=>q P' Os2 H2 st2 (lt.trans l2) k3⟩
   ·rename_i e M2 eb;cases h';exact⟨P0,H0,P,_,_,M1,_,_,k2,eb,q⟩
   ·rename_i c n M2 eb;cases h';exact⟨P0,H0,P,_,_,M1,_,_,k2,eb,q⟩
   ·cases h'
  ·cases h'
 ·have ej:j=ds.length:=by lia
  subst ej;rw[xds]at h';cases h';exact .inl ⟨w2 _ (xaf _) (xaf _),q P Os' H σ lt k'⟩
theorem Bv (hp:PassesOwn (model X.prog X.w) X.A X.env X.xe)(hc:X.calm=true)(hN:X.N.Nodup)(hi:X.N[i]? =some x)(hx:Loc X.env.scope x)(hI:SI X Wx (.Name x p) iter fs)(hb:SB X Wx body b)
  (hf:X.fn x=true\/X.env.scope.names.lookup x=some .local:=by first |exact .inl rfl |exact .inr rfl) (hs:∀x,foldedSetIterable iter X.env x=pure x:=by intro _;rfl):SS X Wx (.For (.Name x p) iter body [] pos) (fW i fs b):=by
 refine fQ (QC hp hc hI (yu hN hi hx hf) hb hs) ?_;rintro D st H ⟨P0,H0,P,Os,env,M,out,M',k,e,q⟩;unfold fW at e;split at e
 ·rename_i ds M1 ef;exact⟨P0,H0,P,Os,env,M,_,_,k,ef,fun P1 H1 J l1 h1 wk=>XD (k.next l1 h1) wk e (q.lt (l1.lt k.hk))⟩
 ·rename_i c n M1 ef;cases e;exact⟨P0,H0,P,Os,env,M,_,_,k,ef,q⟩
 ·cases e
noncomputable def cL (f:E):EA:=fun env M=>match f env M with
 |some (.v (.lst ds),M1)=>some (.v ds,M1)
 |some (.x c n,M1)=>some (.x c n,M1)
 |_=>none
theorem nT (h:SE X Wx .val e f):SI X Wx tg e (cL f):=by
 refine JB (JC h) ?_;rintro st H R ⟨P0,H0,P,Os,env,M,r,M',k,e,q⟩;unfold cL at e;split at e
 ·rename_i ds M1 ef;cases e;refine⟨P0,H0,P,Os,env,M,_,_,k,ef,fun P1 v1 H1 l1 h1 i1=>?_⟩;obtain⟨a,vs,rfl,ra,is⟩:=i1;refine⟨a,rfl,⟨vs,ra.imp (·.2) id⟩,q P1 H1 _ l1 h1 fun P2 H2 l2=>?_⟩;have ra2:=l2.rda ra;have is2:=aA.lt l2 is;have sq:bI X.K H2 a vs:=ra2.imp (·.2) id;refine⟨fun j hj=>?_,fun j h1 h2=>⟨vs,sq,by rw[is2.len];exact h1⟩,fun j x H' y hj=>⟨y.1,?_⟩⟩
  ·obtain⟨v,ev,_⟩:=aA.get is2 (xar hj);exact⟨vs,v,sq,ev⟩
  ·obtain⟨v,ev,iv⟩:=aA.get is2 (xar hj);have:=y.2 vs sq;rw[ev]at this;cases this;exact⟨_,xar hj,iv⟩
 ·rename_i c n M1 ef;cases e;exact⟨P0,H0,P,Os,env,M,_,_,k,ef,q⟩
 ·cases e
end
abbrev G:=List D->Mm->O
noncomputable def nW (K:Fgx) (mg:Mgx) (n:Nat) (g:G):Sp:=fun vs H Q _=>vs.length=n/\∃P M ds d M',Hk K mg P H M/\aA K P H ds vs/\g ds M=some (.v d,M')/\∀P' v H',LtE P H P' H'->Hk K mg P' H' M'->Is K P' H' d v->Q v H'
noncomputable def cV (o:OS):O:=match o with
 |some (.rt d,M)=>some (.v d,M)
 |some (.nx _,M)=>some (.v .non,M)
 |some (.ex c n,M)=>some (.x c n,M)
 |_=>none
noncomputable def cg (n:Nat) (b:S):G:=fun ds M=>cV (b (ds.map .val ++ List.replicate (n - ds.length) .un) M)
theorem zaW {K:Fgx}{mg:Mgx}{P:Pl}{H:Hp}{M:Mm}{N:List Str}{ds:List D}{vs:List V}(hk:Hk K mg P H M)(hl:vs.length<=N.length)(h:aA K P H ds vs):
  Ok K mg P H P (List.replicate N.length none) H M (L2.start N vs) (ds.map .val ++ List.replicate (N.length - ds.length) .un):=by
 have hd:=h.len;refine⟨hk,LtE.refl P H,hk.here,fun i s e=>?_,fun a z=>?_,fun i j a e1 _=>?_,by simp;lia,by simp[L2.start];lia⟩
 ·have e0:((List.replicate N.length (none:Option Addr))[i]?).join=none:=by
   rw[xa9]
   split<;>rfl
  rw[e0]
  by_cases hi:i<ds.length
  ·rw[xaG (by simpa using hi),xaw,xar hi]at e;simp only[xbX,xe4]at e;subst e;obtain⟨v,ev,p⟩:=h.get (xar hi);refine⟨v,?_,p⟩;unfold L2.start;rw[xaG (by rw[xae];lia),xaw,ev];rfl
  ·rw[xat (by simpa using hi),xa9]at e;split at e
   ·cases e;exact True.intro
   ·cases e
 ·exact absurd (xei z) (by simp)
 ·rw[xa9]at e1;split at e1<;>cases e1
structure FunD (K:Fgx)(x qual:Str)(st:Stmt)(f:Addr)(fd:FuncData):Prop where
 ex:∃(oc:Value) (od:Option Addr) (dV kV doc pm:Value) (an:Option Addr) (cdv ct:Value) (osl:Array (Option Value)),
  fd=PySem.W.fnOf x qual (b_ st) (bO st) (aM st) dV kV doc pm an cdv ct/\K.lookup f=some ⟨oc,od,.func fd,osl⟩/\PySem.W.codeIn K cdv qual=true
 kp:PySem.W.keepIn K (.ref f)=true
theorem lg {K:Fgx}{x qual:Str}{st:Stmt}{f:Addr}{oc:Value}{od an:Option Addr}{osl:Array (Option Value)}{dV kV doc pm cdv ct:Value}(l:K.lookup f=some ⟨oc,od,.func (PySem.W.fnOf x qual (b_ st) (bO st) (aM st) dV kV doc pm an cdv ct),osl⟩)
  (c:PySem.W.codeIn K cdv qual=true) (k:PySem.W.keepIn K (.ref f)=true):FunD K x qual st f (PySem.W.fnOf x qual (b_ st) (bO st) (aM st) dV kV doc pm an cdv ct):=⟨⟨oc,od,dV,kV,doc,pm,an,cdv,ct,osl,rfl,l,c⟩,k⟩
section
variable {P:Program}{w:World}{K:Fgx}{mg:Mgx}{base:Heap}{k:Nat}{x qual:Str}{st:Stmt}{f:Addr}{fd:FuncData}{N ps:List Str}{b:S}
def W0:XW:=fun _ _ _ _ _=>False
abbrev zj (P:Program)(w:World)(K:Fgx)(mg:Mgx)(base:Heap)(N:List Str)(qual:Str)(st:Stmt)(f:Addr)(cdv:Value)(A:Around)(outer:List PySem.Env)(s:Shared)(H:Hp)(E:XK):Cx:=(gZ fY P w K mg base N qual (aM st) f cdv A outer s H E).nox
theorem k_ (F:FunD K x qual st f fd)(S:FnScope N ps (aM st))(hp:ps.length<=N.length)
  (hb:∀cdv A outer s H E,Room k (A.deeper (envOfC qual (aM st) s.heap.objs.size f cdv))->SB (zj P w K mg base N qual st f cdv A outer s H E) W0 (bO st) b):FnOk P w K mg base fY (k + 1) f fd ps (nW K mg ps.length (cg N.length b)):=by
 obtain⟨oc,od,dV,kV,doc,pm,an,cdv,ct,osl,rfl,lk,hcd⟩:=F.ex;refine V_ lk hcd S (fun vs H Q E h=>h.1) fun A outer s H vs Q E hr h=>?_;obtain⟨hl,Pl,M,ds,d,M',hk,is,e,q⟩:=h;refine⟨_,gw.nox (hb cdv A outer s H E hr),?_⟩;unfold cg cV at e;have st0:=zaW (N:=N) hk (by lia) is;split at e
 ·rename_i d' M2 eb;cases e;exact⟨Pl,H,Pl,_,_,M,_,_,st0,eb,fun P' v H' l h i=>q P' v H' l h i⟩
 ·rename_i env M2 eb;cases e;exact⟨Pl,H,Pl,_,_,M,_,_,st0,eb,fun P' Os' H' st' _ k'=>q P' .non H' k'.base k'.hk rfl⟩
 ·rename_i c n M2 eb;cases e
 ·cases e
def bB (P:Program)(w:World)(K:Fgx)(mg:Mgx)(base:Heap)(k:Nat)(f:Str)(n:Nat)(g:G):Prop:=
 ∃fa fd ps ds dvs sp,mg f=some (.ref fa)/\PySem.W.keepIn K (.ref fa)=true/\FnOk P w K mg base fY k fa fd ps sp/\Binds K fd ps ds/\Vals dvs ds/\∀vs H Q E,nW K mg n g vs H Q E->sp (vs ++ dvs) H Q E
theorem V9 (F:FunD K x qual st f fd)(S:FnScope N ps (aM st))(hp:ps.length<=N.length)(hm:mg x=some (.ref f))(hd:Binds K fd ps [])
  (hb:∀cdv A outer s H E,Room k (A.deeper (envOfC qual (aM st) s.heap.objs.size f cdv))->SB (zj P w K mg base N qual st f cdv A outer s H E) W0 (bO st) b):bB P w K mg base (k + 1) x ps.length (cg N.length b):=
 ⟨f,fd,ps,[],[],_,hm,F.kp,k_ F S hp hb,hd,.nil,fun vs H Q E h=>by rw[xaJ];exact h⟩
theorem bB.mono (a:bB P w K mg base j x n g)(h:j<=k):bB P w K mg base k x n g:=by
 obtain⟨fa,fd,ps,ds,dvs,sp,h1,h2,h3,h4⟩:=a;exact⟨fa,fd,ps,ds,dvs,sp,h1,h2,h3.mono h,h4⟩
end
section
variable {X:Cx}{Wx:XW}{m:Mode}
noncomputable def cj (g:G) (fs:EA):E:=fun env M=>cA (fs env M) fun ds M1=>match g ds M1 with
 |some (.v d,M2)=>some (.v d,M2)
 |_=>none
theorem cT.len {K:Fgx}{P:Pl}{H:Hp}:∀{ds:List D} {vs:List V},cT K P H m ds vs->vs.length=ds.length
  | [],_,h=>by rw[show _=[] from h];rfl
  |d::ds,_,h=>by
    obtain⟨v,r,e,_,q⟩:=h;subst e
    simp[cT.len q]
def tY (n:Nat)(fs:EA):Prop:=∀env M ds M',fs env M=some (.v ds,M')->ds.length=n
theorem cnt_nil:tY 0 aq:=fun env M ds M' e=>by cases e;rfl
theorem cnt_cons (h:tY n fs):tY (n + 1) (au f fs):=fun env M ds M' e=>by
 unfold au at e;split at e
 ·split at e
  ·rename_i ef;cases e;rw[xav,h _ _ _ _ ef]
  ·cases e
  ·cases e
 ·cases e
 ·cases e
theorem cQ {k n:Nat}{f:Str}{g:G}{e:Expr}{es:List Expr}{fs:EA}{p pos:Pos}(a:bB X.prog X.w X.K X.mg X.base k f n g)(hr:Room k X.A)(hg:Gl X f)(ha:SA X Wx .val (e::es) fs)(hn:tY n fs)(hdb:(f==("__debug__":Str))=false:=by x_go)
  (he:starEach (e::es) X.env=(false,eval e X.env)::starEach es X.env:=by rfl) (hpl:(backTo pos (starEach es X.env)).any (·.1)=false:=by rfl):SE X Wx m (.Call (.Name f p) (e::es) [] pos) (cj g fs):=by
 obtain⟨fa,fd,ps,ds,dvs,sp,hm,hk,F,hb,hv,himp⟩:=a;refine bR (ZC F hr hg hm hk hb hv Ax ha hdb he hpl) ?_;rintro st H Q ⟨P0,H0,P,Os,env,M,r,M',k,e,q⟩;unfold cj at e;rcases mq e with⟨ds,M1,e1,e⟩ |⟨c,n,e1,rfl⟩
 ·split at e
  ·rename_i d M2 eg;cases e;exact⟨P0,H0,P,Os,env,M,_,_,k,e1,fun P1 vs H1 l1 h1 i1=>himp _ _ _ _ ⟨by rw[i1.len];exact hn _ _ _ _ e1,P1,M1,ds,d,_,h1,i1.iss,eg,fun P2 v H2 l2 h2 i2=>q P2 v H2 (l1.trans l2) h2 (cB.of h2 i2)⟩⟩
  ·cases e
 ·exact⟨P0,H0,P,Os,env,M,_,_,k,e1,q⟩
end
def yK (i j:Int):Prop:=n_ i j\/(i.natAbs.log2<10000/\j.natAbs.log2<10000)
theorem Mz (h:i.natAbs.log2<10000):Builtin.Int.intBits i<=10001:=by
 unfold Builtin.Int.intBits
 split<;>lia
theorem yK.ok (h:yK i j):IntMulOk i j:=by
 rcases h with h |⟨h1,h2⟩
 ·exact h.ok
 ·exact mulOk_of_bits (Mz h1) (Mz h2) (by decide)
theorem Jv:bU X (binaryOp .Mult) (rI yK fun i j=>.int (i * j)):=Eh fun _ _ _ _ _ _ _ hc q=>mul_int q hc.ok
section
variable {X:Cx}{pins:Pnx}{σ:L2.St}{H:Hp}{s:Shared}{K:Fgx}
noncomputable def QV (K:Fgx):R2:=fun x y H Q=>∃l b xs zs,x=.ref l/\y=.ref b/\bI K H l xs/\bI K H b zs/\xs.length + zs.length<=sizeLine/\∀p,H p=none->Q (.ref p) (upd H p (.lst (xs ++ zs)))
theorem Zb:bU X (binaryOp .Add) (QV X.K):=by
 intro pins s σ H x y v u Q I rx ry h;obtain⟨l,b,xs,zs,rfl,rfl,hH,hB,hz,q⟩:=h;cases rx;cases ry;obtain⟨z,its,r,⟨cls,dd,data,sl⟩,ho,hc,n,hd⟩:=sql I hH;obtain⟨z2,its2,r2,⟨cls2,dd2,data2,sl2⟩,ho2,hc2,n2,hd2⟩:=sql I hB;simp only at hc hd hc2 hd2;subst hc hd hc2 hd2;have hl:=r.length;have hl2:=r2.length;refine concat_meets ⟨_,ho,rfl⟩ ⟨_,ho2,rfl⟩ noFill_list_add seq_list_add F.slot_list_add F.entry_list_add (F.args_list_add_2 _ _) (list_addW l b its.toArray its2.toArray n n2 dd dd2 sl sl2 (by rw[xan,xan];lia)) ⟨ho,ho2,?_⟩;have ea:its.toArray ++ its2.toArray=(its ++ its2).toArray:=by simp
 rw[ea];exact⟨.ref _,_,I.lnew (t':=s.toks) (r.append r2) (by rw[xam];lia),rfl,q _ I.fresh⟩
theorem Qi {P:Pl}{H:Hp}{ds:List D}{vs:List V}{Q:VK}(hn:∀p,H p=none->¬ P.bd p)(h:aA K P H ds vs)(q:∀u H',Same H H'->Is K P H' (.lst ds) u->Q u H'):∀p,H p=none->Q (.ref p) (upd H p (.lst vs)):=fun p hp=>by
 have s:=mY (o:=.lst vs) hp;exact q _ _ s ⟨p,vs,rfl,.inl ⟨hn p hp,.inl bJ⟩,aA.lt ⟨xaf _,fun _ _=>rfl,fun _ z=>.inl z,fun a o e _=>s a o e,fun a z=>s.free z⟩ h⟩
theorem Yd {P:Pl}{H:Hp}{ds:List D}{vs:List V}{Q:VK}(h:aA K P H ds vs)(q:∀u H',Same H H'->Is K P H' (.tup ds) u->Q u H'):∀p,H p=none->Q (.ref p) (upd H p (.tup vs)):=fun p hp=>by
 have s:=mY (o:=.tup vs) hp;exact q _ _ s ⟨p,vs,rfl,.inl (.inl bJ),aA.lt ⟨xaf _,fun _ _=>rfl,fun _ z=>.inl z,fun a o e _=>s a o e,fun a z=>s.free z⟩ h⟩
noncomputable def aZ:D->D->Option D
 |.int i,.int j=>some (.int (i + j))
 |.str i,.str j=>if i.length + j.length<=sizeLine then some (.str (i ++ j)) else none
 |.lst xs,.lst ys=>if xs.length + ys.length<=sizeLine then some (.lst (xs ++ ys)) else none
 |_,_=>none
noncomputable def wK (K:Fgx):R2:=fun x y H Q=>gO (fun i j=>.int (i + j)) x y H Q\/(∃i j,x=.str i/\y=.str j/\i.length + j.length<=sizeLine/\Q (.str (i ++ j)) H)\/QV K x y H Q
theorem dU:bU X (binaryOp .Add) (wK X.K):=Y_.or (Za.or Zb)
theorem dW:gR K (wK K) aZ:=fun P H d e z v w Q h h1 h2 hn q=>by
 unfold aZ at h;split at h
 ·cases h;cases h1;cases h2;exact .inl ⟨_,_,rfl,rfl,q _ H (Same.refl H) rfl⟩
 ·split at h
  ·rename_i hl;cases h;cases h1;cases h2;exact .inr (.inl ⟨_,_,rfl,rfl,hl,q _ H (Same.refl H) rfl⟩)
  ·cases h
 ·split at h
  ·rename_i hl;cases h;obtain⟨a,vs,rfl,r1,s1⟩:=h1;obtain⟨b,ws,rfl,r2,s2⟩:=h2;exact .inr (.inr ⟨a,b,vs,ws,rfl,rfl,r1,r2,by rw[s1.len,s2.len];exact hl,Qi hn (s1.append s2) q⟩)
  ·cases h
 ·cases h
noncomputable def oI (g:Int->Int->Option D):D->D->Option D
 |.int i,.int j=>g i j
 |_,_=>none
theorem Aj (h:oI g d e=some z)(h1:bV K P H d v)(h2:bV K P H e w):∃i j,v=.int i/\w=.int j/\g i j=some z:=by
 unfold oI at h;split at h
 ·cases h1;cases h2;exact⟨_,_,rfl,rfl,h⟩
 ·cases h
def dz:=oI fun i j=>some (.int (i - j))
theorem sG:gR K (gO fun i j=>.int (i - j)) dz:=fun P H d e z v w Q h h1 h2 _ q=>by
 obtain⟨i,j,rfl,rfl,h⟩:=Aj h h1 h2;cases h;exact⟨i,j,rfl,rfl,q _ H (Same.refl H) rfl⟩
noncomputable def fP:=oI fun i j=>if i.natAbs<18446744073709551616\/j.natAbs<18446744073709551616\/(i.natAbs.log2<10000/\j.natAbs.log2<10000) then some (.int (i * j)) else none
theorem JK:gR K (rI yK fun i j=>.int (i * j)) fP:=fun P H d e z v w Q h h1 h2 _ q=>by
 obtain⟨i,j,rfl,rfl,h⟩:=Aj h h1 h2;split at h
 ·rename_i hg;cases h;exact⟨i,j,rfl,rfl,by unfold yK n_;rw[show(2:Int) ^ 64=18446744073709551616 from rfl];exact hg.elim (fun z=>.inl (.inl ⟨by lia,by lia⟩)) (fun z=>z.elim (fun z=>.inl (.inr ⟨by lia,by lia⟩)) .inr),q _ H (Same.refl H) rfl⟩
 ·cases h
noncomputable def fB:=oI fun i j=>if 0<j/\j.natAbs<1073741824 then some (.int (i / j)) else none
theorem lG:gR K (rI yJ fun i j=>.int (i / j)) fB:=fun P H d e z v w Q h h1 h2 _ q=>by
 obtain⟨i,j,rfl,rfl,h⟩:=Aj h h1 h2;split at h
 ·rename_i hg;cases h;exact⟨i,j,rfl,rfl,⟨hg.1,by lia⟩,q _ H (Same.refl H) rfl⟩
 ·cases h
def oMod:=oI fun i j=>if 0<j then some (.int (i % j)) else none
theorem gh:gR K (rI (fun _ j=>0<j) fun i j=>.int (i % j)) oMod:=fun P H d e z v w Q h h1 h2 _ q=>by
 obtain⟨i,j,rfl,rfl,h⟩:=Aj h h1 h2;split at h
 ·rename_i hg;cases h;exact⟨i,j,rfl,rfl,hg,q _ H (Same.refl H) rfl⟩
 ·cases h
noncomputable def bW:=oI fun i j=>if 0<=j/\j.natAbs<=1000000/\i.natAbs<18446744073709551616 then some (.int (i ^ j.toNat)) else none
theorem Bb:gR K (rI tX fun i j=>.int (i ^ j.toNat)) bW:=fun P H d e z v w Q h h1 h2 _ q=>by
 obtain⟨i,j,rfl,rfl,h⟩:=Aj h h1 h2;split at h
 ·rename_i hg;cases h;exact⟨i,j,rfl,rfl,by unfold tX;rw[show(2:Nat) ^ 64=18446744073709551616 from rfl];exact⟨hg.1,by lia,hg.2.2⟩,q _ H (Same.refl H) rfl⟩
 ·cases h
def aG (c:Cp)(a b:D):Option D:=(dw c a b).map .bl
theorem JG:gR K (JX K c) (aG c):=fun P H d e z v w Q h h1 h2 _ q=>by
 unfold aG at h;rw[xah]at h;obtain⟨b,h,rfl⟩:=h;exact Va h h1 h2 (q _ H (Same.refl H) rfl)
noncomputable def aR:D->D->Option D
 |.lst ds,.int i=>cu ds i
 |.tup ds,.int i=>cu ds i
 |.str z,.int i=>if z.length<=sizeLine then(cu z.cps.toList i).map fun c=>.str ⟨#[c]⟩ else none
 |_,_=>none
noncomputable def J0 (K:Fgx):R2:=fun x y H Q=>wL K x y H Q\/wN K x y H Q\/wM x y H Q
theorem W_:m_ X (J0 X.K):=Xa.or (Xc.or Xb)
theorem Ms (h:cu ds i=some d)(q:aA K P H ds vs):∃u,cu vs i=some u/\Is K P H d u:=by
 unfold cu at h ⊢;rw[q.len]
 cases e:mL ds.length i with
 |none=>rw[e]at h;cases h
 |some j=>rw[e]at h;exact q.get h
theorem zeu:gR K (J0 K) aR:=fun P H d e z v w Q h h1 h2 _ q=>by
 unfold aR at h;split at h
 ·obtain⟨a,vs,rfl,r,s⟩:=h1;cases h2;obtain⟨u,e,p⟩:=Ms h s;exact .inl ⟨a,vs,_,u,rfl,rfl,r,e,q _ H (Same.refl H) p⟩
 ·obtain⟨a,vs,rfl,r,s⟩:=h1;cases h2;obtain⟨u,e,p⟩:=Ms h s;exact .inr (.inl ⟨a,vs,_,u,rfl,rfl,r,e,q _ H (Same.refl H) p⟩)
 ·split at h
  ·rename_i hl;rw[xah]at h;obtain⟨c,h,e⟩:=h;cases e;cases h1;cases h2;exact .inr (.inr ⟨_,_,c,rfl,rfl,hl,h,q _ H (Same.refl H) rfl⟩)
  ·cases h
 ·cases h
noncomputable def eO:List D->Option D
 | [.lst ds]=>some (.int ds.length)
 | [.tup ds]=>some (.int ds.length)
 | [.str z]=>if z.length<=sizeLine then some (.int z.length) else none
 |_=>none
def Bc (K:Fgx):List V->Hp->VK->Prop:=fun xs H Q=>(∃p ys,xs=[.ref p]/\(bI K H p ys\/cZ K H p ys)/\Q (.int ys.length) H)\/∃z,xs=[.str z]/\z.length<=sizeLine/\Q (.int z.length) H
theorem CW:c7 X (.builtin "len") (Bc X.K):=UW.or U0
theorem En:kZ K (Bc K) eO:=fun P H ds z vs Q h i _ q=>by
 unfold eO at h;split at h
 ·obtain⟨v,ws,rfl,p,rfl⟩:=i;cases h;obtain⟨a,us,rfl,r,s⟩:=p;exact .inl ⟨a,us,rfl,.inl r,q _ H (Same.refl H) (by rw[s.len];rfl)⟩
 ·obtain⟨v,ws,rfl,p,rfl⟩:=i;cases h;obtain⟨a,us,rfl,r,s⟩:=p;exact .inl ⟨a,us,rfl,.inr r,q _ H (Same.refl H) (by rw[s.len];rfl)⟩
 ·split at h
  ·rename_i hl;obtain⟨v,ws,rfl,p,rfl⟩:=i;cases h;cases p;exact .inr ⟨_,rfl,hl,q _ H (Same.refl H) rfl⟩
  ·cases h
 ·cases h
noncomputable def gU:List D->Option D
 | [.int i,.int j]=>some (.int (if j<i then j else i))
 |_=>none
noncomputable def pD:List D->Option D
 | [.int i,.int j]=>some (.int (if j > i then j else i))
 |_=>none
theorem JH:kZ K (fun xs H Q=>∃i j,xs=[.int i,.int j]/\Q (.int (if j<i then j else i)) H) gU:=fun P H ds z vs Q h i _ q=>by
 unfold gU at h;split at h
 ·obtain⟨v,ws,rfl,p,v',ws',rfl,p',rfl⟩:=i;cases h;cases p;cases p';exact⟨_,_,rfl,q _ H (Same.refl H) rfl⟩
 ·cases h
theorem zds:kZ K (fun xs H Q=>∃i j,xs=[.int i,.int j]/\Q (.int (if j > i then j else i)) H) pD:=fun P H ds z vs Q h i _ q=>by
 unfold pD at h;split at h
 ·obtain⟨v,ws,rfl,p,v',ws',rfl,p',rfl⟩:=i;cases h;cases p;cases p';exact⟨_,_,rfl,q _ H (Same.refl H) rfl⟩
 ·cases h
end
section
variable {X:Cx}{Wx:XW}{m:Mode}
noncomputable def B_:D->String
 |.non=>"NoneType"
 |.bl _=>"bool"
 |.int _=>"int"
 |.str _=>"str"
 |.tup _=>"tuple"
 |.lst _=>"list"
 |.ref _=>""
theorem UG:c7 X (.builtin "isinstance") (fun xs H Q=>∃(x:V) (T:String) (d:D) (P:Pl) (b:Bool),xs=[x,.ty T]/\bV X.K P H d x/\B_ d≠""/\PySem.W.kitOne X.K (.type (B_ d)) (.type T)=some b/\Q (.bl b) H):=by
  intro pins s σ H xs us Q I r h;obtain⟨x,T,d,A,b,rfl,i,ne,e,q⟩:=h;obtain⟨u,w',rfl,rx,rT⟩:=vals2 r;cases rT;have fin:∀tk,EP X pins σ Q (.bool b) {s with toks:=tk}:=fun tk=>⟨.bl b,H,I.tok _,rfl,q⟩
  cases d with
  |non=>have hv:x=.non:=i;subst hv;exact Dt I rx (TyOf.non) e fin
  |bl y=>have hv:x=.bl y:=i;subst hv;exact Dt I rx (TyOf.bl y) e fin
  |int y=>have hv:x=.int y:=i;subst hv;exact Dt I rx (TyOf.int y) e fin
  |str y=>have hv:x=.str y:=i;subst hv;exact Dt I rx (TyOf.str y) e fin
  |ref n=>exact absurd rfl ne
  |tup ds=>
    obtain⟨a,vs,rfl,t,_⟩:=i;cases rx;obtain⟨its,_,p,_⟩:=I.tuple t;obtain⟨o,h1,h2,_⟩:=p;exact xa5 xeW I.kIn ⟨o,h1,h2⟩ e (fun z=>nomatch z) fin
  |lst ds=>
    obtain⟨a,vs,rfl,t,_⟩:=i;cases rx;obtain⟨_,its,_,o,h1,h2,_⟩:=sql I t;exact xa5 xd2 I.kIn ⟨o,h1,h2⟩ e (fun z=>nomatch z) fin
theorem zbq {K:Fgx}{P:Pl}{H:Hp}{lo:Int}{n:Nat}:Wk K P H (Cq lo n) ((List.range n).map fun(k:Nat)=>.int (lo + k)):=fun P' H' l=>by
 rw[xae,xcL];refine⟨fun k hk=>hk,fun k h1 _=>h1,fun k x H2 y hk=>⟨y.1,.int (lo + k),?_,y.2⟩⟩;rw[xaw,List.getElem?_range hk];rfl
noncomputable def yc (fs:EA):EA:=fun env M=>match fs env M with
 |some (.v [.int j],M1)=>if -1000000000<=j/\j<=1000000000 then some (.v ((List.range j.toNat).map fun(k:Nat)=>.int (0 + k)),M1) else none
 |some (.x c n,M1)=>some (.x c n,M1)
 |_=>none
theorem zbR (hg:Gl X "range")(hm:X.mg "range"=none)(ha:SA X Wx .val [a] fs)(hs:starEach [a] X.env=[(false,eval a X.env)]:=by rfl):SI X Wx tg (.Call (.Name "range" p) [a] [] pos) (yc fs):=by
 refine JB (Z_ hg hm ha hs) ?_;rintro st H R ⟨P0,H0,P,Os,env,M,r,M',k,e,q⟩;unfold yc at e;split at e
 ·rename_i j M1 ef;split at e
  ·rename_i hj;cases e;refine⟨P0,H0,P,Os,env,M,_,_,k,ef,fun P1 vs H1 l1 h1 i1=>?_⟩;obtain⟨v,ws,rfl,p,rfl⟩:=i1;exact⟨j,by rw[show v=.int j from p],by lia,by lia,q P1 H1 _ l1 h1 zbq⟩
  ·cases e
 ·rename_i c n M1 ef;cases e;exact⟨P0,H0,P,Os,env,M,_,_,k,ef,q⟩
 ·cases e
def sE:Env->Mm->Option (Option Int×Mm):=fun _ M=>some (none,M)
noncomputable def mU (f:E):Env->Mm->Option (Option Int×Mm):=fun env M=>match f env M with
 |some (.v (.int i),M1)=>some (some i,M1)
 |_=>none
noncomputable def tP (K:Fgx) (mg:Mgx) (f:Env->Mm->Option (Option Int×Mm)):TO:=fun st H Q=>∃P0 H0 P Os env M i M',Ok K mg P0 H0 P Os H M st env/\f env M=some (i,M')/\∀P' H',LtE P H P' H'->Hk K mg P' H' M'->Q i H'
def xK (X:Cx)(e:Option Expr)(f:Env->Mm->Option (Option Int×Mm)):Prop:=PO X e (tP X.K X.mg f)
theorem QB (h:PO X e t)(w:∀σ H Q,t' σ H Q->t σ H Q):PO X e t':=fun pins s σ H Q I hw=>h pins s σ H Q I (w σ H Q hw)
theorem FQ:xK X none sE:=by
 refine QB zbS ?_;rintro st H Q ⟨P0,H0,P,Os,env,M,i,M',k,e,q⟩;cases e;exact q P H (LtE.refl P H) k.hk
theorem yE (h:SE X Wx .val e f):xK X (some e) (mU f):=by
 refine QB (zbT h) ?_;rintro st H Q ⟨P0,H0,P,Os,env,M,i,M',k,e,q⟩;unfold mU at e;split at e
 ·rename_i j M1 ef;cases e;exact⟨P0,H0,P,Os,env,M,_,_,k,ef,fun P1 v H1 l1 h1 i1=>⟨j,i1,q P1 H1 l1 h1⟩⟩
 ·cases e
noncomputable def dH {α:Type} (xs:List α) (lo hi:Option Int):List α:=(xs.drop (HT.bf xs.length 0 lo)).take (HT.bf xs.length xs.length hi - HT.bf xs.length 0 lo)
theorem Nv {K:Fgx}{P:Pl}{H:Hp}{ds:List D}{vs:List V}{lo hi:Option Int}(q:aA K P H ds vs):aA K P H (dH ds lo hi) (fO vs lo hi):=by
 unfold dH fO;rw[q.len];exact(q.drop _).take _
noncomputable def yD (d:D) (lo hi:Option Int):Option D:=match d with
 |.lst ds=>some (.lst (dH ds lo hi))
 |.str z=>if z.length<=sizeLine then some (.str (Txt.slice z lo hi)) else none
 |_=>none
noncomputable def yx (f:E) (l h:Env->Mm->Option (Option Int×Mm)):E:=fun env M=>bnd (f env M) fun d M1=>match l env M1 with
  | some (lo, M2) => (match h env M2 with
    |some (hi,M3)=>(yD (vw M3 d) lo hi).map fun z=>(.v z,M3)
    |none=>none)
  |none=>none
theorem Kw {e:Expr}{lo hi:Option Expr}{p2 pos:Pos}{f:E}{l h:Env->Mm->Option (Option Int×Mm)}(he:SE X Wx .bor e f)(hl:xK X lo l)(hh:xK X hi h):SE X Wx m (.Subscript e (.Slice lo hi none p2) pos) (yx f l h):=by
 refine bR (Qw (zcr.or zdg) he hl hh) ?_;rintro st H Q ⟨P0,H0,P,Os,env,M,r,M',k,e,q⟩;unfold yx at e;rcases bN e with⟨d,M1,e1,e⟩ |⟨c,n,e1,rfl⟩
 ·split at e
  ·rename_i lo' M2 el;split at e
   ·rename_i hi' M3 eh;rw[xah]at e;obtain⟨z,ez,e⟩:=e;cases e;refine aQ k e1 fun P1 v1 H1 l1 h1 i1=>⟨P0,H0,P1,Os,env,M1,_,_,k.next l1 h1,el,fun P2 H2 l2 h2=>⟨P0,H0,P2,Os,env,M2,_,_,(k.next l1 h1).next l2 h2,eh,fun P3 H3 l3 h3=>?_⟩⟩
    have i3:=cY.vw h3 (cY.lt l3 h2 (cY.lt l2 h1 i1));have fin:∀u H',Same H3 H'->Is X.K P3 H' z u->Q u H':=fun u H' s i=>q P3 u H' (l1.trans (l2.trans (l3.trans (LtE.same s)))) (h3.same s) (cB.of (h3.same s) i);generalize vw M' d=d' at i3 ez;unfold yD at ez;split at ez
    ·cases ez;obtain⟨a,vs,rfl,r,s⟩:=i3;exact .inl ⟨a,vs,rfl,r,Qi h3.new (Nv s) fin⟩
    ·split at ez
     ·rename_i hz;cases ez;cases i3;exact .inr ⟨_,rfl,hz,fin _ _ (Same.refl _) rfl⟩
     ·cases ez
    ·cases ez
   ·cases e
  ·cases e
 ·exact aQ k e1 q
noncomputable def mW (f:E):E:=fun env M=>bnd (f env M) fun d M1=>match d with
 |.lst ds=>some (.v (.ref M1.length),M1 ++ [.lst ds])
 |_=>none
theorem Bq (h:SN X Wx e f):SE X Wx m e (mW f):=by
  refine bR h ?_;rintro st H Q ⟨P0,H0,P,Os,env,M,r,M',k,e,q⟩;unfold mW at e;rcases bN e with⟨d,M1,e1,e⟩ |⟨c,n,e1,rfl⟩
  · cases d<;>simp only[reduceCtorEq]at e
    rename_i ds;cases e;refine⟨P0,H0,P,Os,env,M,_,_,k,e1,ds,rfl,fun P1 a vs H1 l1 h1 ha ba nc ea is=>?_⟩;have hn:P1.n=M1.length:=h1.n
    let P2:Pl:={io:=fun j=>if j=P1.n then a else P1.io j,n:=P1.n + 1,bd:=P1.bd}
    have io : ∀ j, j < P1.n -> P2.io j = P1.io j := fun j hj => xad (by lia);have ioN : P2.io P1.n = a := xac rfl;have l2 : Lt P1 H1 P2 H1 := ⟨xcp _, io, fun _ z => .inl z, fun _ _ e _ => e, fun _ z => z⟩;have le : LtE P H P2 H1 := ⟨xdj l1.n,fun j hj=>(io j (xap hj l1.n)).trans (l1.io j hj),l1.bd,l1.bm,l1.keep,l1.sure,fun j h2 h3=>by
      rcases xaT j P1.n with z |z
      · rw[io j z];exact l1.nw j h2 z
      · have:j=P1.n:=xaV (xaS h3) z;rw[this,ioN];exact ha⟩
    have hk2:Hk X.K X.mg P2 H1 (M1 ++ [.lst ds]):=by
      refine⟨by rw[xam, <-hn];rfl,fun j c ej=>?_,fun i j hi hj e=>?_,fun j hj=>?_,h1.here⟩
      · rcases xaT j P1.n with z |z
        · rw[xaG (by rw[<-hn];exact z)]at ej;rw[io j z];exact(h1.cell j c ej).lt l2 fun _ z=>z
        · have jl:=(xai.mp ej).1;rw[xam,xaF, <-hn]at jl;have:j=P1.n:=by lia
          subst this;rw[xat (by rw[hn];exact xaf _),hn,xbS]at ej;cases ej;rw[ioN];exact⟨vs,ea,aA.lt l2 is⟩
      · rcases xaT i P1.n with z |z
        · rcases xaT j P1.n with y |y
          · rw[io i z,io j y]at e;exact h1.inj i j z y e
          · have:j=P1.n:=xaV (xaS hj) y;rw[io i z,this,ioN]at e;exact absurd e (nc i z)
        · have iN:i=P1.n:=xaV (xaS hi) z;rcases xaT j P1.n with y |y
          · rw[iN,ioN,io j y]at e;exact absurd e.symm (nc j y)
          · rw[iN];exact xaV y (xaS hj)
      · rcases xaT j P1.n with z |z
        · rw[io j z];exact h1.bd j z
        · have:j=P1.n:=xaV (xaS hj) z;rw[this,ioN];exact ba
    exact q P2 _ H1 le hk2 (cB.of hk2 (show Is _ _ _ (.ref _) _ from⟨by show _<P1.n + 1;rw[hn];exact xbg _,by rw[<-hn,ioN]⟩))
  · exact⟨P0,H0,P,Os,env,M,_,_,k,e1,q⟩
noncomputable def fV (f g:E):S:=fun env M=>bC (f env M) fun d M1=>match d with
  | .ref j => (match M1[j]? with
    | some (.lst _) => bC (g env M1) fun y M2 => (match M2[j]? with
      |some (.lst ds)=>if ds.length<sizeLine then some (.nx env,M2.set j (.lst (ds ++ [y]))) else none
      |_=>none)
    |_=>none)
  |_=>none
theorem FT (ho:SE X Wx .val o f)(he:SE X Wx .val e g)(hbase:attributeBase o "append" X.env (eval o X.env)=eval o X.env:=by rfl)
  (hfew:((backTo q (starEach [e] X.env)).all (fun x=> !x.1) && (backToKw q (keywordEach [] X.env)).all (fun x=>x.1.isSome) && decide ([e].length + ([]:List Keyword).length + (if ([]:List Keyword).isEmpty then 0 else 1)<30))=true:=by rfl)
  (hline:(p.endLine==q.line)=true:=by rfl) (hs:starEach [e] X.env=(false,eval e X.env)::starEach [] X.env:=by rfl) (hw:swapsWith (.Call (.Attribute o "append" p) [e] [] q) none pos.line X.env=pure false:=by rfl):
  SS X Wx (.Expr (.Call (.Attribute o "append" p) [e] [] q) pos) (fV f g):=by
 refine fQ (JD (Az xen xeg xeh Ji ho (lF he nJ hs) hbase hfew hline hs rfl) hw) ?_;rintro D st H ⟨P0,H0,P,Os,env,M,out,M',k,e,q⟩;unfold fV at e;rcases eE e with⟨d,M1,e1,e⟩ |⟨c,n,e1,rfl⟩
 ·cases d<;>simp only[reduceCtorEq]at e
  rename_i j;split at e
  rotate_left
  ·cases e
  rename_i ds0 em0;refine⟨P0,H0,P,Os,env,M,_,_,k,e1,fun P1 v1 H1 l1 h1 i1=>?_⟩;have k1:=k.next l1 h1
  obtain⟨jl,rfl⟩:j<P1.n/\v1=.ref (P1.io j):=i1;obtain⟨vs0,ev0,_⟩:=h1.cell j _ em0;refine⟨.inl ⟨rfl,vs0,.inl (.inl ev0)⟩,?_⟩;rcases eE e with⟨y,M2,e2,e⟩ |⟨c,n,e2,rfl⟩
  ·split at e
   ·rename_i ds em;split at e
    ·rename_i hz;cases e;refine aQ k1 e2 fun P2 v2 H2 l2 h2 i2=>?_;obtain⟨vs,ev,is⟩:=h2.cell j _ em;rw[l2.io j jl]at ev;have i3:=Is.lt (Lt.refl P2 H2) i2;refine⟨P1.io j,vs,v2,rfl,rfl,ev,by rw[is.len];exact hz,?_⟩;have eio:P2.io j=P1.io j:=l2.io j jl;have jl2:j<P2.n:=xap jl l2.n;obtain⟨o0,eo0,nf0⟩:=h2.cellAt em;have lc:Lt P2 H2 P2 (upd H2 (P2.io j) (.lst (vs ++ [v2]))):=mR (h2.bd j jl2) eo0 nf0;obtain⟨l3,l3e,h3⟩:=h2.set (c':=.lst (ds ++ [y])) (o':=.lst (vs ++ [v2])) em ⟨vs ++ [v2],bJ,aA.append (aA.lt lc is) (aA.one (Is.lt lc i2))⟩;rw[eio]at l3 l3e h3;exact q _ _ _ _ ((l1.lt k.hk).trans ((l2.lt h1).trans l3)) ((k1.next l2 h2).next l3e h3)
    ·cases e
   ·cases e
  ·exact aQ k1 e2 q
 ·exact⟨P0,H0,P,Os,env,M,_,_,k,e1,q⟩
end
section
variable {X:Cx}{Wx:XW}{m:Mode}{pos:Pos}
noncomputable def j_:D->Option D
 |.int i=>some (.int (-i))
 |_=>none
theorem JL {K:Fgx}:Gz K (rU fun i=>.int (-i)) j_:=fun P H d z v Q h i _ q=>by
 unfold j_ at h;split at h
 ·cases h;cases i;exact⟨_,rfl,q _ H (Same.refl H) rfl⟩
 ·cases h
theorem Ky (ho:Cr X (unaryOp op) r)(po:Gz X.K r o)(ha:SE X Wx .bor a f):SE X Wx m (.UnaryOp op a pos) (s1 o f):=
 bR (Z5 ho ha) fun _ _ _ h=>zeH po h
noncomputable def Et (f:E):E:=fun env M=>bnd (f env M) fun d M1=>match vw M1 d with
 |.lst ds=>some (.v (.lst ds),M1)
 |.tup ds=>some (.v (.lst ds),M1)
 |_=>none
theorem zb8 (hg:Gl X "list")(hm:X.mg "list"=none)(he:SE X Wx .bor e f)(hs:starEach [e] X.env=(false,eval e X.env)::starEach [] X.env:=by rfl):SN X Wx (.Call (.Name "list" p) [e] [] pos) (Et f):=by
 refine bR (Qt U3 hg hm boot_list (lF he nJ hs) (by x_go) (by x_go) hs rfl) ?_;rintro st H Q ⟨P0,H0,P,Os,env,M,r,M',k,e,q⟩;unfold Et at e;rcases bN e with⟨d,M1,e1,e⟩ |⟨c,n,e1,rfl⟩
 ·refine aQ k e1 ?_;have key:∀ds,r=.v (.lst ds)->M'=M1->(∀P1 v1 H1,bV X.K P1 H1 (vw M1 d) v1->∃a vs,v1=.ref a/\(bI X.K H1 a vs\/cZ X.K H1 a vs)/\aA X.K P1 H1 ds vs)->∀P1 v1 H1,LtE P H P1 H1->Hk X.K X.mg P1 H1 M1->cB X.K P1 H1 .bor d v1->
    ∃p ys,[v1]=[V.ref p]/\(bI X.K H1 p ys\/cZ X.K H1 p ys)/\∀l,H1 l=none->Q (.ref l) (upd H1 l (.lst ys)):=by
   rintro ds rfl rfl hv P1 v1 H1 l1 h1 i1;obtain⟨ds',e',q⟩:=q;cases e';obtain⟨a,vs,rfl,sq,is⟩:=hv P1 v1 H1 (cY.vw h1 i1);refine⟨a,vs,rfl,sq,fun p hp=>?_⟩;obtain⟨l2,h2,nc⟩:=pF (vs:=vs) h1 hp;exact q (P1.bar p) p vs _ (l1.trans l2) h2 (l1.sure p hp) (.inr rfl) nc bJ (aA.lt (l2.lt h1) is)
  split at e
  ·rename_i ds ev;cases e;exact key ds rfl rfl fun P1 v1 H1 i=>by
    rw[ev]at i;obtain⟨a,vs,e,s,is⟩:=i;exact⟨a,vs,e,.inl s,is⟩
  ·rename_i ds ev;cases e;exact key ds rfl rfl fun P1 v1 H1 i=>by
    rw[ev]at i;obtain⟨a,vs,e,s,is⟩:=i;exact⟨a,vs,e,.inr s,is⟩
  ·cases e
 ·exact aQ k e1 q
end
noncomputable def Bt (K:Fgx) (g:G):Sp:=fun vs H Q E=>∀mg,nW K mg 1 g vs H Q E
theorem Wb {P:Program}{w:World}{K:Fgx}{mg:Mgx}{base:Heap}{k:Nat}{f:Addr}{fd:FuncData}{ps:List Str}{g:G}(F:FnOk P w K mg base fY k f fd ps (nW K mg 1 g)):FnOk P w K mg base fY k f fd ps (Bt K g):=
 ⟨fun vs H Q E h=>F.len vs H Q E (h mg),fun A outer s H args us vs Q E hr he hb hv hs=>F.run A outer s H args us vs Q E hr he hb hv (hs mg)⟩
theorem O7 {K:Fgx}{P:Pl}{H:Hp}:∀ns:List Int,aA K P H (ns.map D.int) (ns.map V.int)
 | []=>rfl
 |n::ns=>⟨.int n,_,rfl,rfl,O7 ns⟩
theorem Xo {K:Fgx}{g:G}{H:Hp}{a:Addr}{ns:List Int}(hg:∃M,g [.lst (ns.map D.int)] []=some (.v (.bl true),M))(hS:bI K H a (ns.map V.int)):Bt K g [.ref a] H (fun v _=>v=.bl true) fun _ _ _=>False:=by
 intro mg;obtain⟨M,e⟩:=hg;refine⟨rfl,⟨fun _=>0,0,fun _=>False⟩,[],[.lst (ns.map D.int)],.bl true,M,⟨rfl,fun k c e=>(by cases e),fun j k h=>absurd h (xcC _),fun k h=>absurd h (xcC _),fun a z=>z.elim⟩,⟨.ref a,[],rfl,⟨a,ns.map V.int,rfl,?_,O7 ns⟩,rfl⟩,e,fun P' v H' _ _ i=>i⟩;rcases hS with h |h
 ·exact .inl ⟨fun z=>z,h⟩
 ·exact .inr h
theorem zbV {l:PySem.W.OpenLaw}{k:Nat}{q:Program}{loose:List Str}{XP:(Mgx)->Heap->Prop}{YP:World->Heap->Prop}{d:DefRec}{K:Params->Fgx}{x:Str}{g:G}
  (hn:l.most=some 63) (hdf:d.params.defaults=[]) (hr:Room k callerA) (hY:∀(w:World) (h:Heap),YP w h->(K w.params).In h)
  (F:∀(w:World) (mg:Mgx) (fa:Addr) (h:Heap),(K w.params).In h->h.Ns mainGlobals mg->mg d.name=some (.ref fa)->
   ∃fd:FuncData,(∀(s:Shared) (u:Value),BindsTo s fd ⟨[u],[]⟩ [(x,u)])/\
    ∀base:Heap,(K w.params).In base->base.Ns mainGlobals mg->FnOk l.prog w (K w.params) mg base fY k fa fd [x] (Bt (K w.params) g))
  (hg:∀ns:List Int,ns.length<=63->∃M,g [.lst (ns.map D.int)] []=some (.v (.bl true),M)):PySem.W.WalkO q loose XP YP l.row.toRowW d [] (fun f vs=>PySem.call f vs):=
 L2.za1 (sp:=fun K=>Bt K g) hn (by decide) hdf hr hY F (fun K H a ns hl _ hS=>Xo (hg ns hl) hS) fun _ _ _ _ z=>z
section
variable {X:Cx}{Wx:XW}{m:Mode}{e:Expr}
theorem kW (h:PE X e (tC (.int i))):SE X Wx m e (ak (.int i)):=(Kr (d:=.int i) h fun _ _=>rfl).bor
theorem Kv (h:PE X e (tC (.str z))):SE X Wx m e (ak (.str z)):=(Kr (d:=.str z) h fun _ _=>rfl).bor
theorem Kq (h:PE X e (tC (.bl b))):SE X Wx m e (ak (.bl b)):=(Kr (d:=.bl b) h fun _ _=>rfl).bor
theorem Kz (hN:X.N[i]? =some x)(hv:X.env.scope.names.lookup x=some .local)(hd:(x==("__debug__":Str))=false:=by x_go)(hcd:(x==("__classdict__":Str))=false:=by x_go):SE X Wx m (.Name x pos) (aj i):=(R4 hN (.inl hv) hd hcd).bor
theorem zes (hN:X.N[i]? =some x)(hv:X.env.scope.names.lookup x=some .local)(hd:(x==("__debug__":Str))=false:=by x_go)(hcd:(x==("__classdict__":Str))=false:=by x_go):SE X Wx .bor (.Name x pos) (Bl i):=zbI hN (.inl hv) hd hcd
theorem SN.sem (h:SN X Wx e f)(hf:∀env M r M',f env M=some (.v r,M')->∃ds,r=.lst ds):SE X Wx m e f:=(SN.se h hf).bor
end
noncomputable def putD (f:Str) (d:D):List (Str×D)->List (Str×D)
 | []=>[(f,d)]
 |(g,x)::r=>if g=f then(g,d)::r else(g,x)::putD f d r
section
variable {K:Fgx}{mg:Mgx}{P:Pl}{H:Hp}{M:Mm}
def lW (K:Fgx)(P:Pl)(H:Hp)(fs:List (Str×D))(gs:List (Str×V)):Prop:=gs.map (·.1)=fs.map (·.1)/\aA K P H (fs.map (·.2)) (gs.map (·.2))
theorem Ow:∀{fs:List (Str×D)} {gs:List (Str×V)},lW K P H fs gs->fs.lookup f=some d->∃v,gs.lookup f=some v/\Is K P H d v
  | [],_,_,e=>by cases e
  |(g,x)::fs,[],h,_=>by cases h.1
  |(g,x)::fs,(g',y)::gs,h,e=>by
    obtain⟨h1,v,r,e1,p,q⟩:=h;simp only[xak,xcZ]at h1 e1;obtain⟨rfl,h1⟩:=h1;obtain⟨rfl,rfl⟩:=e1;simp only[List.lookup]at e ⊢
    cases hg:f==g' with
    |true=>rw[hg]at e;cases e;exact⟨y,rfl,p⟩
    |false=>rw[hg]at e;exact Ow ⟨h1,q⟩ e
theorem Ij:∀{fs:List (Str×D)} {gs:List (Str×V)},gs.map (·.1)=fs.map (·.1)->fs.lookup f=none->gs.lookup f=none
  | [],[],_,_=>rfl
  | [],_::_,h,_=>by cases h
  |_::_,[],h,_=>by cases h
  |(g,x)::fs,(g',y)::gs,h,e=>by
    simp only[xak,xcZ]at h;obtain⟨rfl,h⟩:=h;simp only[List.lookup]at e ⊢
    cases hg:f==g' with
    |true=>rw[hg]at e;cases e
    |false=>rw[hg]at e;exact Ij h e
theorem Ox (i:Is K P H d v):∀{fs:List (Str×D)} {gs:List (Str×V)},lW K P H fs gs->lW K P H (putD f d fs) (bF f v gs)
  | [],[],_=>⟨rfl,v,[],rfl,i,rfl⟩
  | [],_::_,h=>by cases h.1
  |_::_,[],h=>by cases h.1
  |(g,x)::fs,(g',y)::gs,h=>by
    obtain⟨h1,v',r,e1,p,q⟩:=h;simp only[xak,xcZ]at h1 e1;obtain⟨rfl,h1⟩:=h1;obtain⟨rfl,rfl⟩:=e1;unfold putD bF
    split
    · exact⟨by simp[h1],v,_,rfl,i,q⟩
    · obtain⟨a,b⟩:=Ox i (fs:=fs) (gs:=gs) ⟨h1,q⟩;exact⟨by simp[a],y,_,rfl,p,b⟩
theorem Wi (h:lW K P H fs gs):gs.length=fs.length:=by
 have:=congrArg List.length h.1
 simpa using this
end
structure ClsOk (K:Fgx)(mg:Mgx)(c:Str)(C:Addr):Prop where
 mg:mg c=some (.ref C)
 cl:Cls K C
section
variable {X:Cx}{Wx:XW}{m:Mode}{pos:Pos}
noncomputable def wI (M:Mm) (c:Str) (d:D):Option (Nat×List (Str×D)):=match d with
  | .ref k => (match M[k]? with
    |some (.obj c' fs)=>if c'=c then some (k,fs) else none
    |_=>none)
  |_=>none
theorem Ec (h:wI M c d=some (k,fs)):d=.ref k/\M[k]? =some (.obj c fs):=by
 unfold wI at h;split at h
 ·split at h
  ·split at h
   ·rename_i e1 e2;cases h;subst e2;exact⟨rfl,e1⟩
   ·cases h
  ·cases h
 ·cases h
noncomputable def bw (c f:Str) (o:E):E:=fun env M=>bnd (o env M) fun d M1=>match wI M1 c d with
 |some (_,fs)=>(fs.lookup f).map fun z=>(.v z,M1)
 |none=>none
theorem gj (hc:ClsOk X.K X.mg c C)(hn:gQ X.K C f)(he:SE X Wx .val e o)(hb:attributeBase e f X.env (eval e X.env)=eval e X.env:=by rfl):SE X Wx m (.Attribute e f pos) (bw c f o):=by
 refine bR (ZJ he hb) ?_;rintro st H Q ⟨P0,H0,P,Os,env,M,r,M',k,e,q⟩;unfold bw at e;rcases bN e with⟨d,M1,e1,e⟩ |⟨c,n,e1,rfl⟩
 ·split at e
  ·rename_i j fs eo;rw[xah]at e;obtain⟨z,ez,e⟩:=e;cases e;obtain⟨rfl,em⟩:=Ec eo;refine aQ k e1 fun P1 v1 H1 l1 h1 i1=>?_;obtain⟨jl,rfl⟩:j<P1.n/\v1=.ref (P1.io j):=i1;obtain⟨C',dx,gs,ec,eh,en,is⟩:=h1.cell j _ em;have eC:C'=C:=by
    have:=ec.symm.trans hc.mg;cases this;rfl
   subst eC;obtain⟨v,ev,iv⟩:=Ow ⟨en,is⟩ ez;exact⟨_,C',dx,gs,v,rfl,eh,hc.cl,hn,ev,q P1 v H1 l1 h1 (cB.of h1 iv)⟩
  ·cases e
 ·exact aQ k e1 q
noncomputable def lH (c f:Str) (o v:E):S:=fun env M=>bC (v env M) fun y M1=>bC (o env M1) fun d M2=>match wI M2 c d with
 |some (k,fs)=>if fs.length<1000 then some (.nx env,M2.set k (.obj c (putD f y fs))) else none
 |none=>none
theorem zbz {K:Fgx}{mg:Mgx}{P:Pl}{H:Hp}{M:Mm}{j:Nat}{c f:Str}{fs:List (Str×D)}{y:D}{v:V}{C dx:Addr}{gs:List (Str×V)}(h:Hk K mg P H M)(em:M[j]? =some (.obj c fs))(ec:mg c=some (.ref C))(eh:H (P.io j)=some (.ins C dx gs))(fo:lW K P H fs gs)(iv:Is K P H y v):
  Lt P H P (upd H (P.io j) (.ins C dx (bF f v gs)))/\LtE P H P (upd H (P.io j) (.ins C dx (bF f v gs)))/\Hk K mg P (upd H (P.io j) (.ins C dx (bF f v gs))) (M.set j (.obj c (putD f y fs))):=by
 have jl:j<P.n:=by rw[h.n];exact(xai.mp em).1
 have lc:Lt P H P (upd H (P.io j) (.ins C dx (bF f v gs))):=mR (h.bd j jl) eh Ye;have fp:=Ox (f:=f) iv fo;exact h.set (c':=.obj c (putD f y fs)) (o':=.ins C dx (bF f v gs)) em ⟨C,dx,bF f v gs,ec,bJ,fp.1,aA.lt lc fp.2⟩
theorem Bw {c f:Str}{C:Addr}{o e:Expr}{fo fv:E}{pos':Pos}(hc:ClsOk X.K X.mg c C)(hn:gQ X.K C f)(ho:SE X Wx .val o fo)(he:SE X Wx .val e fv)(hs:swapsWith e (some (.Attribute o f pos')) pos.line X.env=pure false:=by rfl):SS X Wx (.Assign [.Attribute o f pos'] e pos) (lH c f fo fv):=by
 refine fQ (zcQ ho he hs) ?_;rintro D st H ⟨P0,H0,P,Os,env,M,out,M',k,e,q⟩;unfold lH at e;rcases eE e with⟨y,M1,e1,e⟩ |⟨c,n,e1,rfl⟩
 ·refine aQ k e1 fun P1 v1 H1 l1 h1 i1=>?_;have k1:=k.next l1 h1
  rcases eE e with⟨d,M2,e2,e⟩ |⟨c,n,e2,rfl⟩
  ·split at e
   ·rename_i j fs eo;split at e
    ·rename_i hl;cases e;obtain⟨rfl,em⟩:=Ec eo;refine aQ k1 e2 fun P2 v2 H2 l2 h2 i2=>?_;obtain⟨jl,rfl⟩:j<P2.n/\v2=.ref (P2.io j):=i2;obtain⟨C',dx,gs,ec,eh,en,is⟩:=h2.cell j _ em;have eC:C'=C:=by
      have:=ec.symm.trans hc.mg;cases this;rfl
     subst eC;obtain⟨l3,l3e,h3⟩:=zbz (f:=f) h2 em ec eh ⟨en,is⟩ (Is.lt (l2.lt h1) i1);exact⟨_,C',dx,gs,rfl,eh,hc.cl,hn,by rw[Wi ⟨en,is⟩];exact hl,q _ _ _ _ ((l1.lt k.hk).trans ((l2.lt h1).trans l3)) ((k1.next l2 h2).next l3e h3)⟩
    ·cases e
   ·cases e
  ·exact aQ k1 e2 q
 ·exact aQ k e1 q
def cX (P:Program)(w:World)(K:Fgx)(mg:Mgx)(base:Heap)(k:Nat)(C:Addr)(m:Str)(n:Nat)(g:G):Prop:=
 ∃f fd ps,Meth K C m f/\FnOk P w K mg base fY k f fd ps (nW K mg n g)/\Binds K fd ps []
theorem cX.mono {P:Program}{w:World}{K:Fgx}{mg:Mgx}{base:Heap}{j k:Nat}{C:Addr}{m:Str}{n:Nat}{g:G}(a:cX P w K mg base j C m n g)(h:j<=k):cX P w K mg base k C m n g:=by
 obtain⟨f,fd,ps,h1,h2,h3⟩:=a;exact⟨f,fd,ps,h1,h2.mono h,h3⟩
noncomputable def bH (c m:Str) (g:G) (o:E) (fs:EA):E:=fun env M=>bnd (o env M) fun d M1=>match wI M1 c d with
  | some (_, gs) => if gs.lookup m = none then cA (fs env M1) fun ds M2 => (match g (d::ds) M2 with
    |some (.v z,M3)=>some (.v z,M3)
    |_=>none) else none
  |none=>none
theorem wW (hc:ClsOk X.K X.mg c C)(a:cX X.prog X.w X.K X.mg X.base k C me (n + 1) g)(hr:Room k X.A)(ho:SE X Wx .val o fo)(ha:SA X Wx .val (e::es) fs)(hn:tY n fs)
    (hst:starEach (e::es) X.env=(false,eval e X.env)::starEach es X.env:=by rfl) (hpl:(backTo pos (starEach es X.env)).any (·.1)=false:=by rfl)
    (ht : eval (.Call (.Attribute o me apos) (e :: es) [] pos) X.env = (do
      let ov <-eval o X.env
      standAt apos.atName
      let (f,first) <-holding [ov] (getMethod ov me pl)
      callWith pos f first (backTo pos (starEach (e::es) X.env)) (backToKw pos (keywordEach [] X.env))):=by rfl):
    SE X Wx m (.Call (.Attribute o me apos) (e::es) [] pos) (bH c me g fo fs):=by
  obtain⟨f,fd,ps,hm,F,hb⟩:=a;refine bR (ZX ho hc.cl hm F hr hb .nil Ax ha hst hpl ht) ?_;rintro st H Q ⟨P0,H0,P,Os,env,M,r,M',k,e,q⟩;unfold bH at e;rcases bN e with⟨d,M1,e1,e⟩ |⟨c,n,e1,rfl⟩
  · split at e
    · rename_i j gs eo;split at e
      · rename_i hl;obtain⟨rfl,em⟩:=Ec eo;refine aQ k e1 fun P1 v1 H1 l1 h1 i1=>?_;have k1:=k.next l1 h1
        obtain⟨jl,rfl⟩:j<P1.n/\v1=.ref (P1.io j):=i1;obtain⟨C',dx,vs,ec,eh,en,is⟩:=h1.cell j _ em;have eC:C'=C:=by
          have:=ec.symm.trans hc.mg;cases this;rfl
        subst eC;refine⟨_,dx,vs,rfl,eh,Ij en hl,?_⟩;rcases mq e with⟨ds,M2,e2,e⟩ |⟨c,n,e2,rfl⟩
        · split at e
          · rename_i z M3 eg;cases e;refine⟨P0,H0,P1,Os,env,M1,_,_,k1,e2,fun P2 us H2 l2 h2 i2=>?_⟩;dsimp only;rw[xaJ];exact⟨by rw[xav,i2.len,hn _ _ _ _ e2],P2,M2,.ref j::ds,z,_,h2,⟨_,_,rfl,⟨xap jl l2.n,by rw[l2.io j jl]⟩,i2.iss⟩,eg,fun P3 v H3 l3 h3 i3=>q P3 v H3 (l1.trans (l2.trans l3)) h3 (cB.of h3 i3)⟩
          · cases e
        · exact⟨P0,H0,P1,Os,env,M1,_,_,k1,e2,q⟩
      · cases e
    · cases e
  · exact aQ k e1 q
theorem yC (hc:ClsOk X.K X.mg c C)(a:cX X.prog X.w X.K X.mg X.base k C me 1 g)(hr:Room k X.A)(ho:SE X Wx .val o fo)
    (ht : eval (.Call (.Attribute o me apos) [] [] pos) X.env = (do
      let ov <-eval o X.env
      standAt apos.atName
      let (f,first) <-holding [ov] (getMethod ov me pl)
      callWith pos f first (backTo pos (starEach [] X.env)) (backToKw pos (keywordEach [] X.env))):=by rfl):
    SE X Wx m (.Call (.Attribute o me apos) [] [] pos) (bH c me g fo aq):=by
  obtain⟨f,fd,ps,hm,F,hb⟩:=a;refine bR (Z0 ho hc.cl hm F hr hb .nil Ax ht) ?_;rintro st H Q ⟨P0,H0,P,Os,env,M,r,M',k,e,q⟩;unfold bH at e;rcases bN e with⟨d,M1,e1,e⟩ |⟨c,n,e1,rfl⟩
  · split at e
    · rename_i j gs eo;split at e
      · rename_i hl;obtain⟨rfl,em⟩:=Ec eo;refine aQ k e1 fun P1 v1 H1 l1 h1 i1=>?_;obtain⟨jl,rfl⟩:j<P1.n/\v1=.ref (P1.io j):=i1;obtain⟨C',dx,vs,ec,eh,en,is⟩:=h1.cell j _ em;have eC:C'=C:=by
          have:=ec.symm.trans hc.mg;cases this;rfl
        subst eC;refine⟨_,dx,vs,rfl,eh,Ij en hl,?_⟩;simp only[cA,aq]at e;split at e
        · rename_i z M3 eg;cases e;exact⟨rfl,P1,M1,[.ref j],z,_,h1,⟨_,_,rfl,⟨jl,rfl⟩,rfl⟩,eg,fun P3 v H3 l3 h3 i3=>q P3 v H3 (l1.trans l3) h3 (cB.of h3 i3)⟩
        · cases e
      · cases e
    · cases e
  · exact aQ k e1 q
end
section
variable {X:Cx}{Wx:XW}{m:Mode}{pos:Pos}
theorem U9 {K:Fgx}{mg:Mgx}{P:Pl}{H H':Hp}{M:Mm}{a:Addr}{c:Cl}(h:Hk K mg P H M)(s:Same H H')(ha:H a=none)(ea:H' a≠none)(hc:∀P',P'.n=P.n + 1->P'.io P.n=a->LtE P H P' H'->m8 K mg P' H' a c):∃P',P'.n=P.n + 1/\P'.io P.n=a/\LtE P H P' H'/\Hk K mg P' H' (M ++ [c]):=by
 let P2:Pl:={io:=fun j=>if j=P.n then a else P.io j,n:=P.n + 1,bd:=fun b=>P.bd b\/b=a}
 have io : ∀ j, j < P.n -> P2.io j = P.io j := fun j hj => xad (by lia);have ioN : P2.io P.n = a := xac rfl;have nc : ∀ j, j < P.n -> P.io j ≠ a := fun j hj z => h.here _ (h.bd j hj) (z ▸ ha);have l : LtE P H P2 H' := ⟨xcp _,io,fun b z=>xdT (fun q=>q) (fun(q:b=a)=>by rw[q];exact ha) z,fun _ z=>.inl z,fun b o e _=>s b o e,fun b z=>s.free z,fun j h2 h3=>by
  have:j=P.n:=xaV (xaS h3) h2;rw[this,ioN];exact ha⟩
 refine⟨P2,rfl,ioN,l,⟨by rw[xam, <-h.n];rfl,fun j d ej=>?_,fun i j hi hj e=>?_,fun j hj=>?_,fun b z=>?_⟩⟩
 ·rcases xaT j P.n with z |z
  ·rw[xaG (by rw[<-h.n];exact z)]at ej;rw[io j z];exact(h.cell j d ej).lt (l.lt h) fun o eo=>s _ _ eo
  ·have jl:=(xai.mp ej).1;rw[xam,xaF, <-h.n]at jl;have:j=P.n:=by lia
   subst this;rw[xat (by rw[h.n];exact xaf _),h.n,xbS]at ej;cases ej;rw[ioN];exact hc P2 rfl ioN l
 ·rcases xaT i P.n with z |z
  ·rcases xaT j P.n with y |y
   ·rw[io i z,io j y]at e;exact h.inj i j z y e
   ·have:j=P.n:=xaV (xaS hj) y;rw[io i z,this,ioN]at e;exact absurd e (nc i z)
  ·have iN:i=P.n:=xaV (xaS hi) z;rcases xaT j P.n with y |y
   ·rw[iN,ioN,io j y]at e;exact absurd e.symm (nc j y)
   ·rw[iN];exact xaV y (xaS hj)
 ·rcases xaT j P.n with z |z
  ·rw[io j z];exact .inl (h.bd j z)
  ·have:j=P.n:=xaV (xaS hj) z;rw[this,ioN];exact .inr rfl
 ·rcases z with z |z
  ·exact fun q=>h.here b z (s.free q)
  ·rw[z];exact ea
def m7 (P:Program)(w:World)(K:Fgx)(mg:Mgx)(base:Heap)(k:Nat)(C:Addr)(n:Nat)(g:G):Prop:=
 ∃f fd ps,Mk K C f/\FnOk P w K mg base fY k f fd ps (nW K mg n g)/\Binds K fd ps []
noncomputable def wR (c:Str) (g:G) (fs:EA):E:=fun env M=>cA (fs env M) fun ds M1=>match g (.ref M1.length::ds) (M1 ++ [.obj c []]) with
 |some (.v .non,M2)=>some (.v (.ref M1.length),M2)
 |_=>none
theorem zbE {c:Str}{C:Addr}{k n:Nat}{g:G}{e:Expr}{es:List Expr}{fs:EA}{p:Pos}(hc:ClsOk X.K X.mg c C)(a:m7 X.prog X.w X.K X.mg X.base k C (n + 1) g)(hr:Room (k + 1) X.A)(hg:Gl X c)(ha:SA X Wx .val (e::es) fs)(hn:tY n fs)(hdb:(c==("__debug__":Str))=false:=by x_go)
  (he:starEach (e::es) X.env=(false,eval e X.env)::starEach es X.env:=by rfl) (hpl:(backTo pos (starEach es X.env)).any (·.1)=false:=by rfl):SE X Wx m (.Call (.Name c p) (e::es) [] pos) (wR c g fs):=by
 obtain⟨f,fd,ps,mk,F,hb⟩:=a;refine bR (ZW mk F hr hg hc.mg hb .nil Ax ha hdb he hpl) ?_;rintro st H Q ⟨P0,H0,P,Os,env,M,r,M',k,e,q⟩;unfold wR at e;rcases mq e with⟨ds,M1,e1,e⟩ |⟨c,n,e1,rfl⟩
 ·split at e
  ·rename_i M2 eg;cases e;refine⟨P0,H0,P,Os,env,M,_,_,k,e1,fun P1 vs H1 l1 h1 i1=>fun x dx hx hdx ne=>?_⟩;have s2:Same H1 (upd (upd H1 dx (.own x)) x (.ins C dx [])):=fun b o eb=>by
    rw[aW (j5 eb hx),aW (j5 eb hdx)];exact eb
   obtain⟨P2,n2,io2,l2,h2⟩:=U9 (c:=.obj c []) h1 s2 hx (by rw[bJ];exact fun z=>nomatch z) fun P' _ _ _=>⟨C,dx,[],hc.mg,bJ,rfl,rfl⟩
   have el:P1.n=M1.length:=h1.n;have iref:Is X.K P2 (upd (upd H1 dx (.own x)) x (.ins C dx [])) (.ref M1.length) (.ref x):=⟨by rw[n2,el];exact xbg _,by rw[<-el,io2]⟩;refine⟨by rw[xaJ,xav,i1.len,hn _ _ _ _ e1],P2,M1 ++ [.obj c []],.ref M1.length::ds,.non,_,h2,⟨_,_,rfl,iref,by rw[xaJ];exact aA.lt (l2.lt h1) i1.iss⟩,eg,fun P3 v H3 l3 h3 i3=>⟨i3,?_⟩⟩;refine q P3 _ H3 (l1.trans (l2.trans l3)) h3 (cB.of h3 (Is.lt (l3.lt h2) iref))
  ·cases e
 ·exact⟨P0,H0,P,Os,env,M,_,_,k,e1,q⟩
end
end E3
namespace E3
open PySem PySem.Spec PyProof.Rows L2 PySem.W
def gM (a:Addr)(h h':Heap):Prop:=∀b o,b≠a->h.get? b=some o->h'.get? b=some o
def Grows (h h':Heap):Prop:=∀b o,h.get? b=some o->h'.get? b=some o
noncomputable def gG (h:Heap) (a:Addr) (vs:List Value):Heap:=((h.update a (Obj.mapSeq fun _=> #[])).push (seqObj "tuple" vs.toArray 0)).push (seqObj "list" #[] 0)
theorem gM.upd (h:Heap)(a:Addr)(f:Obj->Obj):gM a h (h.update a f):=fun b o nb e=>by rw[(xbn h a f).2 b nb];exact e
theorem gM.push (s:gM a h h')(o:Obj):gM a h (h'.push o):=fun b u nb e=>xag _ (s b u nb e)
theorem Qf (h:Heap)(a:Addr)(vs:List Value):gM a h (gG h a vs):=((gM.upd h a _).push _).push _
theorem Vk (h:Heap)(vs:List Value):((h.push (seqObj "list" #[] 0)).update h.objs.size (Obj.mapSeq (· ++ vs.toArray))).objs.size=h.objs.size + 1:=(Heap.size_update ..).trans (size_push' h _)
noncomputable def bK:List D->List D->Option Bool
 | [],[]=>some false
 |.int i::ps,.int j::qs=>if i=j then bK ps qs else some (decide (i<j))
 |.str a::ps,.str b::qs=>if a=b then bK ps qs else some (decide (a.cps.toList<b.cps.toList))
 |_,_=>none
section
variable {prog:Program}{w:World}{A:Around}{s:Shared}{K:Fgx}{P:Pl}{H:Hp}
theorem PB (hq:Q b s):∀(xs ys:List D) (vs ws:List V) (us zs:List Value) (n:Nat),aA K P H xs vs->aA K P H ys ws->Vals vs us->Vals ws zs->bK xs ys=some b->(us.length=zs.length->fin=false)->KatLex prog w A true fin Q (us.zip zs) n s
  | [],ys,vs,ws,us,zs,n,i1,i2,r1,r2,e,hf=>by
    cases ys with
    |cons y ys=>cases e
    |nil=>
      rw[show vs=[] from i1]at r1;rw[show ws=[] from i2]at r2;cases r1;cases r2;cases e;rw[hf rfl];exact hq
  |x::xs,[],vs,ws,us,zs,n,i1,i2,r1,r2,e,hf=>by cases x<;>cases e
  |x::xs,y::ys,vs,ws,us,zs,n,i1,i2,r1,r2,e,hf=>by
    obtain⟨v,vr,rfl,p,i1⟩:=i1;obtain⟨u,wr,rfl,p',i2⟩:=i2
    cases r1 with
    |cons a1 r1=>
      cases r2 with
      |cons a2 r2=>
        have rest:bK xs ys=some b->∀n,KatLex prog w A true fin Q (List.zip _ _) n s:=fun e n=>PB hq xs ys _ _ _ _ n i1 i2 r1 r2 e fun z=>hf (by simp[z]);rw[xdU];cases x<;>cases y<;>simp only[bK,reduceCtorEq]at e
        · rename_i i j;cases p;cases p';obtain⟨t1,rfl⟩:=a1;obtain⟨t2,rfl⟩:=a2;refine kat_cons (xdR _ _ _ _ prog w _ _ ?_);split at e
          · rename_i hij;subst hij;rw[show(i==i)=true from xbJ i];exact kat_yes (rest e _)
          · rename_i hij;cases e;rw[show(i==j)=false from xbh.mpr hij];refine kat_no ?_
            cases n with
            |zero=>exact oneLt_int hq
            |succ n=>exact kat_one _ _ (lt_int (show PySem.W.BoolBack Q (.bool _) s from hq))
        · rename_i a c;cases p;cases p';obtain⟨t1,rfl⟩:=a1;obtain⟨t2,rfl⟩:=a2;refine kat_cons (xdS _ _ _ _ prog w _ _ ?_);split at e
          · rename_i hij;subst hij;rw[show(a==a)=true from xbJ a];exact kat_yes (rest e _)
          · rename_i hij;cases e;rw[show(a==c)=false from xbh.mpr hij];refine kat_no ?_
            cases n with
            |zero=>exact oneLt_str hq
            |succ n=>exact kat_one _ _ (lt_str (show PySem.W.BoolBack Q (.bool _) s from hq))
end
noncomputable def tupI:D->Bool
 |.tup (.int _::_)=>true
 |_=>false
section
variable {X:Cx}{pins:Pnx}{σ:L2.St}{H:Hp}{s:Shared}
theorem Gg (I:Inv X pins σ H s)(g:Grows s.heap h')(i:Is X.K P H (.tup xs) v)(r:RelV v u):∃a o its n ws,u=.ref a/\h'.get? a=some o/\o.cls=.type "tuple"/\o.data=.seq its n/\aA X.K P H xs ws/\Vals ws its.toList:=by
 obtain⟨a,ws,rfl,t,is⟩:=i;cases r;obtain⟨its,rv,⟨o,e1,e2,n,e3⟩,_⟩:=I.tuple t;exact⟨a,o,its.toArray,n,ws,rfl,g _ _ e1,e2,e3,is,by simpa using rv⟩
theorem TV (I:Inv X pins σ H s)(g:Grows s.heap h'):∀(ds:List D) (vs:List V) (us:List Value),ds.all tupI=true->aA X.K P H ds vs->Vals vs us->∃fs,KatTups h' us fs/\fs.length=us.length/\∀f∈fs,∃i t,f=Value.int i t
  | [],vs,us,_,i,r=>by
    rw[show vs=[] from i]at r;cases r;exact⟨[],KatTups.nil,rfl,fun f h=>nomatch h⟩
  |d::ds,vs,us,hd,i,r=>by
    obtain⟨v,vr,rfl,p,i⟩:=i;rw[xci,xaC]at hd
    cases r with
    |cons a1 r=>
      obtain⟨fs,k,kl,kf⟩:=TV I g ds _ _ hd.2 i r
      cases d with
      |tup xs=>
        cases xs with
        |nil=>cases (show false=true from hd.1)
        |cons x xs=>
          cases x with
          |int z=>
            obtain⟨a,o,its,n,ws,rfl,e1,e2,e3,is,rv⟩:=Gg I g p a1;obtain⟨w,wr,rfl,pw,is⟩:=is;cases pw;obtain⟨its⟩:=its
            cases rv with
            |cons b1 rv=>
              obtain⟨t,rfl⟩:=b1;refine⟨.int z t::fs,KatTups.cons e1 e2 e3 rfl k,by simp[kl],fun f hf=>?_⟩;rcases xaq.mp hf with rfl |hf
              · exact⟨z,t,rfl⟩
              · exact kf f hf
          |_=>cases (show false=true from hd.1)
      |_=>cases (show false=true from hd.1)
theorem zaZ (r:Vals vs us)(i:Nat):RelV (vs.getD i .non) (us.getD i Value.none):=by
  induction r generalizing i with
  |nil=>exact rfl
  |cons a r ih=>cases i with
    |zero=>simpa using a
    |succ i=>simpa using ih i
end
section
variable {prog:Program}{w:World}{A:Around}{E:Value->Shared->Prop}{s:Shared}
theorem zbd {a:Addr}{n:Nat}{vs:List Value}{P:PySem.Fin->Shared->Prop}(ho:s.heap.get? a=some (seqObj "list" vs.toArray n))(h2:vs.length<2)
  (q:∀(h':Heap) c,gM a s.heap h'->h'.get? a=some (seqObj "list" vs.toArray c)->P (.done (.ret .none)) {s with heap:=h'}):
  wpAny (model prog w) A (Builtin.«list.sort» ⟨[.ref a],[]⟩) P E s:=by
 have hz:vs.length<=sizeLine:=by rw[xaO];lia
 have st:=Qf s.heap a vs;obtain⟨e1,z1⟩:∃e1,(s.heap.update a (Obj.mapSeq fun _=>(#[]:Array Value))).get? a=some (seqObj "list" #[] e1):=⟨_,xdE ho fun _=> #[]⟩;have z2:(gG s.heap a vs).get? a=some (seqObj "list" #[] e1):=xag _ (xag _ z1);rw[list_sort_plain];refine xaa (listItems_at ho rfl (xaa (xdX ho rfl (xaa (seqEpoch_at z1 rfl (xaa (xeE (xaa (xdY (xbs ?_) (xa0 _))) hz)))) (by simpa using hz) (xa0 _))));show wpAny (model prog w) A _ P E {s with heap:=gG s.heap a vs};dsimp only;have two:vs.toArray.size<2:=by simpa using h2
 rw[xac two,xac two];generalize gG s.heap a vs=h1 at st z2 ⊢;refine xaa (xab (xaa (m:=(pure ():StateT SortSt Sem Unit).run _) (xab ?_)));dsimp only;have out:(arrOf (SortSt.mk' general' (vs.toArray.zip vs.toArray) #[] 7 none)).map (·.2)=vs.toArray:=by
  show(vs.toArray.zip vs.toArray).map (·.2)=vs.toArray;apply xej.mp;simp only[Array.toList_map,Array.toList_zip];exact List.map_snd_zip (xaf _)
 rw[out];obtain⟨c2,z3⟩:∃c2,(h1.update a (Obj.mapSeq fun _=>vs.toArray)).get? a=some (seqObj "list" vs.toArray c2):=⟨_,xdE z2 fun _=>vs.toArray⟩;refine xaa (seqEpoch_at z2 rfl (xaa (xdX z2 rfl ?_ (xa0 _) (by rw[xan];exact xdj hz))));simp only[xe5,xa3,xbt];exact xab (q _ c2 (fun b o nb e=>gM.upd h1 a _ b o nb (st b o nb e)) z3)
def Coll (prog:Program)(w:World)(A:Around)(s:Shared)(r:Value)(vs:List Value):Prop:=∀(E':Value->Shared->Prop) (R:List Value->Shared->Prop),(∀h' tk,Grows s.heap h'->s.heap.objs.size<=h'.objs.size->R vs {s with heap:=h',toks:=tk})->wpAny (model prog w) A.in1 (collect r) R E' s
theorem Ng {l:Addr}{vs:List Value}(hl:s.heap.IsList l vs.toArray)(hz:vs.length<=sizeLine):Coll prog w A s (.ref l) vs:=fun E' R h=>
 collect_list hl (h _ s.toks (fun b o e=>by rw[Heap.get?_update_ne _ _ _ _ (xaI (xao e))];exact xag _ e) (by rw[Vk];exact xcp _)) hz
theorem Sq {r:Value}{vs:List Value}{Q:Value->Shared->Prop}(hl:Coll prog w A s r vs)(h2:vs.length<2)
  (q:∀(h':Heap) tk c a,Grows s.heap h'->s.heap.objs.size<=a->h'.get? a=some (seqObj "list" vs.toArray c)->Q (.ref a) {s with heap:=h',toks:=tk}):
  wpAny (model prog w) A (call (.builtin "sorted") [r]) Q E s:=by
 have hz:vs.length<=sizeLine:=by rw[xaO];lia
 refine xd9 kind_sorted plain_sorted entry_sorted (args_sorted1 _) ?_;unfold Builtin.«sorted»;refine xaa (m:=checkCount "sorted" 1 1 _) (xab (xaa (hl _ _ fun h1 tk g z=>xaa (xdY ?_ hz))));have at0:(h1.push (seqObj "list" vs.toArray 0)).get? h1.objs.size=some (seqObj "list" vs.toArray 0):=xau _ rfl;refine xaa (xbs (xbl slot_list_sort ⟨_,at0,rfl⟩ entry_list_sort (zbd (s:={s with heap:=h1.push (seqObj "list" vs.toArray 0),toks:=tk}) at0 h2 fun h' c st e=>?_) (args_list_sort _)));exact⟨_,rfl,xab ⟨_,rfl,q h' tk c _ (fun b o e=>st b o (xaI (xao (g b o e))) (xag _ (g b o e))) z e⟩⟩
end
section
variable {X:Cx}{Wx:XW}
def JZ (K:Fgx):List V->Hp->VK->Prop:=fun xs H Q=>∃(a:Addr) (vs:List V),xs=[.ref a]/\bI K H a vs/\vs.length<2/\∀l,H l=none->Q (.ref l) (upd H l (.lst vs))
theorem Uz:c7 X (.builtin "sorted") (JZ X.K):=by
 intro pins s σ H xs us Q I r h;obtain⟨a,vs,rfl,hl,h2,q⟩:=h;obtain⟨u,rfl,rx⟩:=vals1 r;cases rx;obtain⟨its,rv,pl,hz⟩:=I.list hl;refine Sq (Ng pl.isList (by rw[<-rv.length];exact hz)) (by rw[<-rv.length];exact h2) fun h' tk c D g hD eD=>?_;exact⟨.ref D,_,I.laid (t':=tk) (o:=.lst vs) g hD ⟨hz,its,c,rv,eD⟩,rfl,q D (I.hok.fresh hD)⟩
theorem boot_sorted:bootBuiltins "sorted"=some (.builtin "sorted"):=by kernel_rfl
end
def Low (n:Nat)(p:Array Nat):Prop:=p.size=n/\∀x∈p.toList,x<n
section
variable {n:Nat}{lt:Nat->Nat->Option Bool}(hn:0<n)(tot:∀i j,i<n->j<n->∃b,lt i j=some b)
include hn tot
end
end E3
namespace E3
open PySem L2
section
variable {env:Env}{M M1:Mm}{f g h c:E}{d e:D}{i j:Int}{n k:Nat}{z:Str}{b:Bool}{ds es:List D}{s t:S}{x:Str}
def rG (g:S):OS->OS
 |some (.nx e,M1)=>g e M1
 |o=>o
theorem zdJ:ao s t env M=rG t (s env M):=rfl
theorem Bd {e:Env}:rG t (some (.nx e,M))=t e M:=rfl
theorem Kd:rG t (some (.rt d,M))=some (.rt d,M):=rfl
theorem zdP:aC env M=some (.nx env,M):=rfl
noncomputable def Ci (M:Mm):Option Slot->O
 |some (.val d)=>some (.v d,M)
 |_=>none
noncomputable def Cg (M:Mm):Option Slot->O
 |some (.val d)=>some (.v d,M)
 |some (.own ds)=>some (.v (.lst ds),M)
 |_=>none
theorem wJ:aj k env M=Ci M env[k]? :=rfl
theorem JW:Bl k env M=Cg M env[k]? :=rfl
theorem wO:Ci M (some (.val d))=some (.v d,M):=rfl
theorem Ke:Cg M (some (.own ds))=some (.v (.lst ds),M):=rfl
theorem zep:ak d env M=some (.v d,M):=rfl
def mapR (M:Mm)(o:Option D):O:=o.map fun z=>(.v z,M)
theorem zey:mapR M (some d)=some (.v d,M):=rfl
def pY (o:D->Option D)(r:O):O:=bnd r fun d M=>mapR M (o (vw M d))
theorem q_1 {o:D->Option D}:s1 o f env M=pY o (f env M):=rfl
theorem r_1 {o:D->Option D}:pY o (some (.v d,M))=mapR M (o (vw M d)):=rfl
noncomputable def xu (o:D->D->Option D) (d:D) (r:O):O:=bnd r fun e M=>mapR M (o (vw M d) (vw M e))
noncomputable def BZ (o:D->D->Option D) (k:Mm->O) (r:O):O:=bnd r fun d M=>xu o d (k M)
theorem q_2 {o:D->D->Option D}:s2 o f g env M=BZ o (g env) (f env M):=rfl
theorem r_2 {o:D->D->Option D}{q:Mm->O}:BZ o q (some (.v d,M))=xu o d (q M):=rfl
theorem J_ {o:D->D->Option D}:xu o d (some (.v e,M))=mapR M (o (vw M d) (vw M e)):=rfl
theorem zez:vw M (.int i)=.int i:=rfl
theorem zd5:vw M (.str z)=.str z:=rfl
theorem LR:vw M (.bl b)=.bl b:=rfl
theorem zei:vw M (.tup ds)=.tup ds:=rfl
theorem zea:vw M (.lst ds)=.lst ds:=rfl
theorem yI (h:M[k]? =some (.lst ds)):vw M (.ref k)=.lst ds:=by unfold vw;simp only[h]
theorem zdV:dN f env M=pY (fun d=>(gK d).map .bl) (f env M):=rfl
theorem zc1:Ew f env M=pY (fun d=>(gK d).map fun b=>.bl (!b)) (f env M):=rfl
noncomputable def Ai (r:O):O:=bnd r fun d M=>match d with
 |.bl b=>some (.v (.bl (!b)),M)
 |_=>none
theorem zd9:dM f env M=Ai (f env M):=rfl
theorem zdN:Ai (some (.v (.bl b),M))=some (.v (.bl (!b)),M):=rfl
noncomputable def pQ (k1 k2:Mm->O) (r:O):O:=bnd r fun d M=>match d with
 |.bl b=>if b=true then k1 M else k2 M
 |_=>none
theorem zed:dJ f g env M=pQ (g env) (fun M=>some (.v (.bl false),M)) (f env M):=rfl
theorem JT:rz f g env M=pQ (fun M=>some (.v (.bl true),M)) (g env) (f env M):=rfl
theorem zdZ:mX c f g env M=pQ (f env) (g env) (c env M):=rfl
theorem zdX {k1 k2:Mm->O}:pQ k1 k2 (some (.v (.bl b),M))=if b=true then k1 M else k2 M:=rfl
noncomputable def vh (d:D):Option (ResA×Mm)->Option (ResA×Mm)
 |some (.v ds,M2)=>some (.v (d::ds),M2)
 |some (.x c n,M2)=>some (.x c n,M2)
 |none=>none
noncomputable def Nr (k:Mm->Option (ResA×Mm)):O->Option (ResA×Mm)
 |some (.v d,M1)=>vh d (k M1)
 |some (.x c n,M1)=>some (.x c n,M1)
 |none=>none
theorem zeo:aq env M=some (.v [],M):=rfl
theorem zc5 {fs:EA}:au f fs env M=Nr (fs env) (f env M):=rfl
theorem zdA {q:Mm->Option (ResA×Mm)}:Nr q (some (.v d,M))=vh d (q M):=rfl
theorem zdE:vh d (some (.v ds,M))=some (.v (d::ds),M):=rfl
noncomputable def pC (o:List D->Option D) (r:Option (ResA×Mm)):O:=cA r fun ds M=>mapR M (o (ds.map (vw M)))
theorem q_n {o:List D->Option D}{fs:EA}:sN o fs env M=pC o (fs env M):=rfl
theorem r_n {o:List D->Option D}:pC o (some (.v ds,M))=mapR M (o (ds.map (vw M))):=rfl
noncomputable def pB (k:List D->Mm->O):Option (ResA×Mm)->O
 |some (.v ds,M)=>k ds M
 |some (.x c n,M)=>some (.x c n,M)
 |none=>none
theorem zcT {q:List D->Mm->O}:pB q (some (.v ds,M))=q ds M:=rfl
theorem zej {fs:EA}:aX fs env M=pB (fun ds M1=>if ds.length<=sizeLine then some (.v (.tup ds),M1) else none) (fs env M):=rfl
theorem zd8 {fs:EA}:bG fs env M=pB (fun ds M1=>if ds.length<=sizeLine then some (.v (.lst ds),M1) else none) (fs env M):=rfl
def MN:O->O
 |some (.v d,M)=>some (.v d,M)
 |_=>none
theorem zbB:MN (some (.v d,M))=some (.v d,M):=rfl
theorem zdh {u:G}{fs:EA}:cj u fs env M=pB (fun ds M1=>MN (u ds M1)) (fs env M):=rfl
noncomputable def gB (k:D->Mm->O):O->O
 |some (.v d,M)=>k d M
 |some (.x c n,M)=>some (.x c n,M)
 |none=>none
theorem zc4 {q:D->Mm->O}:gB q (some (.v d,M))=q d M:=rfl
noncomputable def M7 (M:Mm):D->O
 |.lst ds=>some (.v (.ref M.length),M ++ [.lst ds])
 |_=>none
theorem zb7:M7 M (.lst ds)=some (.v (.ref M.length),M ++ [.lst ds]):=rfl
theorem zc9:mW f env M=gB (fun d M1=>M7 M1 d) (f env M):=rfl
noncomputable def PK (M:Mm):D->O
 |.lst ds=>some (.v (.lst ds),M)
 |.tup ds=>some (.v (.lst ds),M)
 |_=>none
theorem zco:PK M (.lst ds)=some (.v (.lst ds),M):=rfl
theorem zcU:Et f env M=gB (fun d M1=>PK M1 (vw M1 d)) (f env M):=rfl
noncomputable def KH (d:D) (lo:Option Int):Option (Option Int×Mm)->O
 |some (hi,M3)=>mapR M3 (yD (vw M3 d) lo hi)
 |none=>none
noncomputable def R7 (d:D) (k:Mm->Option (Option Int×Mm)):Option (Option Int×Mm)->O
 |some (lo,M2)=>KH d lo (k M2)
 |none=>none
theorem JV {l u:Env->Mm->Option (Option Int×Mm)}:yx f l u env M=gB (fun d M1=>R7 d (u env) (l env M1)) (f env M):=rfl
theorem zdQ {lo:Option Int}{q:Mm->Option (Option Int×Mm)}:R7 d q (some (lo,M))=KH d lo (q M):=rfl
theorem zd3 {lo hi:Option Int}:KH d lo (some (hi,M))=mapR M (yD (vw M d) lo hi):=rfl
theorem zdF:sE env M=some (none,M):=rfl
noncomputable def Ay:O->Option (Option Int×Mm)
 |some (.v (.int i),M)=>some (some i,M)
 |_=>none
theorem zer:mU f env M=Ay (f env M):=rfl
theorem zdG:Ay (some (.v (.int i),M))=some (some i,M):=rfl
noncomputable def fL (k:D->Mm->OS):O->OS
 |some (.v d,M)=>k d M
 |some (.x c n,M)=>some (.ex c n,M)
 |none=>none
theorem zc7 {q:D->Mm->OS}:fL q (some (.v d,M))=q d M:=rfl
theorem zew:aO k f env M=fL (fun d M1=>if k<env.length then some (.nx (env.set k (.val d)),M1) else none) (f env M):=rfl
noncomputable def Qg (k:Nat) (env:Env) (M:Mm):D->OS
 |.lst ds=>if k<env.length then some (.nx (env.set k (.own ds)),M) else none
 |_=>none
theorem zc0:Qg k env M (.lst ds)=if k<env.length then some (.nx (env.set k (.own ds)),M) else none:=rfl
theorem zdu:nQ k f env M=fL (fun d M1=>Qg k env M1 d) (f env M):=rfl
theorem zdW:aK f env M=fL (fun d M1=>some (.rt d,M1)) (f env M):=rfl
theorem zcF:Bj f env M=fL (fun _ M1=>some (.nx env,M1)) (f env M):=rfl
noncomputable def O2 (s t:Mm->OS) (M:Mm):D->OS
 |.bl b=>if b=true then s M else t M
 |_=>none
theorem Ka {q r:Mm->OS}:O2 q r M (.bl b)=if b=true then q M else r M:=rfl
theorem JQ:cM c s t env M=fL (fun d M1=>O2 (s env) (t env) M1 d) (c env M):=rfl
noncomputable def zF (k:Nat) (env:Env) (M:Mm):Option Slot->OS
 |some (.own ds)=>some (.nx (env.set k (.val (.lst ds))),M)
 |_=>none
theorem zeC:kE k env M=zF k env M env[k]? :=rfl
theorem zec:zF k env M (some (.own ds))=some (.nx (env.set k (.val (.lst ds))),M):=rfl
noncomputable def yU (k:Nat) (env:Env) (o:O):Option Slot->OS
 |some (.own ds)=>fL (fun d M1=>if ds.length<sizeLine then some (.nx (env.set k (.own (ds ++ [d]))),M1) else none) o
 |_=>none
theorem zdT:kj k f env M=yU k env (f env M) env[k]? :=rfl
theorem zeh {o:O}:yU k env o (some (.own ds))=fL (fun d M1=>if ds.length<sizeLine then some (.nx (env.set k (.own (ds ++ [d]))),M1) else none) o:=rfl
theorem yR {ds0:List D}{M2:Mm}(h1:f env M=some (.v (.ref k),M1))(h2:M1[k]? =some (.lst ds0))(h3:g env M1=some (.v d,M2))(h4:M2[k]? =some (.lst ds))(hl:ds.length<sizeLine):fV f g env M=some (.nx env,M2.set k (.lst (ds ++ [d]))):=by
 simp only[fV,bC,h1,h2,h3,h4,hl,xbG]
noncomputable def forR (k:Nat) (t:S) (env:Env):Option (ResA×Mm)->OS
 |some (.v ds,M1)=>loopS k t ds env M1
 |some (.x c n,M1)=>some (.ex c n,M1)
 |none=>none
theorem zeb {fs:EA}:fW k fs t env M=forR k t env (fs env M):=rfl
theorem zd1:forR k t env (some (.v ds,M))=loopS k t ds env M:=rfl
noncomputable def Aa:O->Option (ResA×Mm)
 |some (.v (.lst ds),M1)=>some (.v ds,M1)
 |some (.x c n,M1)=>some (.x c n,M1)
 |_=>none
theorem zcE:cL f env M=Aa (f env M):=rfl
theorem zdo:Aa (some (.v (.lst ds),M))=some (.v ds,M):=rfl
noncomputable def Q8:Option (ResA×Mm)->Option (ResA×Mm)
 |some (.v [.int j],M1)=>if -1000000000<=j/\j<=1000000000 then some (.v ((List.range j.toNat).map fun(k:Nat)=>.int (0 + k)),M1) else none
 |some (.x c n,M1)=>some (.x c n,M1)
 |_=>none
theorem zdB {fs:EA}:yc fs env M=Q8 (fs env M):=rfl
theorem zcH (h: -1000000000<=i/\i<=1000000000):Q8 (some (.v [.int i],M))=some (.v ((List.range i.toNat).map fun(k:Nat)=>.int (0 + k)),M):=xac h
theorem JN {m:Nat}{t:S}:cg m t ds M=cV (t (ds.map .val ++ List.replicate (m - ds.length) .un) M):=rfl
theorem zdD:cV (some (.rt d,M))=some (.v d,M):=rfl
theorem zdc {e:Env}:cV (some (.nx e,M))=some (.v .non,M):=rfl
theorem Yp:aZ (.int i) (.int j)=some (.int (i + j)):=rfl
theorem Yq:aZ (.lst ds) (.lst es)=if ds.length + es.length<=sizeLine then some (.lst (ds ++ es)) else none:=rfl
theorem YQ:dz (.int i) (.int j)=some (.int (i - j)):=rfl
theorem YG:fP (.int i) (.int j)=if i.natAbs<18446744073709551616\/j.natAbs<18446744073709551616\/(i.natAbs.log2<10000/\j.natAbs.log2<10000) then some (.int (i * j)) else none:=rfl
theorem Yv:fB (.int i) (.int j)=if 0<j/\j.natAbs<1073741824 then some (.int (i / j)) else none:=rfl
theorem YF:oMod (.int i) (.int j)=if 0<j then some (.int (i % j)) else none:=rfl
theorem YK:bW (.int i) (.int j)=if 0<=j/\j.natAbs<=1000000/\i.natAbs<18446744073709551616 then some (.int (i ^ j.toNat)) else none:=rfl
theorem YJ:j_ (.int i)=some (.int (-i)):=rfl
theorem Jt:aG .lt (.int i) (.int j)=some (.bl (decide (i<j))):=rfl
theorem Js:aG .le (.int i) (.int j)=some (.bl (decide (i<=j))):=rfl
theorem Jr:aG .gt (.int i) (.int j)=some (.bl (decide (j<i))):=rfl
theorem Ys:aG .eq (.int i) (.int j)=some (.bl (decide (i=j))):=by
 show(rP _ _).map D.bl=_
 simp[rP,eU,D.flat,D.dep,D.eq]
 rw[xbP];simp
theorem YH:aG .ne (.int i) (.int j)=some (.bl (!decide (i=j))):=by
 show(vd _ _).map D.bl=_
 simp[vd,eU,D.flat,D.dep,D.eq]
 rw[xbP];simp
theorem Yt (h:d.dep<=50):aG .eq d d=some (.bl true):=by
 show(rP d d).map D.bl=_;unfold rP;rw[xac ⟨by simp[eU,h],h⟩,D.eq_refl];rfl
theorem Ju (h:d.dep<=50):aG .ne d d=some (.bl false):=by
 show(vd d d).map D.bl=_;unfold vd;rw[xac ⟨by simp[eU,h],h⟩,D.eq_refl];rfl
theorem Yw:aR (.lst ds) (.int i)=cu ds i:=rfl
theorem Yy:aR (.tup ds) (.int i)=cu ds i:=rfl
theorem Yz:eO [.lst ds]=some (.int ds.length):=rfl
theorem YB:eO [.tup ds]=some (.int ds.length):=rfl
theorem YD:gU [.int i,.int j]=some (.int (if j<i then j else i)):=rfl
theorem YC:pD [.int i,.int j]=some (.int (if j > i then j else i)):=rfl
theorem YS:gK (.bl b)=some b:=rfl
theorem YM {lo hi:Option Int}:yD (.str z) lo hi=if z.length<=sizeLine then some (.str (Txt.slice z lo hi)) else none:=rfl
theorem YL {lo hi:Option Int}:yD (.lst ds) lo hi=some (.lst (dH ds lo hi)):=rfl
end
noncomputable def Step (J:Env->Mm->Prop) (Q:OS->Prop):OS->Prop
 |some (.nx e,M)=>J e M
 |some (.ct e,M)=>J e M
 |some (.bk e,M)=>Q (some (.nx e,M))
 |some (.rt d,M)=>Q (some (.rt d,M))
 |some (.ex c n,M)=>Q (some (.ex c n,M))
 |none=>False
theorem XC {i:Nat}{body:S}{ds:List D}{env:Env}{M:Mm}(Q:OS->Prop)(J:Nat->Env->Mm->Prop)(h0:J 0 env M)
    (hs:∀(k:Nat) d env M,ds[k]? =some d->J k env M->i<env.length/\Step (J (k + 1)) Q (body (env.set i (.val d)) M)) (hd:∀env M,J ds.length env M->Q (some (.nx env,M))):Q (loopS i body ds env M):=by
  have key:∀(m k:Nat) (env:Env) (M:Mm),m + k=ds.length->J k env M->Q (loopS i body (ds.drop k) env M):=by
    intro m
    induction m with
    |zero=>
      intro k env M hk hJ;have e:k=ds.length:=by lia
      subst e;rw[xds];exact hd env M hJ
    |succ m ih=>
      intro k env M hk hJ;have hlt:k<ds.length:=by lia
      obtain⟨hi,h1⟩:=hs k ds[k] env M (xar hlt) hJ;rw[xaZ hlt];simp only[loopS,hi,xbG]
      cases e:body (env.set i (.val ds[k])) M with
      |none=>rw[e]at h1;exact h1.elim
      |some o=>
        rw[e]at h1;obtain⟨o,M'⟩:=o
        cases o with
        |nx e'=>exact ih (k + 1) e' M' (by lia) h1
        |ct e'=>exact ih (k + 1) e' M' (by lia) h1
        |bk e'=>exact h1
        |rt d=>exact h1
        |ex c n=>exact h1
  have:=key ds.length 0 env M (by lia) h0
  rwa [xdd]at this
end E3
namespace E3
open PySem PySem.Spec PyProof.Rows L2
noncomputable def XN (H:Hp) (n:Int):Option Addr->Prop
 |none=>n=0
 |some d=>∃fs,H d=some (.xd fs)/\fs.lookup ("at":Str)=some (.int (n - 1))/\n≠0
noncomputable def XQ (K:Fgx) (mg:Mgx) (P:Pl) (H:Hp) (M':Mm) (Q:VK) (E:XK):Res->Prop
 |.v d=>∀P' v H',LtE P H P' H'->Hk K mg P' H' M'->Is K P' H' d v->Q v H'
 |.x c n=>∀P' H' C dx,LtE P H P' H'->Hk K mg P' H' M'->mg c=some (.ref C)->XN H' n dx->E (.ref C) dx H'
noncomputable def FN (K:Fgx) (mg:Mgx) (n:Nat) (g:G):Sp:=fun vs H Q E=>vs.length=n/\∃P M ds r M',Hk K mg P H M/\aA K P H ds vs/\g ds M=some (r,M')/\XQ K mg P H M' Q E r
theorem aA.away {K:Fgx}{P:Pl}{H H':Hp}(s:∀b o,H b=some o->(∀g,o≠ .ext g)->H' b=some o){ds:List D}{vs:List V}(h:aA K P H ds vs):aA K P H' ds vs:=
 aA.rd (fun _ _=>xdT (fun q=>s _ _ q fun _ z=>nomatch z) fun⟨o,q⟩=>⟨o,s _ _ q fun _ z=>nomatch z⟩) (fun _ _=>xdT (fun q=>s _ _ q fun _ z=>nomatch z) fun⟨o,q⟩=>⟨o,s _ _ q fun _ z=>nomatch z⟩) h
theorem Hk.away {K:Fgx}{mg:Mgx}{P:Pl}{H H':Hp}{M:Mm}(h:Hk K mg P H M)(s:∀b o,H b=some o->(∀g,o≠ .ext g)->H' b=some o)(t:∀b,H' b=none->H b=none):Hk K mg P H' M:=by
 refine⟨h.n,fun k c e=>?_,h.inj,h.bd,fun a z q=>h.here a z (t a q)⟩;exact(h.cell k c e).up (fun o e n=>s _ _ e n) (fun b o u e=>s b _ e fun _ z=>nomatch z) fun _ _ q=>aA.away s q
structure XFit (X:Cx)(Wx:XW):Prop where
 xr:∀pins σ H s a C dx c n P0 H0 P M,Inv X pins σ H s->H a=some (xo a C dx true)->¬ P.bd a->H0 a=none->LtE P0 H0 P H->Hk X.K X.mg P H M->X.mg c=some (.ref C)->XN H n dx->Wx P0 H0 M c n->X.xe (.ref a) s
section
variable {P:Program}{w:World}{K:Fgx}{mg:Mgx}{base:Heap}{k:Nat}{x qual:Str}{st:Stmt}{f:Addr}{fd:FuncData}{N ps:List Str}{b:S}
theorem Wc (F:FnOk P w K mg base (xH P w) k f fd ps sp):FnOk P w K mg base fY k f fd ps (fun vs H Q _=>sp vs H Q E0):=
 ⟨fun vs H Q E h=>F.len vs H Q E0 h,fun A outer s H args us vs Q E hr he hb hv hs=>xc4 (F.run A outer s H args us vs Q E0 hr he hb hv hs) fun r s' z=>by
  cases r with
  |error e=>obtain⟨_,_,_,_,_,_,_,_,_,_,_,_,_,_,z⟩:=z;exact z
  |ok fl=>cases fl<;>exact z⟩
theorem Ih (F:FnOk P w K mg base (xH P w) k f fd ps (FN K mg n g)):FnOk P w K mg base fY k f fd ps (nW K mg n g):=by
 have F0:=Wc F;refine⟨fun vs H Q E h=>F0.len vs H Q E ?_,fun A outer s H args us vs Q E hr he hb hv hs=>F0.run A outer s H args us vs Q E hr he hb hv ?_⟩
 ·obtain⟨hl,P,M,ds,d,M',hk,is,e,q⟩:=h;exact⟨hl,P,M,ds,.v d,M',hk,is,e,q⟩
 ·obtain⟨hl,P,M,ds,d,M',hk,is,e,q⟩:=hs;exact⟨hl,P,M,ds,.v d,M',hk,is,e,q⟩
def fK (P:Program)(w:World)(K:Fgx)(mg:Mgx)(base:Heap)(k:Nat)(C:Addr)(m:Str)(n:Nat)(g:G):Prop:=
 ∃f fd ps,Meth K C m f/\FnOk P w K mg base (xH P w) k f fd ps (FN K mg n g)/\Binds K fd ps []
def fJ (P:Program)(w:World)(K:Fgx)(mg:Mgx)(base:Heap)(k:Nat)(C:Addr)(n:Nat)(g:G):Prop:=
 ∃f fd ps,Mk K C f/\FnOk P w K mg base (xH P w) k f fd ps (FN K mg n g)/\Binds K fd ps []
def rN (P:Program)(w:World)(K:Fgx)(mg:Mgx)(base:Heap)(k:Nat)(f:Str)(n:Nat)(g:G):Prop:=
 ∃fa fd ps,mg f=some (.ref fa)/\PySem.W.keepIn K (.ref fa)=true/\FnOk P w K mg base (xH P w) k fa fd ps (FN K mg n g)/\Binds K fd ps []
theorem fK.quiet (a:fK P w K mg base k C m n g):cX P w K mg base k C m n g:=by
 obtain⟨f,fd,ps,h1,h2,h3⟩:=a;exact⟨f,fd,ps,h1,Ih h2,h3⟩
theorem fJ.quiet (a:fJ P w K mg base k C n g):m7 P w K mg base k C n g:=by
 obtain⟨f,fd,ps,h1,h2,h3⟩:=a;exact⟨f,fd,ps,h1,Ih h2,h3⟩
theorem rN.quiet (a:rN P w K mg base k x n g):bB P w K mg base k x n g:=by
 obtain⟨fa,fd,ps,h1,h2,h3,h4⟩:=a;exact⟨fa,fd,ps,[],[],_,h1,h2,Ih h3,h4,.nil,fun vs H Q E h=>by rw[xaJ];exact h⟩
theorem fK.mono (a:fK P w K mg base j C m n g)(h:j<=k):fK P w K mg base k C m n g:=by
 obtain⟨f,fd,ps,h1,h2,h3⟩:=a;exact⟨f,fd,ps,h1,h2.mono h,h3⟩
theorem fJ.mono (a:fJ P w K mg base j C n g)(h:j<=k):fJ P w K mg base k C n g:=by
 obtain⟨f,fd,ps,h1,h2,h3⟩:=a;exact⟨f,fd,ps,h1,h2.mono h,h3⟩
theorem rN.mono (a:rN P w K mg base j x n g)(h:j<=k):rN P w K mg base k x n g:=by
 obtain⟨f,fd,ps,h1,h2,h3,h4⟩:=a;exact⟨f,fd,ps,h1,h2,h3.mono h,h4⟩
end
end E3
namespace L2
open PySem PySem.Spec PyProof.Rows
section
variable {X:Cx}{CX:fj}{k:Nat}{f C:Addr}{fd:FuncData}{ps:List Str}{sp:Sp}{x m:Str}{p pos apos:Pos}{e o:Expr}{es:List Expr}{ta:TE}{t:TA}{Ex:St->XK}
def Uk (CX:fj)(X:Cx)(Ex:St->XK):Prop:=∀pins σ H s e s',Inv X pins σ H s->CX X.stack H s (Ex σ) e s'->X.xe e s'
end
end L2
namespace E3
open PySem PySem.Spec PyProof.Rows L2
section
variable {X:Cx}{Wx:XW}{pos:Pos}
def SX (X:Cx)(e:Expr)(f:E):Prop:=∀Ex:L2.St->XK,Uk (xH X.prog X.w) X Ex->PE X e fun st H Q=>∃P0 H0 P Os env M r M',Ok X.K X.mg P0 H0 P Os H M st env/\f env M=some (r,M')/\XQ X.K X.mg P H M' Q (Ex st) r
noncomputable def zeN (K:Fgx) (mg:Mgx) (E:XK) (P0:Pl) (H0:Hp) (P:Pl) (H:Hp) (M':Mm) (D:Ends):Out->Prop
 |.ex c n=>∀P' H' C dx,LtE P H P' H'->Hk K mg P' H' M'->mg c=some (.ref C)->XN H' n dx->E (.ref C) dx H'
 |.nx env=>Post K mg W0 P0 H0 P H M' D (.nx env)
 |.bk env=>Post K mg W0 P0 H0 P H M' D (.bk env)
 |.ct env=>Post K mg W0 P0 H0 P H M' D (.ct env)
 |.rt d=>Post K mg W0 P0 H0 P H M' D (.rt d)
end
end E3
namespace L2
open PySem PySem.Spec PyProof.Rows
end L2
namespace E3
open PySem PySem.Spec PyProof.Rows L2
theorem zdi {K:Fgx}{C:Addr}(h1:PySem.W.findIn K (.ref C) "__getattribute__"=some (some (.builtin "BaseException.__getattribute__")))(h2:PySem.W.findIn K (.ref C) "__getattr__"=some none)(h3:PySem.W.mroIn K C (.type "BaseException")=some true):Gj K C=true:=by
 simp only[Gj,h1,h2,h3,xbJ,xeP]
theorem zcO {K:Fgx}{C:Addr}(h1:Gj K C=true)(h2:PySem.W.hasDictIn K C=true)(h3:PySem.W.findIn K (.ref C) "__class__"=some (some (.builtin "object.__class__")))(h4:PySem.W.specialIn K (.builtin "object.__class__") "__get__"=some (some (.builtin "getset_descriptor.__get__")))
  (h5:PySem.W.takesIn K (.builtin "object.__class__")=some true) (h6:PySem.W.mroIn K C (.type "object")=some true):Gk K C=true:=by
 simp only[Gk,h1,h2,h3,h4,h5,h6,xbJ,xeP]
end E3
namespace E3
open PySem L2
section
variable {env:Env}{M M1 M2:Mm}{f g o v:E}{d e x:D}{i:Int}{k:Nat}{ds:List D}{s t:S}{c me fl:Str}{fs:List (Str×D)}{gg:G}{fa:EA}
theorem Qm (h:M[k]? =some (.obj c fs)):wI M c (.ref k)=some (k,fs):=by unfold wI;simp only[h,xbG]
theorem zu (h1:o env M=some (.v (.ref k),M1))(h2:M1[k]? =some (.obj c fs))(h3:fs.lookup fl=some x):bw c fl o env M=some (.v x,M1):=by
 simp only[bw,bnd,h1,Qm h2,h3,xbX]
theorem lC (h1:o env M=some (.v (.ref k),M1))(h2:M1[k]? =some (.obj c fs))(h3:fs.lookup me=none)(h4:fa env M1=some (.v ds,M2))(h5:gg (.ref k::ds) M2=some (.v x,M3)):bH c me gg o fa env M=some (.v x,M3):=by
 simp only[bH,bnd,h1,Qm h2,h3,xbG,cA,h4,h5]
theorem XM (h4:fa env M=some (.v ds,M1))(h5:gg (.ref M1.length::ds) (M1 ++ [.obj c []])=some (.v .non,M3)):wR c gg fa env M=some (.v (.ref M1.length),M3):=by
 simp only[wR,cA,h4,h5]
end
theorem m7.mono (a:m7 P w K mg base j C n g)(h:j<=k):m7 P w K mg base k C n g:=by
 obtain⟨f,fd,ps,h1,h2,h3⟩:=a;exact⟨f,fd,ps,h1,h2.mono h,h3⟩
end E3
namespace E3
open PySem PySem.Spec PyProof.Rows L2
theorem cC (hN:X.N[i]? =some x)(hv:uc X.env.scope x)(hd:(x==("__debug__":Str))=false:=by x_go)(hcd:(x==("__classdict__":Str))=false:=by x_go):SE X Wx m (.Name x pos) (aj i):=(R4 hN hv hd hcd).bor
noncomputable def bL (cs:List (Str×Nat)) (env:Env):Env:=cs.map fun p=>(env[p.2]?).getD .un
noncomputable def gY (cs:List (Str×Nat)) (Os:List (Option Addr)):List (Option Addr):=cs.map fun p=>(Os[p.2]?).join
section
variable {K:Fgx}{mg:Mgx}{P0 P:Pl}{H0 H:Hp}{M:Mm}{Os:List (Option Addr)}{st:L2.St}{env:Env}{d:D}{v:V}
theorem Ho {cs:List (Str×Nat)}{i:Nat}{a:Addr}(h:(gY cs Os)[i]? =some (some a)):∃p,cs[i]? =some p/\Os[p.2]? =some (some a):=by
 unfold gY at h;rw[xaw,xah]at h;obtain⟨p,e,h⟩:=h;exact⟨p,e,nA h⟩
theorem Ok.cap {cs:List (Str×Nat)}(k:Ok K mg P0 H0 P Os H M st env)(nd:(cs.map (·.2)).Nodup)(h:Is K P H d v):Ok K mg P0 H0 P (none::gY cs Os) H M (some v::dG cs st) (.val d::bL cs env) where
  hk:=k.hk
  base:=k.base
  b0:=k.b0
  slot:=fun i s e=>by
    cases i with
    |zero=>cases e;exact⟨v,rfl,h⟩
    |succ i=>
      rw[xba]at e ⊢;rw[xba];unfold bL at e;rw[xaw,xah]at e;obtain⟨p,ep,e⟩:=e;have eo:((gY cs Os)[i]?).join=(Os[p.2]?).join:=by unfold gY;rw[xaw,ep];rfl
      have es:((dG cs st)[i]?).join=(st[p.2]?).join:=by unfold dG;rw[xaw,ep];rfl
      rw[eo,es]
      cases e':env[p.2]? with
      |none=>rw[e']at e;cases e;exact True.intro
      |some s'=>rw[e']at e;cases e;exact k.slot _ _ e'
  own:=fun a h=>by
    rw[xaq]at h;rcases h with h |h
    · cases h
    · obtain⟨i,hi⟩:=xeD.mp h;obtain⟨p,_,e⟩:=Ho hi;exact k.own a (xaP e)
  inj:=fun i j a e1 e2=>by
    cases i with
    |zero=>cases e1
    |succ i=>
      cases j with
      |zero=>cases e2
      |succ j=>
        rw[xba]at e1 e2;obtain⟨p,h1,h2⟩:=Ho e1;obtain⟨q,h3,h4⟩:=Ho e2;have e:=k.inj _ _ a h2 h4;congr 1;have hi:(cs.map (·.2))[i]? =some p.2:=by rw[xaw,h1];rfl
        have hj:(cs.map (·.2))[j]? =some p.2:=by rw[xaw,h3,e];rfl
        have il:=(xai.mp hi).1;exact(List.getElem?_inj il nd).mp (hi.trans hj.symm)
  olen:=by simp[gY,bL]
  slen:=by simp[dG,bL]
end
section
variable {X:Cx}{Wx:XW}{m:Mode}{pos:Pos}
noncomputable def fu (q e:E) (env:Env):List D->List D->Mm->Option (List D×Mm)
  | [],acc,M=>some (acc,M)
  |d::ds,acc,M=>match q (.val d::env) M with
    | some (.v (.bl true), M1) => (match e (.val d::env) M1 with
      |some (.v y,M2)=>if acc.length + 1<sizeLine then fu q e env ds (acc ++ [y]) M2 else none
      |_=>none)
    |some (.v (.bl false),M1)=>fu q e env ds acc M1
    |_=>none
noncomputable def gH (cs:List (Str×Nat)) (fs:EA) (q e:E):E:=fun env M=>match fs env M with
  | some (.v ds, M1) => (match fu q e (bL cs env) ds [] M1 with
    |some (ys,M2)=>some (.v (.lst ys),M2)
    |none=>none)
  |some (.x c n,M1)=>some (.x c n,M1)
  |none=>none
theorem zc:∀env M r M',gH cs fs q e env M=some (.v r,M')->∃ds,r=.lst ds:=fun env M r M' h=>by
 unfold gH at h;split at h
 ·split at h
  ·cases h;exact⟨_,rfl⟩
  ·cases h
 ·cases h
 ·cases h
theorem Il {K:Fgx}{mg:Mgx}{P1 P:Pl}{H1 H:Hp}{M:Mm}{D:Addr}{vs vs':List V}(l:LtE P1 H1 P H)(h:Hk K mg P H M)(hD:H1 D=none)(bD:P.bd D)(nc:∀k,k<P.n->P.io k≠D)(e:H D=some (.lst vs)):
  Lt P H P (upd H D (.lst vs'))/\LtE P1 H1 P (upd H D (.lst vs'))/\Hk K mg P (upd H D (.lst vs')) M:=by
 have lc:Lt P H P (upd H D (.lst vs')):=mR bD e Ea;refine⟨lc,⟨l.n,l.io,l.bd,l.bm,fun c o ec n=>?_,fun c z=>l.sure c (lc.sure c z),l.nw⟩,⟨h.n,fun j c ej=>(h.cell j c ej).lt lc fun o eo=>?_,h.inj,h.bd,fun c z q=>h.here c z (lc.sure c q)⟩⟩
 ·rw[aW (fun z=>by subst z;rw[hD]at ec;cases ec)];exact l.keep c o ec n
 ·rw[aW (nc j (by rw[h.n];exact(xai.mp ej).1))];exact eo
noncomputable def NR (K:Fgx) (mg:Mgx) (Wx:XW) (P0:Pl) (H0:Hp) (P:Pl) (H:Hp) (M':Mm) (R:Addr->Hp->Prop):Res->Prop
 |.v d=>∃ds,d=.lst ds/\∀P' a vs H',LtE P H P' H'->Hk K mg P' H' M'->H a=none->P'.bd a->(∀k,k<P'.n->P'.io k≠a)->H' a=some (.lst vs)->aA K P' H' ds vs->R a H'
 |.x c n=>Wx P0 H0 M' c n
theorem zf {K:Fgx}{mg:Mgx}{cs:List (Str×Nat)}{fs:EA}{q e:E}{P0 P:Pl}{H0 H:Hp}{Os:List (Option Addr)}{M M':Mm}{st:L2.St}{env:Env}{r:Res}{R:Addr->Hp->Prop}(nd:(cs.map (·.2)).Nodup)
    (k:Ok K mg P0 H0 P Os H M st env) (h:gH cs fs q e env M=some (r,M')) (w:NR K mg Wx P0 H0 P H M' R r):yG (tI K mg Wx fs) (rK K mg W0 q) (tE K mg W0 .val e) cs st H R:=by
  unfold gH at h;split at h
  · rename_i ds M1 ef;split at h
    rotate_left
    · cases h
    rename_i ys M2 ec;cases h;obtain ⟨ds', e', w⟩ := w;cases e';refine ⟨P0, H0, P, Os, env, M, _, _, k, ef, fun P1 H1 J l1 h1 wk D hD => ?_⟩;obtain ⟨l2, h2, nc⟩ := pF (vs := []) h1 hD;refine ⟨fun i m vs H2=>m=ds.length - i/\i<=ds.length/\∃P2 M3 acc,LtE P1 H1 P2 H2/\Hk K mg P2 H2 M3/\P2.bd D/\(∀k,k<P2.n->P2.io k≠D)/\H2 D=some (.lst vs)/\aA K P2 H2 acc vs/\acc.length<sizeLine/\fu q e (bL cs env) (ds.drop i) acc M3=some (ys,M'),
      ⟨ds.length,by simp,xa0 _,P1.bar D,M1,[],l2,h2,.inr rfl,nc,bJ,rfl,by x_go,by rw[xdd];exact ec⟩,?_⟩
    rintro i m vs H2 ⟨rfl,hi,P2,M3,acc,l3,h3,bD,nD,eD,is,hz,ec⟩;refine⟨eD,?_⟩;obtain⟨w1,w2,w3⟩:=wk P2 H2 (l3.lt h1)
    by_cases hlt:i<ds.length
    · refine .inr ⟨w1 i hlt,by rw[is.len];exact hz,fun vs' H'=>∃P2 M3 acc,LtE P1 H1 P2 H'/\Hk K mg P2 H' M3/\P2.bd D/\(∀k,k<P2.n->P2.io k≠D)/\H' D=some (.lst vs')/\aA K P2 H' acc vs'/\acc.length<sizeLine/\fu q e (bL cs env) (ds.drop (i + 1)) acc M3=some (ys,M'),
        fun vs' H' z=>⟨ds.length - (i + 1),xeR hlt (xbg i),rfl,hlt,z⟩,fun x H' y=>?_⟩
      obtain⟨e3,d,ed,iv⟩:=w3 i x H' y hlt;subst e3;have ed':ds.drop i=d::ds.drop (i + 1):=by
        rw[xaZ hlt];rw[xar hlt]at ed;rw[xaA ed]
      rw[ed']at ec;have kk:=((k.next l1 h1).next l3 h3).cap (cs:=cs) nd iv
      simp only[fu]at ec;split at ec
      · rename_i M4 eq;refine fX kk eq ⟨true,rfl,fun P4 H4 l4 h4=>?_⟩;dsimp only;rw[xac rfl];split at ec
        · rename_i y' M5 ee;split at ec
          · rename_i hz';refine aQ (kk.next l4 h4) ee fun P5 v5 H5 l5 h5 i5=>?_
            have l45:=l4.trans l5;have eD5:H5 D=some (.lst vs):=l45.keep D _ eD (.inr nD);have nD5:∀k,k<P5.n->P5.io k≠D:=l45.nc eD nD;obtain⟨g1,g2,g3⟩:=Il (vs':=vs ++ [v5]) (l3.trans l45) h5 hD (l45.bm D bD) nD5 eD5;refine⟨eD5,P5,M5,acc ++ [y'],g2,g3,l45.bm D bD,nD5,bJ,aA.append (aA.lt ((l45.lt h3).trans g1) is) (aA.one (Is.lt g1 i5)),by rw[xam];exact hz',ec⟩
          · cases ec
        · cases ec
      · rename_i M4 eq;refine fX kk eq ⟨false,rfl,fun P4 H4 l4 h4=>?_⟩;dsimp only;rw[xad (by decide)];exact⟨P4,M4,acc,l3.trans l4,h4,l4.bm D bD,l4.nc eD nD,l4.keep D _ eD (.inr nD),aA.lt (l4.lt h3) is,hz,ec⟩
      · cases ec
    · have ei:i=ds.length:=by lia
      subst ei;rw[xds]at ec;cases ec;exact .inl ⟨w2 _ (xaf _) (xaf _),w P2 D vs H2 (l1.trans l3) h3 (l1.sure D hD) bD nD eD is⟩
  · rename_i c n M1 ef;cases h;exact⟨P0,H0,P,Os,env,M,_,_,k,ef,w⟩
  · cases h
def SQ (X:Cx)(ifs:List Expr)(q:E):Prop:=gq X ifs (rK X.K X.mg W0 q)
theorem Bu:SQ X [] (ak (.bl true)):=fun pins s σ H Q I h=>by
 obtain⟨P0,H0,P,Os,env,M,r,M',k,e,q⟩:=h;cases e;obtain⟨b,e2,q⟩:=q;cases e2;exact El pins s σ H Q I (q P H (LtE.refl P H) k.hk)
theorem zdd (h:ST X W0 c q):SQ X [c] q:=za6 h
section
variable {elt iter:Expr}{ifs:List Expr}{scope:Scope}{fs:EA}{q e:E}
theorem KN (x:Str)(cs:List (Str×Nat))(hc:X.calm=true)(nd:(cs.map (·.2)).Nodup)(hi:SI X Wx (.Name x px) iter fs)
  (hq:∀(cl:List (Str×Addr)) (C:Addr) (s₀:Shared) (H₀:Hp) (ex:List Addr) (pn:Pnx),SQ (cJ X (x::cs.map (·.1)) scope cl C s₀ H₀ ex pn) ifs q)
  (he:∀(cl:List (Str×Addr)) (C:Addr) (s₀:Shared) (H₀:Hp) (ex:List Addr) (pn:Pnx),SE (cJ X (x::cs.map (·.1)) scope cl C s₀ H₀ ex pn) W0 .val elt e)
  (ok:xP X.N X.env.scope x cs scope=true:=by kernel_rfl) (hs:∀x,foldedSetIterable iter X.env x=pure x:=by intro _;rfl):
  SN X Wx (.ListComp elt [⟨.Name x px,iter,ifs,0⟩] scope pos) (gH cs fs q e):=by
 refine bR (Qu (tq:=rK X.K X.mg W0 q) (te:=tE X.K X.mg W0 .val e) x cs hc hi hq he ok hs) ?_;rintro st H Q ⟨P0,H0,P,Os,env,M,r,M',k,e,w⟩;refine zf nd k e ?_
 cases r with
 |v d=>exact w
 |x c n=>exact w
theorem Wh {K:Fgx}{mg:Mgx}{P P':Pl}{H H':Hp}{M M':Mm}{a:Addr}{vs:List V}{ds:List D}(k:Hk K mg P H M)(l:LtE P H P' H')(h:Hk K mg P' H' M')(ha:H a=none)(nc:∀j,j<P'.n->P'.io j≠a)(ea:H' a=some (.lst vs))(is:aA K P' H' ds vs):
  LtE P H (P'.less (· ≠a)) H'/\Hk K mg (P'.less (· ≠a)) H' M'/\Is K (P'.less (· ≠a)) H' (.lst ds) (.ref a):=by
 have l2 : Lt P' H' (P'.less (· ≠ a)) H' := ⟨xaf _, fun _ _ => rfl, fun c z => .inl z.1, fun _ _ e _ => e, fun _ z => z⟩;exact ⟨⟨l.n,l.io,fun b z=>l.bd b z.1,fun b z=>⟨l.bm b z,fun q=>k.here b z (q ▸ ha)⟩,l.keep,l.sure,l.nw⟩,
  ⟨h.n,fun j c e=>(h.cell j c e).lt l2 fun _ z=>z,h.inj,fun j hj=>⟨h.bd j hj,nc j hj⟩,fun b z=>h.here b z.1⟩,
  a,vs,rfl,.inl ⟨fun z=>z.2 rfl,.inl ea⟩,aA.less is⟩
theorem zcj (x:Str)(cs:List (Str×Nat))(hN:X.N.Nodup)(hk:X.N[i]? =some y)(hy:Loc X.env.scope y)(hc:X.calm=true)(nd:(cs.map (·.2)).Nodup)(hi:SI X Wx (.Name x px) iter fs)
  (hq:∀(cl:List (Str×Addr)) (C:Addr) (s₀:Shared) (H₀:Hp) (ex:List Addr) (pn:Pnx),SQ (cJ X (x::cs.map (·.1)) scope cl C s₀ H₀ ex pn) ifs q)
  (he:∀(cl:List (Str×Addr)) (C:Addr) (s₀:Shared) (H₀:Hp) (ex:List Addr) (pn:Pnx),SE (cJ X (x::cs.map (·.1)) scope cl C s₀ H₀ ex pn) W0 .val elt e)
  (ok:xP X.N X.env.scope x cs scope=true:=by kernel_rfl) (hs:∀x,foldedSetIterable iter X.env x=pure x:=by intro _;rfl)
  (hsw:swapsWith (.ListComp elt [⟨.Name x px,iter,ifs,0⟩] scope pos) (some (.Name y py)) spos.line X.env=pure true:=by rfl)
  (hf:X.fn y=true\/X.env.scope.names.lookup y=some .local:=by first |exact .inl rfl |exact .inr rfl):
  SS X Wx (.Assign [.Name y py] (.ListComp elt [⟨.Name x px,iter,ifs,0⟩] scope pos) spos) (aO i (gH cs fs q e)):=by
 refine fQ (QF (tq:=rK X.K X.mg W0 q) (te:=tE X.K X.mg W0 .val e) x cs hN hk hy hc hi hq he ok hs hsw hf) ?_;rintro D st H ⟨P0,H0,P,Os,env,M,out,M',k,ee,w⟩;unfold aO at ee;rcases eE ee with⟨d,M1,e1,ee⟩ |⟨c,n,e1,rfl⟩
 ·obtain⟨ds,rfl⟩:=zc _ _ _ _ e1;split at ee
  ·rename_i hl;cases ee;refine zf nd k e1 ⟨ds,rfl,fun P1 a vs H1 l1 h1 ha ba nc ea is=>?_⟩;obtain⟨l2,h2,i2⟩:=Wh k.hk l1 h1 ha nc ea is;exact w _ _ _ _ (l2.lt k.hk) ((k.next l2 h2).asg hl i2)
  ·cases ee
 ·exact zf nd k e1 w
theorem Sy (x:Str)(cs:List (Str×Nat))(hN:X.N.Nodup)(hk:X.N[i]? =some y)(hy:Loc X.env.scope y)(hc:X.calm=true)(nd:(cs.map (·.2)).Nodup)(hi:SI X Wx (.Name x px) iter fs)
  (hq:∀(cl:List (Str×Addr)) (C:Addr) (s₀:Shared) (H₀:Hp) (ex:List Addr) (pn:Pnx),SQ (cJ X (x::cs.map (·.1)) scope cl C s₀ H₀ ex pn) ifs q)
  (he:∀(cl:List (Str×Addr)) (C:Addr) (s₀:Shared) (H₀:Hp) (ex:List Addr) (pn:Pnx),SE (cJ X (x::cs.map (·.1)) scope cl C s₀ H₀ ex pn) W0 .val elt e)
  (ok:xP X.N X.env.scope x cs scope=true:=by kernel_rfl) (hs:∀x,foldedSetIterable iter X.env x=pure x:=by intro _;rfl)
  (hsw:swapsWith (.ListComp elt [⟨.Name x px,iter,ifs,0⟩] scope pos) (some (.Name y py)) spos.line X.env=pure true:=by rfl)
  (hf:X.fn y=true\/X.env.scope.names.lookup y=some .local:=by first |exact .inl rfl |exact .inr rfl):
  SS X Wx (.Assign [.Name y py] (.ListComp elt [⟨.Name x px,iter,ifs,0⟩] scope pos) spos) (nQ i (gH cs fs q e)):=by
 refine fQ (QF (tq:=rK X.K X.mg W0 q) (te:=tE X.K X.mg W0 .val e) x cs hN hk hy hc hi hq he ok hs hsw hf) ?_;rintro D st H ⟨P0,H0,P,Os,env,M,out,M',k,ee,w⟩;unfold nQ at ee;rcases eE ee with⟨d,M1,e1,ee⟩ |⟨c,n,e1,rfl⟩
 ·obtain⟨ds,rfl⟩:=zc _ _ _ _ e1;dsimp only at ee;split at ee
  ·rename_i hl;cases ee;refine zf nd k e1 ⟨ds,rfl,fun P1 a vs H1 l1 h1 ha ba nc ea is=>?_⟩;exact w _ _ _ _ (l1.lt k.hk) (k.mine l1 h1 hl ha ba nc ea is)
  ·cases ee
 ·exact zf nd k e1 w
end
end
noncomputable def toKey:D->Option Key
 |.int i=>some (.inl i)
 |.str z=>some (.inr z)
 |_=>none
section
variable {K:Fgx}{mg:Mgx}{P:Pl}{H:Hp}{M:Mm}
theorem key_is (h:toKey d=some k)(i:Is K P H d v):v=kV k:=by
 unfold toKey at h;split at h
 ·cases h;cases i;rfl
 ·cases h;cases i;rfl
 ·cases h
end
section
variable {X:Cx}{Wx:XW}{m:Mode}{pos:Pos}
inductive ResP where
 |v (ps:List (D×D)) |x (c:Str) (n:Int)
theorem Mt {K:Fgx}{mg:Mgx}{P:Pl}{H:Hp}{M:Mm}{p:Addr}{o:HO}(h:Hk K mg P H M)(hp:H p=none):LtE P H (P.bar p) (upd H p o)/\Hk K mg (P.bar p) (upd H p o) M/\∀k,k<P.n->P.io k≠p:=by
 have s:=mY (o:=o) hp;have nc:∀k,k<P.n->P.io k≠p:=fun k hk z=>h.here _ (h.bd k hk) (z ▸ hp);have l:LtE P H (P.bar p) (upd H p o):=⟨xaf _,fun _ _=>rfl,fun a z=>xdT (fun q=>q) (fun(q:a=p)=>by rw[q];exact hp) z,fun a z=>.inl z,fun a o e _=>s a o e,fun a z=>s.free z,fun k h1 h2=>absurd h1 (xd7.mpr h2)⟩;refine⟨l,⟨h.n,fun k c e=>(h.cell k c e).lt (l.lt h) fun u eu=>s _ _ eu,h.inj,fun k hk=>.inl (h.bd k hk),fun a z q=>?_⟩,nc⟩;rcases z with z |z
 ·exact h.here a z (s.free q)
 ·subst z;rw[bJ]at q;cases q
theorem M9 {K:Fgx}{mg:Mgx}{P0 P:Pl}{H0 H:Hp}{M:Mm}{a:Addr}{o o':HO}{c:Cl}(l:LtE P0 H0 P H)(h:Hk K mg P H M)(ha:H0 a=none)(ba:P.bd a)(nc:∀k,k<P.n->P.io k≠a)(ea:H a=some o)(nf:¬ Fx o)(hc:∀P',Lt P H P' (upd H a o')->m8 K mg P' (upd H a o') a c):
  ∃P',LtE P0 H0 P' (upd H a o')/\Hk K mg P' (upd H a o') (M ++ [c])/\Is K P' (upd H a o') (.ref M.length) (.ref a):=by
 have hn:P.n=M.length:=h.n
 let P2:Pl:={io:=fun j=>if j=P.n then a else P.io j,n:=P.n + 1,bd:=P.bd}
 have io:∀j,j<P.n->P2.io j=P.io j:=fun j hj=>xad (by lia);have ioN:P2.io P.n=a:=xac rfl;have lc:Lt P H P (upd H a o'):=mR ba ea nf;have l2:Lt P H P2 (upd H a o'):=⟨xcp _,io,fun _ z=>.inl z,lc.keep,lc.sure⟩;refine⟨P2,⟨xdj l.n,fun j hj=>(io j (xap hj l.n)).trans (l.io j hj),l.bd,l.bm,fun b u e z=>?_,fun b z=>l.sure b (lc.sure b z),fun j h2 h3=>?_⟩,⟨by rw[xam, <-hn];rfl,fun j d ej=>?_,fun i j hi hj e=>?_,fun j hj=>?_,fun b z q=>h.here b z (lc.sure b q)⟩,?_⟩
 ·rw[aW (fun z=>by subst z;rw[ha]at e;cases e)];exact l.keep b u e z
 ·rcases xaT j P.n with z |z
  ·rw[io j z];exact l.nw j h2 z
  ·have:j=P.n:=xaV (xaS h3) z;rw[this,ioN];exact ha
 ·rcases xaT j P.n with z |z
  ·rw[xaG (by rw[<-hn];exact z)]at ej;rw[io j z];exact(h.cell j d ej).lt l2 fun u eu=>by rw[aW (nc j z)];exact eu
  ·have jl:=(xai.mp ej).1;rw[xam,xaF, <-hn]at jl;have:j=P.n:=by lia
   subst this;rw[xat (by rw[hn];exact xaf _),hn,xbS]at ej;cases ej;rw[ioN];exact hc P2 l2
 ·rcases xaT i P.n with z |z
  ·rcases xaT j P.n with y |y
   ·rw[io i z,io j y]at e;exact h.inj i j z y e
   ·have:j=P.n:=xaV (xaS hj) y;rw[io i z,this,ioN]at e;exact absurd e (nc i z)
  ·have iN:i=P.n:=xaV (xaS hi) z;rcases xaT j P.n with y |y
   ·rw[iN,ioN,io j y]at e;exact absurd e.symm (nc j y)
   ·rw[iN];exact xaV y (xaS hj)
 ·rcases xaT j P.n with z |z
  ·rw[io j z];exact h.bd j z
  ·have:j=P.n:=xaV (xaS hj) z;rw[this,ioN];exact ba
 ·exact⟨by show _<P.n + 1;rw[hn];exact xbg _,by rw[<-hn,ioN]⟩
noncomputable def dX (M:Mm) (d:D):String:=match d with
  | .ref k => (match M[k]? with
    |some (.lst _)=>"list"
    |some (.dct _)=>"dict"
    |_=>"")
  |d=>B_ d
noncomputable def d8 (tb:String->String->Option Bool) (T:String) (f:E):E:=fun env M=>bnd (f env M) fun d M1=>if dX M1 d="" then none else(tb (dX M1 d) T).map fun b=>(.v (.bl b),M1)
theorem UJ:c7 X (.builtin "isinstance") (fun xs H Q=>∃(x:V) (T:String) (d:D) (P:Pl) (M:Mm) (b:Bool),xs=[x,.ty T]/\Hk X.K X.mg P H M/\cY X.K P H d x/\dX M d≠""/\PySem.W.kitOne X.K (.type (dX M d)) (.type T)=some b/\Q (.bl b) H):=by
  intro pins s σ H xs us Q I r h;obtain⟨x,T,d,P,M,b,rfl,hk,i,ne,e,q⟩:=h;have old:dX M d=B_ (vw M d)->wpAny (model X.prog X.w) X.A (call (.builtin "isinstance") us) (EP X pins σ Q) X.xe s:=fun et=>by
    rw[et]at ne e;exact UG pins s σ H _ us Q I r ⟨x,T,vw M d,P,b,rfl,cY.vw hk i,ne,e,q⟩
  cases d with
  |ref k=>
    cases em:M[k]? with
    |none=>simp[dX,em]at ne
    |some c=>
      cases c with
      |lst ds=>exact old (by simp[dX,vw,em,B_])
      |obj c fs=>simp[dX,em]at ne
      |dcf kvs=>simp[dX,em]at ne
      |dtf kvs=>simp[dX,em]at ne
      |fn i caps=>simp[dX,em]at ne
      |tpc ds=>simp[dX,em]at ne
      |tbl nm i=>simp[dX,em]at ne
      |dct kvs=>
        obtain⟨u,w',rfl,rx,rT⟩:=vals2 r;cases rT;obtain⟨kl,rfl⟩:k<P.n/\x=.ref (P.io k):=i;cases rx;obtain⟨vs,ev,_⟩:=hk.cell k _ em;obtain⟨_,_,vs',_,o,es,ep,h1,h2,_⟩:=I.hok _ _ ev;simp only[dX,em]at e;exact xa5 xd3 I.kIn ⟨o,h1,h2.1⟩ e (fun z=>nomatch z) fun tk=>⟨.bl b,H,I.tok _,rfl,q⟩
      |dtc kvs=>simp[dX,em]at ne
  |non=>exact old rfl
  |bl _=>exact old rfl
  |int _=>exact old rfl
  |str _=>exact old rfl
  |tup _=>exact old rfl
  |lst _=>exact old rfl
theorem wV (ht:∀t b,tb t T=some b->PySem.W.kitOne X.K (.type t) (.type T)=some b)(he:SE X Wx .bor e f)(hg:Gl X "isinstance")(hm:X.mg "isinstance"=none)(hg':Gl X (Str.ofString T))(hm':X.mg (Str.ofString T)=none)(hT:bootBuiltins (Str.ofString T)=some (.type T))
  (n1:Str.ofString T≠"__name__":=by x_go) (n2:(Str.ofString T==("__debug__":Str))=false:=by x_go) (hs:starEach [e,.Name (Str.ofString T) p'] X.env=(false,eval e X.env)::starEach [.Name (Str.ofString T) p'] X.env:=by rfl):
  SE X Wx m (.Call (.Name "isinstance" p) [e,.Name (Str.ofString T) p'] [] pos) (d8 tb T f):=by
 have pT:PE X (.Name (Str.ofString T) p') (tC (.ty T)):=Zz hg' hm' hT rfl n1 n2;refine bR (Ej UJ hg hm boot_isinstance (lF he (lF pT nJ) hs) (by x_go) (by x_go) hs rfl) ?_;rintro st H Q ⟨P0,H0,P,Os,env,M,r,M',k,e,q⟩;unfold d8 at e;rcases bN e with⟨d,M1,e1,e⟩ |⟨c,n,e1,rfl⟩
 ·split at e
  ·cases e
  ·rename_i hne;rw[xah]at e;obtain⟨b,eb,e⟩:=e;cases e;exact aQ k e1 fun P1 v1 H1 l1 h1 i1=>⟨v1,T,d,P1,_,b,rfl,h1,i1,hne,ht _ _ eb,q P1 _ H1 l1 h1 (cB.of h1 (show Is _ _ _ (.bl b) _ from rfl))⟩
 ·exact aQ k e1 q
end
section
variable {X:Cx}{Wx:XW}{m:Mode}{pos:Pos}
noncomputable def pX (c:E) (b:S):Nat->Env->Mm->OS
  |0,_,_=>none
  |n + 1,env,M=>match c env M with
    | some (.v (.bl true), M1) => (match b env M1 with
      |some (.nx e,M2)=>pX c b n e M2
      |some (.ct e,M2)=>pX c b n e M2
      |some (.bk e,M2)=>some (.nx e,M2)
      |some (.rt d,M2)=>some (.rt d,M2)
      |some (.ex x k,M2)=>some (.ex x k,M2)
      |none=>none)
    |some (.v (.bl false),M1)=>some (.nx env,M1)
    |some (.x x k,M1)=>some (.ex x k,M1)
    |_=>none
def sS (n:Nat)(c:E)(b:S):S:=fun env M=>pX c b n env M
theorem SJ (n:Nat)(hp:PassesOwn (model X.prog X.w) X.A X.env X.xe)(hc:ST X Wx c t)(hb:SB X Wx body b):SS X Wx (.While c body [] pos) (sS n t b):=by
  refine fQ (zbn hp hc hb) ?_;rintro D st H ⟨P0,H0,P,Os,env,M,out,M',k,e,q⟩;refine⟨fun m σ H1=>∃P1 Os1 M1 env1,Lt P H P1 H1/\Ok X.K X.mg P0 H0 P1 Os1 H1 M1 σ env1/\pX t b m env1 M1=some (out,M'),⟨n,P,Os,M,env,Lt.refl _ _,k,e⟩,?_⟩;rintro m σ H1 ⟨P1,Os1,M1,env1,lt,k1,e1⟩
  cases m with
  |zero=>cases e1
  |succ m=>
    simp only[pX]at e1;split at e1
    · rename_i M2 ec;refine fX k1 ec ⟨true,rfl,fun P2 H2 l2 h2=>?_⟩;dsimp only;rw[xac rfl];have k2:=k1.next l2 h2
      have lt2:=lt.trans (l2.lt k1.hk);refine⟨fun σ' H'=>∃P1 Os1 M1 env1,Lt P H P1 H'/\Ok X.K X.mg P0 H0 P1 Os1 H' M1 σ' env1/\pX t b m env1 M1=some (out,M'),fun σ' H' z=>⟨m,xbg m,z⟩,?_⟩;split at e1
      · rename_i e' M3 eb;exact⟨P0,H0,P2,Os1,env1,M2,_,_,k2,eb,fun P' Os2 H2 st2 l2 k3=>⟨P',Os2,_,e',lt2.trans l2,k3,e1⟩⟩
      · rename_i e' M3 eb;exact⟨P0,H0,P2,Os1,env1,M2,_,_,k2,eb,fun P' Os2 H2 st2 l2 k3=>⟨P',Os2,_,e',lt2.trans l2,k3,e1⟩⟩
      · rename_i e' M3 eb;cases e1;exact⟨P0,H0,P2,Os1,env1,M2,_,_,k2,eb,fun P' Os2 H2 st2 l2 k3=>q P' Os2 H2 st2 (lt2.trans l2) k3⟩
      · rename_i d M3 eb;cases e1;exact⟨P0,H0,P2,Os1,env1,M2,_,_,k2,eb,q⟩
      · rename_i x k' M3 eb;cases e1;exact⟨P0,H0,P2,Os1,env1,M2,_,_,k2,eb,q⟩
      · cases e1
    · rename_i M2 ec;cases e1;refine fX k1 ec ⟨false,rfl,fun P2 H2 l2 h2=>?_⟩;dsimp only;rw[xad (by decide)];exact q P2 Os1 H2 σ (lt.trans (l2.lt k1.hk)) (k1.next l2 h2)
    · rename_i x k' M2 ec;cases e1;exact fX k1 ec q
    · cases e1
noncomputable def rH:List Nat->List D->Env->Option Env
 | [],[],env=>some env
 |i::is,d::ds,env=>if i<env.length then rH is ds (env.set i (.val d)) else none
 |_,_,_=>none
def SG (X:Cx)(ts:List Expr)(is:List Nat):Prop:=∃t,yN X ts t/\∀P0 H0 P Os st H M env env' ds vs Q,Ok X.K X.mg P0 H0 P Os H M st env->aA X.K P H ds vs->rH is ds env=some env'->(∀Os' st',Ok X.K X.mg P0 H0 P Os' H M st' env'->Q st' H)->t vs st H Q
theorem zcD : SG X [] [] := ⟨_,Qz,fun P0 H0 P Os st H M env env' ds vs Q k is e q=>by
 cases ds with
 |nil=>cases e;exact⟨is,q _ _ k⟩
 |cons d ds=>cases e⟩
theorem KC (hN:X.N.Nodup)(hi:X.N[i]? =some x)(hx:Loc X.env.scope x)(hr:SG X ts is)(hf:X.fn x=true\/X.env.scope.names.lookup x=some .local:=by first |exact .inl rfl |exact .inr rfl)
    (hs:(assignEach (.Name x p::ts) X.env).map (·.2)=assign (.Name x p) X.env::(assignEach ts X.env).map (·.2):=by rfl):SG X (.Name x p::ts) (i::is):=by
  obtain⟨t,h1,h2⟩:=hr;refine⟨_,Jz (yu hN hi hx hf) h1 hs,fun P0 H0 P Os st H M env env' ds vs Q k is e q=>?_⟩
  cases ds with
  |nil=>cases e
  |cons d ds=>
    obtain⟨v,r,rfl,iv,is⟩:=is;simp only[rH]at e;split at e
    · rename_i hl;exact⟨v,r,rfl,h2 _ _ _ _ _ _ _ _ _ _ _ _ (k.asg hl iv) is e q⟩
    · cases e
noncomputable def setAt (M:Mm) (d y x:D):Option Mm:=match d with
  | .ref j => (match y with
    | .int i => (match M[j]? with
      | some (.lst ds) => (match mL ds.length i with
        |some n=>some (M.set j (.lst (ds.set n x)))
        |none=>none)
      |_=>none)
    |_=>none)
  |_=>none
theorem zaM (h:setAt M d y x=some M'):∃j i ds n,d=.ref j/\y=.int i/\M[j]? =some (.lst ds)/\mL ds.length i=some n/\M'=M.set j (.lst (ds.set n x)):=by
 unfold setAt at h;split at h
 ·split at h
  ·split at h
   ·rename_i em;split at h
    ·rename_i en;cases h;exact⟨_,_,_,_,rfl,rfl,em,en,rfl⟩
    ·cases h
   ·cases h
  ·cases h
 ·cases h
noncomputable def wU (f g v:E):S:=fun env M=>bC (v env M) fun x M1=>bC (f env M1) fun d M2=>bC (g env M2) fun y M3=>match setAt M3 d y x with
 |some M4=>some (.nx env,M4)
 |none=>none
theorem zbh (ho:SE X Wx .val o f)(hi:SE X Wx .val i g)(he:SE X Wx .val e v)
  (ha : ∀ v, assign (.Subscript o i pos') X.env v = (do
   let ov <-holding [v] (eval o X.env)
   let iv <-holding [v,ov] (eval i X.env)
   standAt pos'
   holding [v,ov,iv] (setItem ov iv v)
   release [v,ov,iv] []):=by intro _;rfl)
  (hs:swapsWithSole [.Subscript o i pos'] e pos.line X.env=pure false:=by rfl) (hw:swappedStores [.Subscript o i pos'] e X.env=pure none:=by rfl) (h1:(assignEach [.Subscript o i pos'] X.env).map (·.2)=[assign (.Subscript o i pos') X.env]:=by rfl):
  SS X Wx (.Assign [.Subscript o i pos'] e pos) (wU f g v):=by
 refine fQ (zdl he (Z7 ho hi set_list ha) hs hw h1) ?_;rintro D st H ⟨P0,H0,P,Os,env,M,out,M',k,e,q⟩;unfold wU at e;rcases eE e with⟨x,M1,e1,e⟩ |⟨c,n,e1,rfl⟩
 ·refine aQ k e1 fun P1 v1 H1 l1 h1 i1=>?_;have k1:=k.next l1 h1
  rcases eE e with⟨d,M2,e2,e⟩ |⟨c,n,e2,rfl⟩
  ·refine aQ k1 e2 fun P2 v2 H2 l2 h2 i2=>?_;have k2:=k1.next l2 h2
   rcases eE e with⟨y,M3,e3,e⟩ |⟨c,n,e3,rfl⟩
   ·refine aQ k2 e3 fun P3 v3 H3 l3 h3 i3=>?_;split at e
    ·rename_i M4 ea;cases e;obtain⟨j,i,ds,n,rfl,rfl,em,en,rfl⟩:=zaM ea;cases i3;obtain⟨jl,rfl⟩:j<P2.n/\v2=.ref (P2.io j):=i2;obtain⟨vs,ev,is⟩:=h3.cell j _ em;have jl3:j<P3.n:=xap jl l3.n;have eio:P3.io j=P2.io j:=l3.io j jl;have ix:=Is.lt ((l2.lt h1).trans (l3.lt h2)) i1;have lc:Lt P3 H3 P3 (upd H3 (P3.io j) (.lst (vs.set n v1))):=mR (h3.bd j jl3) ev Ea;obtain⟨l4,l4e,h4⟩:=h3.set (c':=.lst (ds.set n x)) (o':=.lst (vs.set n v1)) em ⟨_,bJ,aA.set n (aA.lt lc is) (Is.lt lc ix)⟩;rw[eio]at l4 l4e h4 ev;refine⟨_,vs,i,n,rfl,rfl,ev,by rw[is.len];exact en,?_⟩;exact q _ _ _ _ ((l1.lt k.hk).trans ((l2.lt h1).trans ((l3.lt h2).trans l4))) ((k2.next l3 h3).next l4e h4)
    ·cases e
   ·exact aQ k2 e3 q
  ·exact aQ k1 e2 q
 ·exact aQ k e1 q
end
end E3
namespace E3
open PySem L2
section
variable {env:Env}{M M1 M2:Mm}{f g o v:E}{d e x:D}{i:Int}{k:Nat}{ds es:List D}{s t:S}{z:Str}{fa:EA}{b:Bool}
noncomputable def Hs:Option (List D×Mm)->O
 |some (ys,M)=>some (.v (.lst ys),M)
 |none=>none
noncomputable def Nk (q e:E) (env:Env):Option (ResA×Mm)->O
 |some (.v ds,M1)=>Hs (fu q e env ds [] M1)
 |some (.x c n,M1)=>some (.x c n,M1)
 |none=>none
theorem QT {cs:List (Str×Nat)}{q e:E}:gH cs fa q e env M=Nk q e (bL cs env) (fa env M):=rfl
theorem QW {q e:E}:Nk q e env (some (.v ds,M))=Hs (fu q e env ds [] M):=rfl
theorem QX:Hs (some (ds,M))=some (.v (.lst ds),M):=rfl
theorem Ht {q e : E} (F : D -> Option D) : ∀ (ds acc : List D), (∀d∈ds,match F d with
    |some y=>q (.val d::env) M=some (.v (.bl true),M)/\e (.val d::env) M=some (.v y,M)
    |none=>q (.val d::env) M=some (.v (.bl false),M))->acc.length + ds.length<sizeLine->fu q e env ds acc M=some (acc ++ ds.filterMap F,M)
  | [],acc,_,_=>by simp[fu]
  |d::ds,acc,h,hl=>by
    have hd:=h d (by simp);have hr:∀acc',acc'.length + ds.length<sizeLine->fu q e env ds acc' M=some (acc' ++ ds.filterMap F,M):=fun acc' hl'=>Ht F ds acc' (fun d' hd'=>h d' (by simp[hd'])) hl';rw[xav]at hl
    cases hF:F d with
    |none=>
      rw[hF]at hd;simp only[fu,hd,xcu,hF];exact hr acc (by lia)
    |some y=>
      rw[hF]at hd;simp only[fu,hd.1,hd.2,xcu,hF];rw[xac (by lia),hr (acc ++ [y]) (by rw[xam,xaF];lia)]
      simp
theorem comp_map {e:E}(F:D->D)(ds:List D)(h:∀d∈ds,e (.val d::env) M=some (.v (F d),M))(hl:ds.length<sizeLine):fu (ak (.bl true)) e env ds [] M=some (ds.map F,M):=by
 rw[Ht (fun d=>some (F d)) ds [] (fun d hd=>⟨rfl,h d hd⟩) (by simpa using hl),List.filterMap_eq_map'];rfl
theorem zdb:bL [] env=[]:=rfl
theorem zdC {x:Str}{n:Nat}{cs:List (Str×Nat)}:bL ((x,n)::cs) env=(env[n]?).getD .un::bL cs env:=rfl
noncomputable def i_ (tb:String->String->Option Bool) (T:String) (M:Mm) (ty:String):O:=if ty="" then none else(tb ty T).map fun b=>(.v (.bl b),M)
noncomputable def zR (tb:String->String->Option Bool) (T:String) (r:O):O:=bnd r fun d M=>i_ tb T M (dX M d)
theorem zdO {tb:String->String->Option Bool}{T:String}:d8 tb T f env M=zR tb T (f env M):=rfl
theorem zem {tb:String->String->Option Bool}{T:String}:zR tb T (some (.v d,M))=i_ tb T M (dX M d):=rfl
theorem ty_int:dX M (.int i)="int":=rfl
theorem zcV:dX M (.tup ds)="tuple":=rfl
theorem zcI:dX M (.lst ds)="list":=rfl
theorem zb4 (h:M[k]? =some (.lst ds)):dX M (.ref k)="list":=by unfold dX;simp only[h]
theorem zeq {tb:String->String->Option Bool}{T ty:String}(h:ty≠"":=by decide):i_ tb T M ty=(tb ty T).map fun b=>(.v (.bl b),M):=xad h
theorem zd2 {tb:String->String->Option Bool}{T:String}:i_ tb T M "int"=(tb "int" T).map fun b=>(.v (.bl b),M):=rfl
theorem zdK {tb:String->String->Option Bool}{T:String}:i_ tb T M "tuple"=(tb "tuple" T).map fun b=>(.v (.bl b),M):=rfl
theorem zen {tb:String->String->Option Bool}{T:String}:i_ tb T M "list"=(tb "list" T).map fun b=>(.v (.bl b),M):=rfl
theorem L_ {c:E}{b:S}(Q:OS->Prop)(J:Nat->Env->Mm->Prop){n:Nat}(h0:∃m,m<n/\J m env M)
    (hs:∀m env M,J m env M->∃y M1,c env M=some (.v (.bl y),M1)/\if y=true then Step (fun e M=>∃m',m'<m/\J m' e M) Q (b env M1) else Q (some (.nx env,M1))):Q (sS n c b env M):=by
  have key:∀(n m:Nat) (env:Env) (M:Mm),m<n->J m env M->Q (pX c b n env M):=by
    intro n
    induction n with
    |zero=>intro m env M h;exact absurd h (xcC _)
    |succ n ih=>
      intro m env M hm hJ;obtain⟨y,M1,h1,h2⟩:=hs m env M hJ
      cases y with
      |false=>simp only[pX,h1];exact h2
      |true=>
        simp only[pX,h1];rw[xac rfl]at h2
        cases eb:b env M1 with
        |none=>rw[eb]at h2;exact h2.elim
        |some o=>
          rw[eb]at h2;obtain⟨o,M'⟩:=o
          cases o with
          |nx e'=>obtain⟨m',h3,h4⟩:=h2;exact ih m' e' M' (by lia) h4
          |ct e'=>obtain⟨m',h3,h4⟩:=h2;exact ih m' e' M' (by lia) h4
          |bk e'=>exact h2
          |rt d=>exact h2
          |ex c n=>exact h2
  obtain⟨m,h1,h2⟩:=h0;exact key n m env M h1 h2
theorem Ww {M3:Mm}{j:Nat}(h0:v env M=some (.v x,M1))(h1:f env M1=some (.v (.ref k),M2))(h2:g env M2=some (.v (.int i),M3))(h3:M3[k]? =some (.lst ds))(h4:mL ds.length i=some j):wU f g v env M=some (.nx env,M3.set k (.lst (ds.set j x))):=by
 simp only[wU,bC,setAt,h0,h1,h2,h3,h4]
end
end E3
namespace L2
open PySem PySem.Spec PyProof.Rows
end L2
namespace E3
open PySem PySem.Spec PyProof.Rows L2
section
variable {es:List Expr}{env:PySem.Env}{pos:Pos}
theorem cF:starEach (.Constant c k pos::es) env=(false,eval (.Constant c k pos) env)::starEach es env:=by rfl
theorem aP:starEach (.Name x pos::es) env=(false,eval (.Name x pos) env)::starEach es env:=by rfl
theorem lN:starEach (.BinOp a o b pos::es) env=(false,eval (.BinOp a o b pos) env)::starEach es env:=by rfl
theorem w5:starEach (.Call f as ks pos::es) env=(false,eval (.Call f as ks pos) env)::starEach es env:=by rfl
theorem Bx:starEach (.Attribute a x pos::es) env=(false,eval (.Attribute a x pos) env)::starEach es env:=by rfl
theorem cG:starEach (.Subscript a b pos::es) env=(false,eval (.Subscript a b pos) env)::starEach es env:=by rfl
theorem tQ:starEach (.Tuple as k pos::es) env=(false,eval (.Tuple as k pos) env)::starEach es env:=by rfl
theorem zcb:starEach (.List as pos::es) env=(false,eval (.List as pos) env)::starEach es env:=by rfl
theorem SM:starEach (.ListComp a gs sc pos::es) env=(false,eval (.ListComp a gs sc pos) env)::starEach es env:=by rfl
end
end E3
namespace L2
open PySem PySem.Spec PyProof.Rows
end L2
namespace E3
open PySem PySem.Spec PyProof.Rows L2
structure XPass (X:Cx)(Wx:XW):Prop where
 xc:∀pins σ H s a C dx T c n P0 H0 P M,Caught X pins σ H s a C dx T->LtE P0 H0 P H->Hk X.K X.mg P H M->X.mg c=some (.ref C)->XN H n dx->Wx P0 H0 M c n->X.xe (.ref a) s
section
variable {K:Fgx}{P:Pl}{H:Hp}
noncomputable def pP:List D->Option (List Int)
 | []=>some []
 |.int i::ds=>(pP ds).map (i:: ·)
 |_::_=>none
theorem Dr:∀{ds:List D} {is:List Int} {vs:List V},pP ds=some is->aA K P H ds vs->vs=is.map V.int
  | [],_,_,e,h=>by cases e;exact h
  |d::ds,is,vs,e,h=>by
    obtain⟨v,r,rfl,i,h⟩:=h
    cases d with
    |int n=>
      simp only[pP,xah]at e;obtain⟨is',e',rfl⟩:=e;cases i;rw[Dr e' h];rfl
    |_=>simp[pP]at e
theorem ints_map:∀(is:List Int),pP (is.map D.int)=some is
 | []=>rfl
 |i::is=>by simp[pP,ints_map is]
noncomputable def u_:List D->Option (List Bool)
 | []=>some []
 |.bl b::ds=>(u_ ds).map (b:: ·)
 |_::_=>none
theorem MF:∀{ds:List D} {bs:List Bool} {vs:List V},u_ ds=some bs->aA K P H ds vs->vs=bs.map V.bl
  | [],_,_,e,h=>by cases e;exact h
  |d::ds,bs,vs,e,h=>by
    obtain⟨v,r,rfl,i,h⟩:=h
    cases d with
    |bl n=>
      simp only[u_,xah]at e;obtain⟨bs',e',rfl⟩:=e;cases i;rw[MF e' h];rfl
    |_=>simp[u_]at e
noncomputable def w6:List D->Option (List Str)
 | []=>some []
 |.str z::ds=>(w6 ds).map (z:: ·)
 |_::_=>none
theorem S7:∀{ds:List D} {zs:List Str} {vs:List V},w6 ds=some zs->aA K P H ds vs->vs=zs.map V.str
  | [],_,_,e,h=>by cases e;exact h
  |d::ds,zs,vs,e,h=>by
    obtain⟨v,r,rfl,i,h⟩:=h
    cases d with
    |str n=>
      simp only[w6,xah]at e;obtain⟨zs',e',rfl⟩:=e;cases i;rw[S7 e' h];rfl
    |_=>simp[w6]at e
theorem strs_map:∀(zs:List Str),w6 (zs.map D.str)=some zs
 | []=>rfl
 |b::bs=>by simp[w6,strs_map bs]
noncomputable def gA:List D->Option D
 | [.int i]=>if i.natAbs.log2<1920 then some (.str (toString i)) else none
 |_=>none
theorem JM:kZ K (fun xs H Q=>∃i,xs=[.int i]/\i.natAbs.log2<1920/\Q (.str (toString i)) H) gA:=fun P H ds z vs Q h i _ q=>by
 unfold gA at h;split at h
 ·split at h
  ·rename_i hl;obtain⟨v,ws,rfl,p,rfl⟩:=i;cases h;cases p;exact⟨_,rfl,hl,q _ H (Same.refl H) rfl⟩
  ·cases h
 ·cases h
noncomputable def eN:List D->Option D
 | [.str z]=>if z.length<=640 then(intText? z).map .int else none
 |_=>none
theorem QG:kZ K (fun xs H Q=>∃z n,xs=[.str z]/\intText? z=some n/\z.length<=640/\Q (.int n) H) eN:=fun P H ds z vs Q h i _ q=>by
 unfold eN at h;split at h
 ·split at h
  ·rename_i hl;rw[xah]at h;obtain⟨n,en,rfl⟩:=h;obtain⟨v,ws,rfl,p,rfl⟩:=i;cases p;exact⟨_,n,rfl,en,hl,q _ H (Same.refl H) rfl⟩
  ·cases h
 ·cases h
noncomputable def mj:List D->Option D
 | [.lst ds]=>(pP ds).map fun is=>.int is.sum
 |_=>none
theorem zcK:kZ K (fun xs H Q=>∃(p:Addr) (is:List Int),xs=[.ref p]/\bI K H p (is.map V.int)/\Q (.int is.sum) H) mj:=fun P H ds z vs Q h i _ q=>by
 unfold mj at h;split at h
 ·rw[xah]at h;obtain⟨is,ei,rfl⟩:=h;obtain⟨v,ws,rfl,p,rfl⟩:=i;obtain⟨a,us,rfl,r,s⟩:=p;rw[Dr ei s]at r;exact⟨a,is,rfl,r,q _ H (Same.refl H) rfl⟩
 ·cases h
noncomputable def lZ:List D->Option D
 | [.lst ds]=>(u_ ds).map fun bs=>.bl (bs.all id)
 |_=>none
theorem zcN:kZ K (fun xs H Q=>∃(p:Addr) (bs:List Bool),xs=[.ref p]/\bI K H p (bs.map V.bl)/\Q (.bl (bs.all id)) H) lZ:=fun P H ds z vs Q h i _ q=>by
 unfold lZ at h;split at h
 ·rw[xah]at h;obtain⟨is,ei,rfl⟩:=h;obtain⟨v,ws,rfl,p,rfl⟩:=i;obtain⟨a,us,rfl,r,s⟩:=p;rw[MF ei s]at r;exact⟨a,is,rfl,r,q _ H (Same.refl H) rfl⟩
 ·cases h
end
section
variable {X:Cx}{Wx:XW}{m:Mode}{pos:Pos}
def Mi (K:Fgx)(r:V->List V->Hp->VK->Prop)(o:Str->List D->Option D):Prop:=∀(P:Pl) (H:Hp) (y:Str) (ds:List D) (z:D) (vs:List V) (Q:VK),o y ds=some z->nY K P H ds vs->(∀p,H p=none->¬ P.bd p)->(∀u H',Same H H'->Is K P H' z u->Q u H')->r (.str y) vs H Q
noncomputable def Eu (o:Str->List D->Option D) (f:E) (fs:EA):E:=fun env M=>bnd (f env M) fun d M1=>match d with
 |.str y=>cA (fs env M1) fun ds M2=>(o y (ds.map (vw M2))).map fun z=>(.v z,M2)
 |_=>none
theorem zex {a e:Expr}{es:List Expr}{name:Str}{id:String}{r:V->List V->Hp->VK->Prop}{o:Str->List D->Option D}{f:E}{fs:EA}{p:Pos}(slot:PySem.Slot "str" name id)(hty:typeOf (.builtin id)=pure (.type "method_descriptor"))(hm:yL X id r)(po:Mi X.K r o)(ha:SE X Wx .val a f)(hs:SA X Wx .bor (e::es) fs)
  (hbase:attributeBase a name X.env (eval a X.env)=eval a X.env:=by rfl)
  (hfew:((backTo pos (starEach (e::es) X.env)).all (fun x=> !x.1) && (backToKw pos (keywordEach [] X.env)).all (fun x=>x.1.isSome) && decide ((e::es).length + ([]:List Keyword).length + (if ([]:List Keyword).isEmpty then 0 else 1)<30))=true:=by rfl)
  (hline:(p.endLine==pos.line)=true:=by rfl) (hst:starEach (e::es) X.env=(false,eval e X.env)::starEach es X.env:=by rfl) (hplain:(backTo pos (starEach es X.env)).any (·.1)=false:=by rfl):
  SE X Wx m (.Call (.Attribute a name p) (e::es) [] pos) (Eu o f fs):=by
 refine bR (Az PySem.F.plainAttrs_str slot hty hm ha hs hbase hfew hline hst hplain) ?_;rintro st H Q ⟨P0,H0,P,Os,env,M,r,M',k,e,q⟩;unfold Eu at e;rcases bN e with⟨d,M1,e1,e⟩ |⟨c,n,e1,rfl⟩
 ·cases d<;>simp only[reduceCtorEq]at e
  rename_i y;refine aQ k e1 fun P1 v1 H1 l1 h1 i1=>?_;have k1:=k.next l1 h1
  cases i1;refine⟨rfl,?_⟩;rcases mq e with⟨ds,M2,e2,e⟩ |⟨c,n,e2,rfl⟩
  ·rw[xah]at e;obtain⟨z,ez,e⟩:=e;cases e;exact⟨P0,H0,P1,Os,env,M1,_,_,k1,e2,fun P2 vs H2 l2 h2 i2=>po P2 H2 y _ z vs Q ez (cT.w h2 i2) h2.new fun u H' s i=>q P2 u H' (l1.trans (l2.trans (LtE.same s))) (h2.same s) (cB.of (h2.same s) i)⟩
  ·exact⟨P0,H0,P1,Os,env,M1,_,_,k1,e2,q⟩
 ·exact aQ k e1 q
noncomputable def BL (z:Str):List D->Option D
  | [.lst ds]=>match w6 ds with
    |some ys=>if z.length<=16/\(ys.map (·.length)).sum + ys.length<=1048576 then some (.str (Txt.join z ys)) else none
    |none=>none
  |_=>none
theorem zck {K:Fgx}:Mi K (rJoin K) BL:=fun P H y ds z vs Q h i _ q=>by
 unfold BL at h;split at h
 ·split at h
  ·rename_i ys ey;split at h
   ·rename_i hl;cases h;obtain⟨v,ws,rfl,p,rfl⟩:=i;obtain⟨a,us,rfl,r,s⟩:=p;rw[S7 ey s]at r;exact⟨y,a,ys,rfl,rfl,r,hl.1,hl.2,q _ H (Same.refl H) rfl⟩
   ·cases h
  ·cases h
 ·cases h
end
def rm:S:=fun _ _=>none
theorem zby (h:PS X s fun _ _ _=>False):SS X Wx s rm:=fQ h fun D st H ⟨_,_,_,_,_,_,_,_,_,e,_⟩=>by cases e
theorem zbp:PS X s fun _ _ _=>False:=fun pins s σ H D I h=>h.elim
theorem wZ:SS X Wx s rm:=zby zbp
inductive KRows (K:Fgx)(w:World):List (Str×D)->List DictEntry->List (Key×Value)->Prop
 |nil:KRows K w [] [] []
 |cons {z:Str} {d:D} {t:Tok} {u:Value} {v:V} {hs:Int} {tb:List (Str×D)} {es:List DictEntry} {vs:List (Key×Value)}:hs=hashStr w z->RelV v u->(∀P H,Is K P H d v)->KRows K w tb es vs->KRows K w ((z,d)::tb) (⟨hs,.str z t,u⟩::es) ((.inr z,u)::vs)
def KTab (K:Fgx)(w:World)(a:Addr)(tb:List (Str×D)):Prop:=∃o es ep vs,K.lookup a=some o/\o.ExactDict/\o.data=.dict es ep/\KRows K w tb es.toList vs/\(tb.map (·.1)).Nodup/\(a==sysModules)=false
end E3
namespace L2
open PySem PySem.Spec PyProof.Rows
def zeK (h:Heap)(a t:Addr)(i:Int):Prop:=∃o,h.get? a=some o/\o.cls=.type "reversed"/\o.data=.fields #[.ref t,rawInt i]
end L2
namespace E3
open PySem PySem.Spec PyProof.Rows L2
section
variable {X:Cx}{Wx:XW}{m:Mode}{pos:Pos}
theorem O6 {K:Fgx}{a:Addr}{o:Obj}{its:Array Value}{n:Nat}{ds:List D}{vs:List V}(l:K.lookup a=some o)(c:o.cls=.type "tuple")(e:o.data=.seq its n)(z:its.size<=sizeLine)(r:Vals vs its.toList)(i:∀P H,aA K P H ds vs):∀P H,Is K P H (.tup ds) (.ref a):=
 fun P H=>⟨a,vs,rfl,.inr ⟨o,its,n,l,c,e,z,r⟩,i P H⟩
def gP (P:Program)(w:World)(K:Fgx)(mg:Mgx)(base:Heap)(k:Nat)(C:Addr)(m:Str)(n:Nat)(g:G):Prop:=
 ∃f fd ps ds dvs sp,Meth K C m f/\FnOk P w K mg base fY k f fd ps sp/\Binds K fd ps ds/\Vals dvs ds/\∀vs H Q E,nW K mg n g vs H Q E->sp (vs ++ dvs) H Q E
theorem gP.mono {P:Program}{w:World}{K:Fgx}{mg:Mgx}{base:Heap}{j k:Nat}{C:Addr}{m:Str}{n:Nat}{g:G}(a:gP P w K mg base j C m n g)(h:j<=k):gP P w K mg base k C m n g:=by
 obtain⟨f,fd,ps,ds,dvs,sp,h1,h2,h3⟩:=a;exact⟨f,fd,ps,ds,dvs,sp,h1,h2.mono h,h3⟩
structure OwnIs (K:Fgx)(C:Addr):Prop where
 ca:PySem.W.findIn K (.ref C) "__class__"=some (some (.builtin "object.__class__"))
 gt:PySem.W.specialIn K (.builtin "object.__class__") "__get__"=some (some (.builtin "getset_descriptor.__get__"))
 tk:PySem.W.takesIn K (.builtin "object.__class__")=some true
 mr:PySem.W.mroIn K C (.type "object")=some true
 me:PySem.W.kitOne K (.ref C) (.ref C)=some true
end
end E3
namespace E3
open PySem L2
noncomputable def dg (n:Nat):List Nat:=(Nat.toDigits 10 n).map Char.toNat
theorem NK (n:Nat):NumText.AllDigits (dg n):=fun c hc=>by
 obtain⟨d,hd,rfl⟩:=xaj.mp hc;have h:=Nat.isDigit_of_mem_toDigits (by decide) (by decide) hd;simp only[Char.isDigit,xaC,xbp]at h;exact⟨h.1,h.2⟩
theorem NT (n:Nat):dg n≠ []:=fun e=>Nat.toDigits_ne_nil (List.map_eq_nil_iff.mp e)
theorem NP (h1:1<=k)(h:n<10 ^ k):(dg n).length<=k:=by
 rw[dg,xae];exact toDigits_len_pow (by decide) h1 h
noncomputable def lM (i:Int):Str:=Str.ofString (toString i)
theorem Fz (h:0<=i):(lM i).cps.toList=dg i.toNat:=by
 have:=W.KIN.signs_num i.toNat;rw[xeS h]at this;exact this
theorem R6 (h:i<0):(lM i).cps.toList=45::dg i.natAbs:=by
 obtain⟨m,rfl⟩:∃m,i=Int.negSucc m:=by
  cases i with
  |ofNat n=>exact absurd h (by simp)
  |negSucc m=>exact⟨m,rfl⟩
 unfold lM dg;rw[PyProof.Rows.signs_ofString];show List.map Char.toNat ("-" ++ toString (m + 1)).toList=_;rw[String.toList_append,xaM,Nat.toString_eq_ofList_toDigits]
 simp
theorem R5 (h1:1<=k)(h:i.natAbs<10 ^ k):(lM i).length<=k + 1:=by
 show(lM i).cps.size<=k + 1;rw[<-xax]
 by_cases h0:0<=i
 ·rw[Fz h0];have:=NP (n:=i.toNat) h1 (by rw[<-Int.natAbs_of_nonneg h0]at *;simpa using h);lia
 ·rw[R6 (by lia),xav];have:=NP h1 h;lia
theorem WD (h:i.natAbs<10 ^ 600):intText? (lM i)=some i:=by
 have hl:=R5 (by decide) h
 by_cases h0:0<=i
 ·rw[intText_digits (by rw[Fz h0];exact NK _) (by rw[Fz h0];exact NT _) (by lia),Fz h0];have:=W.KIN.val_back i.toNat;unfold dg;rw[this,xeS h0]
 ·rw[intText_neg (R6 (by lia)) (NK _) (NT _) (by lia)];have:=W.KIN.val_back i.natAbs;unfold dg;rw[this];congr 1;lia
noncomputable def cd (s:Str):List Nat:=s.cps.toList
theorem Hq (a b:Str):cd (a ++ b)=cd a ++ cd b:=by
 unfold cd;rw[Str.cps_append,xbo]
theorem su (x:Str):x.length=(cd x).length:=by
 show x.cps.size=x.cps.toList.length
 simp
theorem Xx (h:n<340282366920938463463374607431768211456):n.log2<1920:=by
 by_cases h0:n=0
 ·rw[h0];decide
 ·have:=(Nat.log2_lt h0 (k:=128)).mpr h;lia
section
variable {env:Env}{M M1:Mm}{f g h c:E}{d e:D}{i j:Int}{n k:Nat}{z:Str}{b:Bool}{ds es:List D}{s t:S}{x:Str}{fa:EA}{u:G}
noncomputable def Qh (o:Str->List D->Option D) (q:Mm->Option (ResA×Mm)) (M:Mm):D->O
 |.str y=>pC (o y) (q M)
 |_=>none
theorem Kc {o:Str->List D->Option D}{q:Mm->Option (ResA×Mm)}:Qh o q M (.str z)=pC (o z) (q M):=rfl
theorem JR {o:Str->List D->Option D}:Eu o f fa env M=gB (fun d M1=>Qh o (fa env) M1 d) (f env M):=rfl
theorem Yr {y:Str}:aZ (.str z) (.str y)=if z.length + y.length<=sizeLine then some (.str (z ++ y)) else none:=rfl
theorem Yx:aR (.str z) (.int i)=if z.length<=sizeLine then(cu z.cps.toList i).map fun c=>.str ⟨#[c]⟩ else none:=rfl
theorem Am:gA [.int i]=if i.natAbs.log2<1920 then some (.str (toString i)) else none:=rfl
theorem Ak:eN [.str z]=if z.length<=640 then(intText? z).map .int else none:=rfl
theorem Yu {y:Str}:aG .eq (.str z) (.str y)=some (.bl (decide (z=y))):=by
 unfold aG dw rP;rw[xac (by constructor<;>first |rfl |simp[D.dep])]
 have:(z==y)=decide (z=y):=by rw[xbP];simp
 simp[D.eq,this]
noncomputable def S6 (k:Nat) (t:S) (ds:List D):OS->OS
 |some (.nx e,M1)=>loopS k t ds e M1
 |some (.ct e,M1)=>loopS k t ds e M1
 |some (.bk e,M1)=>some (.nx e,M1)
 |some (.rt d,M1)=>some (.rt d,M1)
 |some (.ex c n,M1)=>some (.ex c n,M1)
 |none=>none
theorem Eo:loopS k t (d::ds) env M=if k<env.length then S6 k t ds (t (env.set k (.val d)) M) else none:=rfl
theorem Q0 {e':Env}:S6 k t ds (some (.nx e',M))=loopS k t ds e' M:=rfl
theorem Uq {α:Type}{xs:List α}{i:Int}(d:α)(h0:0<=i)(h1:i<xs.length):cu xs i=some (xs.getD i.toNat d):=by
 obtain⟨k,rfl⟩:∃k:Nat,i=k:=⟨i.toNat,by lia⟩;have hk:k<xs.length:=by lia
 exact xM (by simp[hk])
theorem at0 {α:Type}{a:α}{xs:List α}:cu (a::xs) 0=some a:=xM (j:=0) rfl
theorem at1 {α:Type}{a b:α}{xs:List α}:cu (a::b::xs) 1=some b:=xM (j:=1) rfl
theorem at2 {α:Type}{a b c:α}{xs:List α}:cu (a::b::c::xs) 2=some c:=xM (j:=2) rfl
theorem Uo {α:Type}{a b c d:α}{xs:List α}:cu (a::b::c::d::xs) 3=some d:=xM (j:=3) rfl
theorem Vm {α β:Type}(f:α->β)(xs:List α)(lo hi:Option Int):dH (xs.map f) lo hi=(dH xs lo hi).map f:=by
 unfold dH;rw[xae, <-List.map_drop, <-List.map_take]
theorem Vl {α:Type}(xs:List α)(lo hi:Option Int):(dH xs lo hi).length<=xs.length:=by
 unfold dH;rw[xbI,xb8];lia
end
end E3
namespace L2
open PySem PySem.Spec PyProof.Rows
end L2
namespace E3
open PySem PySem.Spec PyProof.Rows L2
end E3
namespace L2
open PySem PySem.Spec PyProof.Rows
end L2
namespace E3
open PySem PySem.Spec PyProof.Rows L2
end E3
namespace L2
open PySem PySem.Spec PyProof.Rows
section
variable {X:Cx}{pins:Pnx}{σ:St}{H:Hp}{s:Shared}{a:Addr}{u u':HO}
theorem Inv.swap (I:Inv X pins σ H s)(ha:H a=some u)(h1:∀xs,u≠ .tup xs)(h2:∀b,u≠ .own b)(h3:∀ps,u≠ .tbl ps)(hf:∀o v,X.H₀ a≠some (.frz o v))(hcl:∀v,¬ s.heap.IsCell a v)
  (ok:cH X.prog X.w (upd H a u') s.heap a u'):Inv X pins σ (upd H a u') s:=by
 have ne:∀b,H b=none->b≠a:=fun b e z=>by rw[z,ha]at e;cases e
 refine⟨I.ok,I.os,I.bare,?_,I.loc,I.cell,?_,?_,?_,?_,I.len⟩
 ·refine⟨I.base.keep,I.base.slot,fun b o e1 e2 e3=>?_,I.base.there,fun b xs e=>?_,fun b o v e=>?_,fun b ps e=>?_⟩
  ·have:=I.base.free b o e1 e2 e3;rw[aW (ne b this)];exact this
  ·have:=I.base.tups b xs e
   by_cases z:b=a
   ·rw[z,ha]at this;cases this;exact absurd rfl (h1 xs)
   ·rw[aW z];exact this
  ·have:=I.base.frzs b o v e
   by_cases z:b=a
   ·rw[z]at e;exact absurd e (hf o v)
   ·rw[aW z];exact this
  ·obtain⟨more,this⟩:=I.base.tbls b ps e
   by_cases z:b=a
   ·rw[z,ha]at this;cases this;exact absurd rfl (h3 _)
   ·exact⟨more,by rw[aW z];exact this⟩
 ·rw[aW (ne _ I.free)];exact I.free
 ·intro x c e;rcases I.freeC x c e with this |⟨fn,o,u,this⟩
  ·exact .inl (by rw[aW (ne _ this)];exact this)
  ·refine .inr ⟨fn,o,u,?_⟩;rw[aW]
   ·exact this
   ·intro z;obtain⟨v,oc,ho,hd⟩:=I.cell x c e;exact hcl v ⟨oc,z ▸ ho,hd⟩
 ·intro p hp;obtain⟨q1,q2,q3⟩:=I.pin p hp;exact⟨q1,by rw[aW (ne _ q2)];exact q2,q3⟩
 ·intro b o e
  by_cases z:b=a
  ·rw[z]at e ⊢;rw[bJ]at e;cases e;exact ok
  ·rw[aW z]at e;refine(I.hok b o e).stay (fun c v _ q=>q) (fun c q=>?_) (fun c xs q=>?_)
   ·by_cases y:c=a
    ·rw[y,ha]at q;cases q;exact absurd rfl (h2 _)
    ·rw[aW y];exact q
   ·by_cases y:c=a
    ·rw[y,ha]at q;cases q;exact absurd rfl (h1 _)
    ·rw[aW y];exact q
end
end L2
namespace E3
open PySem PySem.Spec PyProof.Rows L2
section
variable {X:Cx}{Wx:XW}{pos:Pos}
noncomputable def xq (is:List Nat) (d:D) (env:Env):Option Env:=match d with
 |.tup es=>if es.length=is.length then rH is es env else none
 |_=>none
end
section
variable {X:Cx}{Wx:XW}{m:Mode}{pos:Pos}{K:Fgx}
noncomputable def KJ (d:D) (lo hi:Option Int):Option D:=match d with
 |.tup ds=>if HT.bf ds.length 0 lo=0/\HT.bf ds.length ds.length hi=ds.length then none else some (.tup (dH ds lo hi))
 |_=>none
noncomputable def kI (f:E) (l h:Env->Mm->Option (Option Int×Mm)):E:=fun env M=>bnd (f env M) fun d M1=>match l env M1 with
  | some (lo, M2) => (match h env M2 with
    |some (hi,M3)=>(KJ d lo hi).map fun z=>(.v z,M3)
    |none=>none)
  |none=>none
theorem R3 {e:Expr}{lo hi:Option Expr}{p2:Pos}{f:E}{l h:Env->Mm->Option (Option Int×Mm)}(he:SE X Wx .val e f)(hl:xK X lo l)(hh:xK X hi h):SE X Wx m (.Subscript e (.Slice lo hi none p2) pos) (kI f l h):=by
 refine bR (Qw zdv he hl hh) ?_;rintro st H Q ⟨P0,H0,P,Os,env,M,r,M',k,e,q⟩;unfold kI at e;rcases bN e with⟨d,M1,e1,e⟩ |⟨c,n,e1,rfl⟩
 ·split at e
  ·rename_i lo' M2 el;split at e
   ·rename_i hi' M3 eh;rw[xah]at e;obtain⟨z,ez,e⟩:=e;cases e;refine⟨P0,H0,P,Os,env,M,_,_,k,e1,fun P1 v1 H1 l1 h1 i1=>⟨P0,H0,P1,Os,env,M1,_,_,k.next l1 h1,el,fun P2 H2 l2 h2=>⟨P0,H0,P2,Os,env,M2,_,_,(k.next l1 h1).next l2 h2,eh,fun P3 H3 l3 h3=>?_⟩⟩⟩
    have i3:=Is.lt (l3.lt h2) (Is.lt (l2.lt h1) i1);have fin:∀u H',Same H3 H'->Is X.K P3 H' z u->Q u H':=fun u H' s i=>q P3 u H' (l1.trans (l2.trans (l3.trans (LtE.same s)))) (h3.same s) (cB.of (h3.same s) i);unfold KJ at ez;split at ez
    ·split at ez
     ·cases ez
     ·rename_i hw;cases ez;obtain⟨a,vs,rfl,r,s⟩:=i3;exact⟨a,vs,rfl,r,by rw[s.len];exact hw,Yd (Nv s) fin⟩
    ·cases ez
   ·cases e
  ·cases e
 ·exact⟨P0,H0,P,Os,env,M,_,_,k,e1,q⟩
theorem aA.rep {P:Pl}{H:Hp}{ds:List D}{vs:List V}(h:aA K P H ds vs):∀n:Nat,aA K P H (List.replicate n ds).flatten (List.replicate n vs).flatten
  |0=>rfl
  |n + 1=>by
    rw[xbR,xbR,xcl,xcl];exact h.append (aA.rep h n)
noncomputable def Ko (f g:E):E:=fun env M=>bnd (f env M) fun d M1=>match d with
  |.lst ds=>bnd (g env M1) fun e M2=>match e with
    |.int i=>if i.natAbs<=100000/\ds.length<=100 then some (.v (.lst (List.replicate i.toNat ds).flatten),M2) else none
    |_=>none
  |_=>none
end
end E3
namespace L2
open PySem PySem.Spec PyProof.Rows
section
variable {X:Cx}
theorem U5:X.calm=true->c7 X (.builtin "max") (fun xs H Q=>∃(p:Addr) (is:List Int),xs=[.ref p]/\0<is.length/\bI X.K H p (is.map V.int)/\∀m,m∈is->(∀a∈is,a<=m)->Q (.int m) H):=by
 intro hc pins s σ H xs us Q I r h;obtain⟨p,is,rfl,hne,hq,q⟩:=h;obtain⟨u,rfl,rx⟩:=vals1 r;cases rx;obtain⟨its,rv,pl,hz⟩:=I.list hq;have hi:=Im rv;have hn:=hi.numsOf;have hlen:=rv.length;rw[xae]at hlen;obtain⟨zs,hzs⟩:=hi.allInts.items;have hl:=pl.isList;have e1:numsOf its.toArray.toList=is:=hn;rw[hzs]at hl e1;have hs:0<zs.size:=by
  have:its.toArray.size=zs.size:=by rw[hzs];simp[intItems]
  rw[xan]at this;lia
 rw[nums_intItems]at e1;refine max_intList (I.ok.hd hc) hl hs fun v h' tk hv hk=>?_;obtain⟨t,rfl⟩:=intItems_at hv;obtain⟨h1,h2⟩:=argBest_gt (numAt zs) (zs.size - 1);refine⟨.int _,H,I.kept hk,⟨t,rfl⟩,q _ ?_ fun a ha=>?_⟩
 ·rw[<-e1,numAt_eq];exact getD_mem (by rw[xae,xax];lia)
 ·rw[<-e1]at ha;obtain⟨j,hj,rfl⟩:=mem_getD ha;rw[xae,xax]at hj;rw[<-numAt_eq];exact h2 j (by lia)
end
end L2
namespace E3
open PySem PySem.Spec PyProof.Rows L2
section
variable {X:Cx}{Wx:XW}{pos:Pos}
noncomputable def cW:List Int->Int
 | []=>0
 | [a]=>a
 |a::b::r=>max a (cW (b::r))
theorem BR:∀{is:List Int} {m:Int},m∈is->(∀a∈is,a<=m)->cW is=m
  | [],_,h,_=>by cases h
  | [a],m,h,_=>by rw[xaB]at h;exact h.symm
  |a::b::r,m,h,g=>by
    have ha:=g a (xaz ..);unfold cW;rcases xaq.mp h with rfl |h
    · have:cW (b::r)<=m:=by
        have hb:∀(l:List Int),l≠ []->(∀a∈l,a<=m)->cW l<=m:=fun l=>by
          induction l with
          |nil=>exact fun z=>absurd rfl z
          |cons c l ih=>
            intro _ g
            cases l with
            |nil=>exact g c (by simp)
            |cons d l=>
              have h1:=g c (by simp);have h2:=ih (by simp) fun a ha=>g a (xal _ ha);unfold cW;lia
        exact hb (b::r) (by simp) fun a ha=>g a (xal _ ha)
      lia
    · have:=BR h fun a ha=>g a (xal _ ha);lia
noncomputable def yV:List D->Option D
  | [.lst ds]=>match pP ds with
    |some is=>if 0<is.length then some (.int (cW is)) else none
    |none=>none
  |_=>none
theorem zbU {K:Fgx}:kZ K (fun xs H Q=>∃(p:Addr) (is:List Int),xs=[.ref p]/\0<is.length/\bI K H p (is.map V.int)/\∀m,m∈is->(∀a∈is,a<=m)->Q (.int m) H) yV:=fun P H ds z vs Q h i _ q=>by
 unfold yV at h;split at h
 ·split at h
  ·rename_i is ei;split at h
   ·rename_i hl;cases h;obtain⟨v,ws,rfl,p,rfl⟩:=i;obtain⟨a,us,rfl,r,s⟩:=p;have eu:=Dr ei s;subst eu;exact⟨a,is,rfl,hl,r,fun m h1 h2=>by rw[<-BR h1 h2];exact q _ H (Same.refl H) rfl⟩
   ·cases h
  ·cases h
 ·cases h
end
end E3
namespace E3
end E3
namespace E3
open PySem PySem.Spec PyProof.Rows L2
mutual
def D.nr:D->Bool
 |.tup xs=>D.nrs xs
 |.lst xs=>D.nrs xs
 |.ref _=>false
 |_=>true
def D.nrs:List D->Bool
 | []=>true
 |a::as=>D.nr a && D.nrs as
end
noncomputable def Pf:Pl:=⟨fun _=>0,0,fun _=>False⟩
section
variable {K:Fgx}{mg:Mgx}{P P':Pl}{H H':Hp}{M:Mm}
mutual
theorem Is.fre:∀{d:D} {v:V},D.nr d=true->Is K P H d v->Is K Pf H d v
 |.non,_,_,h=>h
 |.bl _,_,_,h=>h
 |.int _,_,_,h=>h
 |.str _,_,_,h=>h
 |.tup _,_,n,h=>by obtain⟨a,vs,e,s,q⟩:=h;exact⟨a,vs,e,s,aA.fre n q⟩
 |.lst _,_,n,h=>by obtain⟨a,vs,e,s,q⟩:=h;exact⟨a,vs,e,s.imp (fun z=>⟨fun z=>z,z.2⟩) id,aA.fre n q⟩
 |.ref _,_,n,_=>by cases n
theorem aA.fre:∀{ds:List D} {vs:List V},D.nrs ds=true->aA K P H ds vs->aA K Pf H ds vs
  | [],_,_,h=>h
  |_::_,_,n,h=>by
    obtain⟨v,r,e,p,q⟩:=h;have n:=xdF.mp n;exact⟨v,r,e,Is.fre n.1 p,aA.fre n.2 q⟩
end
mutual
theorem Is.lf_any:∀{d:D} {v:V},D.lf d=true->Is K P H d v->Is K P' H d v
 |.non,_,_,h=>h
 |.bl _,_,_,h=>h
 |.int _,_,_,h=>h
 |.str _,_,_,h=>h
 |.tup _,_,n,h=>by obtain⟨a,vs,e,s,q⟩:=h;exact⟨a,vs,e,s,aA.lf_any n q⟩
 |.lst _,_,n,_=>by cases n
 |.ref _,_,n,_=>by cases n
theorem aA.lf_any:∀{ds:List D} {vs:List V},D.lfs ds=true->aA K P H ds vs->aA K P' H ds vs
  | [],_,_,h=>h
  |_::_,_,n,h=>by
    obtain⟨v,r,e,p,q⟩:=h;have n:=xdF.mp n;exact⟨v,r,e,Is.lf_any n.1 p,aA.lf_any n.2 q⟩
end
end
section
variable {X:Cx}{Wx:XW}{m:Mode}{pos:Pos}
theorem cO (hr:Room k X.A)(h:X.A.units + 60<cLine->SB X Wx ss b):SB X Wx ss b:=h (xbk (xb5 (by decide) _) hr.units)
theorem kO {e:Expr}{es:List Expr}{x:Str}{id:String}{r:List V->Hp->VK->Prop}{o:List D->Option D}{fs:EA}{p:Pos}(hc:c7 X (.builtin id) r)(hg:Gl X x)(hm:X.mg x=none)(hv:bootBuiltins x=some (.builtin id))(po:kZ X.K r o)(ha:SA X Wx .bor (e::es) fs)
  (hn:x≠"__name__":=by x_go) (hdb:(x==("__debug__":Str))=false:=by x_go) (he:starEach (e::es) X.env=(false,eval e X.env)::starEach es X.env:=by rfl) (hpl:(backTo pos (starEach es X.env)).any (·.1)=false:=by rfl):SE X Wx m (.Call (.Name x p) (e::es) [] pos) (sN o fs):=
 RW (fun _ ha=>Ej hc hg hm hv ha hn hdb he hpl) po ha
theorem Bp (hc:c7 X (.type T) r)(hg:Gl X x)(hm:X.mg x=none)(hv:bootBuiltins x=some (.type T))(po:kZ X.K r o)(ha:SA X Wx .bor (e::es) fs)
  (hn:x≠"__name__":=by x_go) (hdb:(x==("__debug__":Str))=false:=by x_go) (he:starEach (e::es) X.env=(false,eval e X.env)::starEach es X.env:=by rfl) (hpl:(backTo pos (starEach es X.env)).any (·.1)=false:=by rfl):SE X Wx m (.Call (.Name x p) (e::es) [] pos) (sN o fs):=
 RW (fun _ ha=>Qt hc hg hm hv ha hn hdb he hpl) po ha
end
section
variable (P:Program)(w:World)(K:Fgx)(mg:Mgx)(base:Heap)(k:Nat)(f:Addr)(N:List Str)(q:Str)(st:Stmt)(b:S)
abbrev RT:Prop:=∀(cdv:Value) (A:Around) (outer:List PySem.Env) (s:Shared) (H:Hp) (E:XK),Room k (A.deeper (envOfC q (aM st) s.heap.objs.size f cdv))->SB (zj P w K mg base N q st f cdv A outer s H E) W0 (bO st) b
end
theorem cP (h1:sc.kind=.function:=by rfl)(h2:sc.isCoroutine=false:=by rfl)(h3:sc.isGenerator=false:=by rfl)(h4:N.Nodup:=by x_go)(h5:N.take P.length=P:=by rfl)
  (h6:∀x∈P,sc.names.lookup x=some .local\/sc.names.lookup x=some .cell:=by x_go) (h7:∀y∈sc.names,y.2≠ .free:=by x_go):FnScope N P sc:=⟨h1,h2,h3,h4,h5,h6,h7⟩
abbrev LV (st:Stmt)(x:Str):Prop:=(aM st).names.lookup x=some .local
abbrev LC (st:Stmt)(x:Str):Prop:=(aM st).names.lookup x=some .cell
structure DefAt (K:Fgx)(mg:Mgx)(x:Str)(st:Stmt)(ps:List Str)(f:Addr)(fd:FuncData):Prop where
 mg:mg x=some (.ref f)
 F:FunD K x x st f fd
 b:Binds K fd ps []
theorem DefAt.ok {P:Program}{w:World}{K:Fgx}{mg:Mgx}{base:Heap}{k:Nat}{x:Str}{st:Stmt}{f:Addr}{fd:FuncData}{N ps:List Str}{b:S}(D:DefAt K mg x st ps f fd)(S:FnScope N ps (aM st))(hr:RT P w K mg base k f N x st b)(hp:ps.length<=N.length:=by decide):bB P w K mg base (k + 1) x ps.length (cg N.length b):=V9 D.F S hp D.mg D.b hr
def bQ (K:Fgx)(x:Str)(st:Stmt):Prop:=∃(f:Addr) (oc kV dc pm cd ct:Value) (od an:Option Addr) (sl:Array (Option Value)),PySem.W.nsIn K mainGlobals x=some (some (.ref f))/\K.lookup f=some ⟨oc,od,.func (PySem.W.fnOf x x (b_ st) (bO st) (aM st) .none kV dc pm an cd ct),sl⟩/\PySem.W.codeIn K cd x=true/\PySem.W.keepIn K (.ref f)=true
theorem bQ.mk {K:Fgx}{x:Str}{st:Stmt}{f:Addr}{oc kV dc pm cd ct:Value}{od an:Option Addr}{sl:Array (Option Value)}(a:PySem.W.nsIn K mainGlobals x=some (some (.ref f)))(l:K.lookup f=some ⟨oc,od,.func (PySem.W.fnOf x x (b_ st) (bO st) (aM st) .none kV dc pm an cd ct),sl⟩)(c:PySem.W.codeIn K cd x=true)(k:PySem.W.keepIn K (.ref f)=true):bQ K x st:=⟨f,oc,kV,dc,pm,cd,ct,od,an,sl,a,l,c,k⟩
theorem bQ.at {K:Fgx}{h:Heap}{mg:Mgx}{x:Str}{st:Stmt}{ps:List Str}(F:bQ K x st)(X:K.In h)(G:h.Ns mainGlobals mg)
  (hb:∀(kV doc pm:Value) (an:Option Addr) (cdv ct:Value) (us:List Value),us.length=ps.length->bindArgs (PySem.W.fnOf x x (b_ st) (bO st) (aM st) .none kV doc pm an cdv ct) ⟨us,[]⟩=pure (ps.zip us)):∃f fd,DefAt K mg x st ps f fd:=by
 obtain⟨f,oc,kV,dc,pm,cd,ct,od,an,sl,a,l,c,k⟩:=F;exact⟨f,_,PySem.W.mg_of X G a,lg l c k,(lq (st:=st) l c k).binds hb⟩
end E3
namespace L2
open PySem PySem.Spec PyProof.Rows
abbrev TH:=Ends->Addr->Addr->Option Addr->St->Hp->Prop
def HB (X:Cx)(hs:List ExceptHandler)(t:TH):Prop:=∀(pins:Pnx) (s:Shared) (σ:St) (H:Hp) (a C:Addr) (dx:Option Addr) (T:Addr) (D:Ends),
 Caught X pins σ H s a C dx T->kY X.K C=true->X.A.handled=none->t D C a dx σ H->wpAny (model X.prog X.w) X.A (handleBy (.ref a) X.env hs) (SP X pins D) X.xe s
end L2
namespace E3
open PySem PySem.Spec PyProof.Rows L2
abbrev HE:=Str->Int->Env->Mm->OS
section
variable {X:Cx}{Wx:XW}{m:Mode}{pos:Pos}
noncomputable def tH (X:Cx) (hh:HE):TH:=fun D C a dx st H=>∃P0 H0 P Os env M c n out M',Ok X.K X.mg P0 H0 P Os H M st env/\X.mg c=some (.ref C)/\Mp X.K X.mg P H none (some (.ref a)) (.exc c n)/\hh c n env M=some (out,M')/\Post X.K X.mg W0 P0 H0 P H M' D out
def Gw (out:Out):Prop:=(∃e,out=.nx e)\/∃d,out=.rt d
structure SH (X:Cx)(hs:List ExceptHandler)(hh:HE):Prop where
 hb:HB X hs (tH X hh)
 ok:∀c n env M out M',hh c n env M=some (out,M')->(∃C,X.mg c=some (.ref C)/\kY X.K C=true)/\Gw out
variable {suite:List Stmt}{b0:Stmt}{cn n:Str}{np hp:Pos}{c:Addr}{i:Nat}{h:S}{hs:List ExceptHandler}{r:HE}{cat:Str->Option Bool}
end
end E3
namespace L2
open PySem PySem.Spec PyProof.Rows
section
variable {X:Cx}{e:Expr}{es:List Expr}{te:TE}{t:TA}{pos:Pos}
open Builtin Builtin.Str in
open Builtin Builtin.Str in
open Builtin Builtin.Str in
end
end L2
namespace E3
open PySem PySem.Spec PyProof.Rows L2
section
variable {X:Cx}{Wx:XW}{m:Mode}
theorem Sv {P:Program}{w:World}{K:Fgx}{mg:Mgx}{base:Heap}{N:List Str}{q:Str}{st:Stmt}{f:Addr}{cdv:Value}{A:Around}{outer:List PySem.Env}{s:Shared}{H:Hp}{E:XK}{i:Nat}{x:Str}{pos:Pos}(hN:N[i]? =some x:=by rfl)(hv:LV st x:=by kernel_rfl)(hd:(x==("__debug__":Str))=false:=by x_go)(hcd:(x==("__classdict__":Str))=false:=by x_go):SE (zj P w K mg base N q st f cdv A outer s H E) Wx m (.Name x pos) (aj i):=Kz hN hv hd hcd
theorem Lv {P:Program}{w:World}{K:Fgx}{mg:Mgx}{base:Heap}{N:List Str}{q:Str}{st:Stmt}{f:Addr}{cdv:Value}{A:Around}{outer:List PySem.Env}{s:Shared}{H:Hp}{E:XK}{x:Str}(hv:LV st x:=by kernel_rfl):Loc (zj P w K mg base N q st f cdv A outer s H E).env.scope x:=.inl hv
theorem Lu {a b:Prop}(h:a:=by kernel_rfl):a\/b:=.inl h
theorem Ei {i:Int}{j pos}:SE X Wx m (.Constant (.int i) j pos) (ak (.int i)):=kW ZL
theorem Es {z:Str}{j pos}:SE X Wx m (.Constant (.str z) j pos) (ak (.str z)):=Kv Z4
theorem Eb {b:Bool}{j pos}:SE X Wx m (.Constant (.bool b) j pos) (ak (.bl b)):=Kq Zy
theorem Ek {a b:Expr}{pos:Pos}{f g:E}(ha:SE X Wx .bor a f)(hb:SE X Wx .bor b g)(hs:Gy b:=by exact fun _ _=>rfl):SE X Wx m (.Subscript a b pos) (s2 aR f g):=zeG W_ zeu ha hb hs
theorem Cm {a b:Expr}{op:CmpOp}{c:Cp}{pos:Pos}{f g:E}(hu:X.A.units + 60<cLine)(ha:SE X Wx .bor a f)(hb:SE X Wx .bor b g)(ho:op=Hu c:=by rfl)(hm:behindInMarks op b=false:=by rfl):SE X Wx m (.Compare a [op] [b] pos) (s2 (aG c) f g):=by subst ho;exact zcJ (Hv hu c) JG ha hb hm
theorem Ct {a b:Expr}{op:CmpOp}{c:Cp}{pos:Pos}{f g:E}(hu:X.A.units + 60<cLine)(ha:SE X Wx .bor a f)(hb:SE X Wx .bor b g)(ho:op=Hu c:=by rfl)(hm:behindInMarks op b=false:=by rfl):ST X Wx (.Compare a [op] [b] pos) (s2 (aG c) f g):=by subst ho;exact S5 (Hv hu c) JG ha hb hm
end
section
variable {P:Program}{w:World}{K:Fgx}{h base:Heap}{mg:Mgx}{k:Nat}{x:Str}{st:Stmt}{N ps:List Str}{b:S}
abbrev HB (x:Str)(st:Stmt)(ps:List Str):Prop:=∀(kV doc pm:Value) (an:Option Addr) (cdv ct:Value) (us:List Value),us.length=ps.length->bindArgs (PySem.W.fnOf x x (b_ st) (bO st) (aM st) .none kV doc pm an cdv ct) ⟨us,[]⟩=pure (ps.zip us)
theorem Ud {a0:Str}(h:∀{kV doc pm:Value} {an:Option Addr} {cdv ct u0:Value},bindArgs (PySem.W.fnOf x x (b_ st) (bO st) (aM st) .none kV doc pm an cdv ct) ⟨[u0],[]⟩=pure [(a0,u0)]):HB x st [a0]:=fun _ _ _ _ _ _ us hl=>match us,hl with | [_],_=>h
theorem Ue {a0 a1:Str}(h:∀{kV doc pm:Value} {an:Option Addr} {cdv ct u0 u1:Value},bindArgs (PySem.W.fnOf x x (b_ st) (bO st) (aM st) .none kV doc pm an cdv ct) ⟨[u0,u1],[]⟩=pure [(a0,u0),(a1,u1)]):HB x st [a0,a1]:=fun _ _ _ _ _ _ us hl=>match us,hl with | [_,_],_=>h
theorem Ug {a0 a1 a2:Str}(h:∀{kV doc pm:Value} {an:Option Addr} {cdv ct u0 u1 u2:Value},bindArgs (PySem.W.fnOf x x (b_ st) (bO st) (aM st) .none kV doc pm an cdv ct) ⟨[u0,u1,u2],[]⟩=pure [(a0,u0),(a1,u1),(a2,u2)]):HB x st [a0,a1,a2]:=fun _ _ _ _ _ _ us hl=>match us,hl with | [_,_,_],_=>h
theorem Uh {a0 a1 a2 a3:Str}(h:∀{kV doc pm:Value} {an:Option Addr} {cdv ct u0 u1 u2 u3:Value},bindArgs (PySem.W.fnOf x x (b_ st) (bO st) (aM st) .none kV doc pm an cdv ct) ⟨[u0,u1,u2,u3],[]⟩=pure [(a0,u0),(a1,u1),(a2,u2),(a3,u3)]):HB x st [a0,a1,a2,a3]:=fun _ _ _ _ _ _ us hl=>match us,hl with | [_,_,_,_],_=>h
theorem Ui {a0 a1 a2 a3 a4:Str}(h:∀{kV doc pm:Value} {an:Option Addr} {cdv ct u0 u1 u2 u3 u4:Value},bindArgs (PySem.W.fnOf x x (b_ st) (bO st) (aM st) .none kV doc pm an cdv ct) ⟨[u0,u1,u2,u3,u4],[]⟩=pure [(a0,u0),(a1,u1),(a2,u2),(a3,u3),(a4,u4)]):HB x st [a0,a1,a2,a3,a4]:=fun _ _ _ _ _ _ us hl=>match us,hl with | [_,_,_,_,_],_=>h
theorem bQ.ok (F:bQ K x st)(X:K.In h)(G:h.Ns mainGlobals mg)(S:FnScope N ps (aM st))(hr:∀f,RT P w K mg base k f N x st b)
  (hb:HB x st ps:=by first |exact Ud rfl |exact Ue rfl |exact Ug rfl |exact Uh rfl |exact Ui rfl) (hp:ps.length<=N.length:=by decide):bB P w K mg base (k + 1) x ps.length (cg N.length b):=by
 obtain⟨f,d,D⟩:=F.at X G hb;exact D.ok S (hr f) hp
theorem bB.up {j n:Nat}{g:G}(a:bB P w K mg base j x n g)(h:j<=k:=by decide):bB P w K mg base k x n g:=a.mono h
theorem rN.up {j n:Nat}{g:G}(a:rN P w K mg base j x n g)(h:j<=k:=by decide):rN P w K mg base k x n g:=a.mono h
theorem m7.up {j n:Nat}{C:Addr}{g:G}(a:m7 P w K mg base j C n g)(h:j<=k:=by decide):m7 P w K mg base k C n g:=a.mono h
theorem cX.up {j n:Nat}{C:Addr}{m:Str}{g:G}(a:cX P w K mg base j C m n g)(h:j<=k:=by decide):cX P w K mg base k C m n g:=a.mono h
theorem fK.up {j n:Nat}{C:Addr}{m:Str}{g:G}(a:fK P w K mg base j C m n g)(h:j<=k:=by decide):fK P w K mg base k C m n g:=a.mono h
theorem fJ.up {j n:Nat}{C:Addr}{g:G}(a:fJ P w K mg base j C n g)(h:j<=k:=by decide):fJ P w K mg base k C n g:=a.mono h
theorem gP.up {j n:Nat}{C:Addr}{m:Str}{g:G}(a:gP P w K mg base j C m n g)(h:j<=k:=by decide):gP P w K mg base k C m n g:=a.mono h
theorem nF {K:Fgx}{t:Addr}{d m s j0 j1 j2}{a b:Str}{i:Int}(l:K.lookup t=some ⟨.type "tuple",d,.seq #[.str a j0,.str b j1,.int i j2] m,s⟩):∀P H,Is K P H (.tup [.str a,.str b,.int i]) (.ref t):=O6 (vs:=[.str a,.str b,.int i]) l rfl rfl (by show 3<=sizeLine;decide) (.cons ⟨_,rfl⟩ (.cons ⟨_,rfl⟩ (.cons ⟨_,rfl⟩ .nil))) (fun _ _=>⟨_,_,rfl,rfl,⟨_,_,rfl,rfl,⟨_,_,rfl,rfl,rfl⟩⟩⟩)
end
section
variable {X:Cx}{Wx:XW}{m:Mode}{pos:Pos}
def wD:Key->D
 |.inl i=>.int i
 |.inr x=>.str x
theorem is_key {K:Fgx}{P:Pl}{H:Hp}(k:Key):Is K P H (wD k) (kV k):=by
 cases k<;>rfl
end
end E3
namespace L2
open PySem PySem.Spec PyProof.Rows
theorem W7:entryFor table "dict_itemiterator.__iter__"=some Builtin.«dict_keyiterator.__iter__» :=
 entryFor_alias (id':="dict_keyiterator.__iter__") (by kernel_rfl) rfl (by x_go) (by kernel_rfl)
theorem W8 {prog:Program}{w:World}{A:Around}{E:Value->Shared->Prop}{s:Shared}{it d:Addr}{i n ep:Nat}{ok ov:Value}{Q:Value->Shared->Prop}(hit:IsItemIter s.heap it d i n ep ok ov)(h:Q (.ref it) s):wpAny (model prog w) A (pyIter (.ref it)) Q E s:=by
 have hT:s.TypeIs (.ref it) "dict_itemiterator":=⟨_,hit,rfl⟩;refine xdk hT xde (xbl xde hT W7 ?_ (PySem.F.args_dict_itemiterator_iter_1 _));exact xab ⟨_,rfl,"dict_itemiterator",_,hT,xa8.lookup,h⟩
end L2
namespace E3
open PySem PySem.Spec PyProof.Rows L2
section
variable {K:Fgx}{mg:Mgx}{P0 P:Pl}{H0 H:Hp}{M:Mm}{Os:List (Option Addr)}{st:L2.St}{env:Env}{d:D}{v:V}
theorem Ok.consV (k:Ok K mg P0 H0 P Os H M st env)(h:Is K P H d v):Ok K mg P0 H0 P (none::Os) H M (some v::st) (.val d::env) where
  hk:=k.hk
  base:=k.base
  b0:=k.b0
  slot:=fun i s e=>by
    cases i with
    |zero=>cases e;exact⟨v,rfl,h⟩
    |succ i=>
      rw[xba]at e ⊢;rw[xba];exact k.slot i s e
  own:=fun a h=>by
    rw[xaq]at h;rcases h with h |h
    · cases h
    · exact k.own a h
  inj:=fun i j a e1 e2=>by
    cases i with
    |zero=>cases e1
    |succ i=>
      cases j with
      |zero=>cases e2
      |succ j=>
        rw[xba]at e1 e2;rw[k.inj _ _ a e1 e2]
  olen:=by rw[xav,xav,k.olen]
  slen:=by rw[xav,xav,k.slen]
end
end E3
namespace L2
open PySem PySem.Spec PyProof.Rows
end L2
namespace E3
open PySem PySem.Spec PyProof.Rows L2
end E3
namespace L2
open PySem PySem.Spec PyProof.Rows
end L2
namespace E3
open PySem PySem.Spec PyProof.Rows L2
section
variable {X:Cx}{Wx:XW}{m:Mode}{pos:Pos}
noncomputable def pG (j:Nat) (e:E) (env:Env):Nat->Nat->List D->Mm->Option (List D×Mm)
  |0,_,_,_=>none
  |n + 1,t,acc,M=>match M[j]? with
    | some (.lst ds) => (match ds[t]? with
      |none=>some (acc,M)
      | some d => (match e (.val d::env) M with
        |some (.v y,M2)=>if acc.length + 1<sizeLine then pG j e env n (t + 1) (acc ++ [y]) M2 else none
        |_=>none))
    |_=>none
noncomputable def nM (n:Nat) (cs:List (Str×Nat)) (f e:E):E:=fun env M=>bnd (f env M) fun d M1=>match d with
  | .ref j => (match pG j e (bL cs env) n 0 [] M1 with
    |some (ys,M2)=>some (.v (.lst ys),M2)
    |none=>none)
  |_=>none
theorem Ve {n:Nat}{cs:List (Str×Nat)}{f e:E}:∀env M r M',nM n cs f e env M=some (.v r,M')->∃ds,r=.lst ds:=fun env M r M' h=>by
 unfold nM at h;rcases bN h with⟨d,M1,e1,h⟩ |⟨c,n,e1,h⟩
 ·split at h
  ·split at h
   ·cases h;exact⟨_,rfl⟩
   ·cases h
  ·cases h
 ·cases h
theorem Vf {K:Fgx}{mg:Mgx}{n:Nat}{cs:List (Str×Nat)}{f e:E}{P0 P:Pl}{H0 H:Hp}{Os:List (Option Addr)}{M M':Mm}{st:L2.St}{env:Env}{r:Res}{R:Addr->Hp->Prop}(nd:(cs.map (·.2)).Nodup)
    (k:Ok K mg P0 H0 P Os H M st env) (ee:nM n cs f e env M=some (r,M')) (w:NR K mg Wx P0 H0 P H M' R r):yG (O1 K (tE K mg Wx .val f)) d9 (tE K mg W0 .val e) cs st H R:=by
  unfold nM at ee;rcases bN ee with⟨d,M1,e1,ee⟩ |⟨c,n,e1,rfl⟩
  · split at ee
    · rename_i j;split at ee
      · rename_i ys M2 ec;cases ee;obtain⟨ds',e',w⟩:=w;cases e';refine⟨P0,H0,P,Os,env,M,_,_,k,e1,fun P1 v1 H1 l1 h1 i1=>?_⟩;obtain⟨jl,rfl⟩:j<P1.n/\v1=.ref (P1.io j):=i1;have hl:∃vs,bI K H1 (P1.io j) vs:=by
          cases n with
          |zero=>cases ec
          |succ n=>
            simp only[pG]at ec;split at ec
            · rename_i ds em;obtain⟨vs,ev,is⟩:=h1.cell j _ em;exact⟨vs,.inl (.inl ev)⟩
            · cases ec
        refine ⟨P1.io j, rfl, hl, fun D hD => ?_⟩;obtain ⟨l2, h2, nc⟩ := pF (vs := []) h1 hD;refine ⟨fun i m vs H2=>∃P2 M3 acc,LtE P1 H1 P2 H2/\Hk K mg P2 H2 M3/\P2.bd D/\(∀k,k<P2.n->P2.io k≠D)/\H2 D=some (.lst vs)/\aA K P2 H2 acc vs/\acc.length<sizeLine/\pG j e (bL cs env) m i acc M3=some (ys,M'),
          ⟨n,P1.bar D,M1,[],l2,h2,.inr rfl,nc,bJ,rfl,by x_go,ec⟩,?_⟩
        rintro i m vs H2 ⟨P2,M3,acc,l3,h3,bD,nD,eD,is,hz,ec⟩;refine⟨eD,?_⟩
        cases m with
        |zero=>cases ec
        |succ m=>
          simp only[pG]at ec;split at ec
          · rename_i ds em;obtain⟨us,ev,iu⟩:=h3.cell j _ em;rw[l3.io j jl]at ev;have sq:bI K H2 (P1.io j) us:=.inl (.inl ev);split at ec
            · rename_i et;cases ec;exact .inl ⟨⟨us,sq,by rw[iu.len];exact xea.mp et⟩,w P2 D vs H2 (l1.trans l3) h3 (l1.sure D hD) bD nD eD is⟩
            · rename_i d et;obtain⟨v,evt,iv⟩:=iu.get et;split at ec
              · rename_i y' M5 ey;split at ec
                · rename_i hz';refine .inr ⟨⟨us,v,sq,evt⟩,by rw[is.len];exact hz,fun vs' H'=>∃P2 M3 acc,LtE P1 H1 P2 H'/\Hk K mg P2 H' M3/\P2.bd D/\(∀k,k<P2.n->P2.io k≠D)/\H' D=some (.lst vs')/\aA K P2 H' acc vs'/\acc.length<sizeLine/\pG j e (bL cs env) m (i + 1) acc M3=some (ys,M'),
                    fun vs' H' z=>⟨m,xbg _,z⟩,fun x' H' y=>?_⟩
                  obtain⟨rfl,hy⟩:=y;have ex':v=x':=xaA (evt.symm.trans (hy us sq));subst ex';have kk:=((k.next l1 h1).next l3 h3).cap (cs:=cs) nd iv
                  unfold d9;dsimp only;rw[xac rfl];refine aQ kk ey fun P5 v5 H5 l5 h5 i5=>?_;have eD5:H5 D=some (.lst vs):=l5.keep D _ eD (.inr nD);have nD5:∀k,k<P5.n->P5.io k≠D:=l5.nc eD nD;obtain⟨g1,g2,g3⟩:=Il (vs':=vs ++ [v5]) (l3.trans l5) h5 hD (l5.bm D bD) nD5 eD5;exact⟨eD5,P5,M5,acc ++ [y'],g2,g3,l5.bm D bD,nD5,bJ,aA.append (aA.lt ((l5.lt h3).trans g1) is) (aA.one (Is.lt g1 i5)),by rw[xam];exact hz',ec⟩
                · cases ec
              · cases ec
          · cases ec
      · cases ee
    · cases ee
  · exact⟨P0,H0,P,Os,env,M,_,_,k,e1,w⟩
theorem za9 (n:Nat)(x:Str)(cs:List (Str×Nat)){px:Pos}{iter elt:Expr}{scope:Scope}{f e:E}(hc:X.calm=true)(nd:(cs.map (·.2)).Nodup)(hi:SE X Wx .val iter f)
  (he:∀(cl:List (Str×Addr)) (C:Addr) (s₀:Shared) (H₀:Hp) (ex:List Addr) (pn:Pnx),SE (cJ X (x::cs.map (·.1)) scope cl C s₀ H₀ ex pn) W0 .val elt e)
  (ok:xP X.N X.env.scope x cs scope=true:=by kernel_rfl) (hs:∀x,foldedSetIterable iter X.env x=pure x:=by intro _;rfl):
  SN X Wx (.ListComp elt [⟨.Name x px,iter,[],0⟩] scope pos) (nM n cs f e):=by
 refine bR (Qu (tq:=d9) (te:=tE X.K X.mg W0 .val e) x cs hc (JC hi) (fun _ _ _ _ _ _=>El) he ok hs) ?_;rintro st H Q ⟨P0,H0,P,Os,env,M,r,M',k,ee,w⟩;refine Vf nd k ee ?_
 cases r with
 |v d=>exact w
 |x c n=>exact w
end
end E3
namespace E3
open PySem L2
section
variable {env:Env}{M M1 M2 M3 M4:Mm}{f g h v:E}{d e x y:D}{i:Int}{n k:Nat}{ds es:List D}{kvs:List (Key×D)}{key:Key}
theorem Np {j:Nat}{e:E}(F:D->D)(hM:M[j]? =some (.lst ds))(he:∀d∈ds,e (.val d::env) M=some (.v (F d),M)):∀(n t:Nat) (acc:List D),ds.length - t<n->t<=ds.length->acc.length + (ds.length - t)<sizeLine->pG j e env n t acc M=some (acc ++ (ds.drop t).map F,M)
  |0,t,acc,h,_,_=>absurd h (xcC _)
  |n + 1,t,acc,h,ht,hl=>by
    by_cases q:t<ds.length
    · simp only[pG,hM,xar q,he _ (xcT q)];rw[xac (by lia),Np F hM he n (t + 1) (acc ++ [F ds[t]]) (by lia) q (by rw[xam,xaF];lia),xaZ q,xak,xaD];rfl
    · simp only[pG,hM,xbV (xbU q)];rw[List.drop_of_length_le (xbU q)]
      simp
theorem Ux {cs:List (Str×Nat)}{j:Nat}{e:E}(F:D->D)(h1:f env M=some (.v (.ref j),M1))(hM:M1[j]? =some (.lst ds))(he:∀d∈ds,e (.val d::bL cs env) M1=some (.v (F d),M1))(hn:ds.length<n)(hl:ds.length<sizeLine):
  nM n cs f e env M=some (.v (.lst (ds.map F)),M1):=by
 simp only[nM,bnd,h1,Np F hM he n 0 [] (by lia) (xa0 _) (by simpa using hl),xdd,xbD]
end
end E3
namespace L2
open PySem PySem.Spec PyProof.Rows
end L2
namespace E3
open PySem PySem.Spec PyProof.Rows L2
end E3
namespace E3
open PySem PySem.Spec PyProof.Rows L2 PySem.W
section
variable {n:Nat}{lt:Nat->Nat->Option Bool}{le:Nat->Nat->Prop}
def Pm (n:Nat)(p:Array Nat):Prop:=p.Perm (List.range n).toArray
theorem OD {p q:Array Nat}{i j:Nat}(h:p[i]? =q[j]?):p.getD i 0=q.getD j 0:=by
 rw[xcc,xcc,h]
theorem zeI {p:Array Nat}{i j:Nat}(hj:j<=p.size)(k:Nat):(kas_rev p i j).getD k 0=if i<=k/\k<j then p.getD (i + j - 1 - k) 0 else p.getD k 0:=by
 have:=getElem?_mirror_all (xs:=p) (i:=i) hj k
 split
 ·rename_i h;rw[xac h]at this;exact OD this
 ·rename_i h;rw[xad h]at this;exact OD this
def Up (le:Nat->Nat->Prop)(p:Array Nat)(m:Nat):Prop:=∀i j,i<=j->j<m->le (p.getD i 0) (p.getD j 0)
def Dn (le:Nat->Nat->Prop)(p:Array Nat)(m:Nat):Prop:=∀i j,i<=j->j<m->le (p.getD j 0) (p.getD i 0)
def Al (le:Nat->Nat->Prop)(p:Array Nat)(m q:Nat):Prop:=∀i j,m - (q + 1)<=i->i<m->m - (q + 1)<=j->j<m->le (p.getD i 0) (p.getD j 0)
variable (hn:0<n)(rf:∀i,le i i)(tr:∀i j k,le i j->le j k->le i k)(H:∀i j,i<n->j<n->∃b,lt i j=some b/\(b=true->le i j)/\(b=false->le j i))
include rf tr
include hn H
end
end E3
namespace L2
open PySem PySem.Spec PyProof.Rows
section
variable {X:Cx}
theorem M6:X.calm=true->c7 X (.builtin "min") (fun xs H Q=>∃(p:Addr) (is:List Int),xs=[.ref p]/\0<is.length/\bI X.K H p (is.map V.int)/\∀m,m∈is->(∀a∈is,m<=a)->Q (.int m) H):=by
 intro hc pins s σ H xs us Q I r h;obtain⟨p,is,rfl,hne,hq,q⟩:=h;obtain⟨u,rfl,rx⟩:=vals1 r;cases rx;obtain⟨its,rv,pl,hz⟩:=I.list hq;have hi:=Im rv;have hn:=hi.numsOf;have hlen:=rv.length;rw[xae]at hlen;obtain⟨zs,hzs⟩:=hi.allInts.items;have hl:=pl.isList;have e1:numsOf its.toArray.toList=is:=hn;rw[hzs]at hl e1;have hs:0<zs.size:=by
  have:its.toArray.size=zs.size:=by rw[hzs];simp[intItems]
  rw[xan]at this;lia
 rw[nums_intItems]at e1;refine min_intList (I.ok.hd hc) hl hs fun v h' tk hv hk=>?_;obtain⟨t,rfl⟩:=intItems_at hv;obtain⟨h1,h2⟩:=argBest_lt (numAt zs) (zs.size - 1);refine⟨.int _,H,I.kept hk,⟨t,rfl⟩,q _ ?_ fun a ha=>?_⟩
 ·rw[<-e1,numAt_eq];exact getD_mem (by rw[xae,xax];lia)
 ·rw[<-e1]at ha;obtain⟨j,hj,rfl⟩:=mem_getD ha;rw[xae,xax]at hj;rw[<-numAt_eq];exact h2 j (by lia)
end
end L2
namespace E3
open PySem PySem.Spec PyProof.Rows L2
noncomputable def dh:List Int->Int
 | []=>0
 | [a]=>a
 |a::b::r=>min a (dh (b::r))
theorem MK {m:Int}:∀(l:List Int),l≠ []->(∀a∈l,m<=a)->m<=dh l
  | [],z,_=>absurd rfl z
  | [c],_,g=>g c (by simp)
  |c::d::l,_,g=>by
    have h1:=g c (by simp);have h2:=MK (d::l) (by simp) fun a ha=>g a (xal _ ha);unfold dh;lia
theorem za:∀{is:List Int} {m:Int},m∈is->(∀a∈is,m<=a)->dh is=m
  | [],_,h,_=>by cases h
  | [a],m,h,_=>by rw[xaB]at h;exact h.symm
  |a::b::r,m,h,g=>by
    have ha:=g a (xaz ..);have hb:=MK (b::r) (by simp) fun a ha=>g a (xal _ ha);unfold dh;rcases xaq.mp h with rfl |h
    · lia
    · have:=za h fun a ha=>g a (xal _ ha);lia
noncomputable def u5:List D->Option D
  | [.lst ds]=>match pP ds with
    |some is=>if 0<is.length then some (.int (dh is)) else none
    |none=>none
  |_=>none
theorem QJ {K:Fgx}:kZ K (fun xs H Q=>∃(p:Addr) (is:List Int),xs=[.ref p]/\0<is.length/\bI K H p (is.map V.int)/\∀m,m∈is->(∀a∈is,m<=a)->Q (.int m) H) u5:=fun P H ds z vs Q h i _ q=>by
 unfold u5 at h;split at h
 ·split at h
  ·rename_i is ei;split at h
   ·rename_i hl;cases h;obtain⟨v,ws,rfl,p,rfl⟩:=i;obtain⟨a,us,rfl,r,s⟩:=p;have eu:=Dr ei s;subst eu;exact⟨a,is,rfl,hl,r,fun m h1 h2=>by rw[<-za h1 h2];exact q _ H (Same.refl H) rfl⟩
   ·cases h
  ·cases h
 ·cases h
section
variable {X:Cx}{Wx:XW}{m:Mode}{pos:Pos}{K:Fgx}
theorem zcf {a b:Expr}{f g:E}(hl:SN X Wx a f)(hr:SE X Wx .val b g):SN X Wx (.BinOp a .Mult b pos) (Ko f g):=by
  refine bR (Qv Zv hl hr) ?_;rintro st H Q ⟨P0,H0,P,Os,env,M,r,M',k,e,q⟩;unfold Ko at e;rcases bN e with⟨d,M1,e1,e⟩ |⟨c,n,e1,rfl⟩
  · split at e
    · rename_i ds;refine⟨P0,H0,P,Os,env,M,_,_,k,e1,ds,rfl,fun P1 a vs H1 l1 h1 ha ba nc ea is=>?_⟩;rcases bN e with⟨d2,M2,e2,e⟩ |⟨c,n,e2,rfl⟩
      · split at e
        · rename_i i;split at e
          · rename_i hi;cases e;obtain⟨ds',e',q⟩:=q;cases e';refine⟨P0,H0,P1,Os,env,M1,_,_,k.next l1 h1,e2,fun P2 v2 H2 l2 h2 i2=>?_⟩
            have ev:v2=.int i:=i2;subst ev;have e3:=l2.keep a _ ea (.inr nc);have is2:=aA.lt (l2.lt h1) is;have ln:vs.length=ds.length:=is.len;refine⟨a,i,vs,rfl,rfl,e3,by lia,by lia,?_,fun p hp=>?_⟩
            · rw[xaO,ln];have:ds.length * i.toNat<=100 * 100000:=Nat.mul_le_mul hi.2 (by lia);lia
            · obtain⟨l3,h3,nc3⟩:=pF (vs:=(List.replicate i.toNat vs).flatten) h2 hp;exact q (P2.bar p) p _ _ (l1.trans (l2.trans l3)) h3 ((l1.trans l2).sure p hp) (.inr rfl) nc3 bJ (aA.lt (l3.lt h2) (is2.rep _))
          · cases e
        · cases e
      · exact⟨P0,H0,P1,Os,env,M1,_,_,k.next l1 h1,e2,q⟩
    · cases e
  · exact⟨P0,H0,P,Os,env,M,_,_,k,e1,q⟩
end
section
variable {X:Cx}{Wx:XW}
def XP (X:Cx)(D:Ends)(f:Flow)(s':Shared):Prop:=match f with
 |.ret u=>∃v H',s'.os=X.s₀.os/\AllBare s'.gens/\Un X.fs [] X.H₀ H' X.s₀.heap s'.heap/\bZ X.prog X.w H' s'.heap/\RelV v u/\D.rt v H'
 |.brk=>∃σ' H',D.bk σ' H'
 |.cont=>∃σ' H',D.ct σ' H'
 |.next=>False
end
def Ub (mg:Mgx)(base:Heap):Prop:=∃bm o,mg "__builtins__"=some (.ref bm)/\bm≠builtinsNs/\bm≠mainGlobals/\base.get? bm=some o/\o.cls=.type "module"/\o.dict=some builtinsNs/\o.data=.plain
structure MkOk (X:Cx)(nm:Str)(i:FnT)(caps:List (Str×Nat))(cl:List (Str×Addr))(c Pt:Addr)(j:Nat):Prop where
 ex:X.ex=[]
 fn:∀x,X.fn x=true
 st:∃params body scope,i.st=.FunctionDef i.x params body [] none [] scope none i.x i.pos/\((params.defaults=[]/\i.dd=[])\/∃n a p,params.defaults=[.Constant (.int n) a p]/\i.dd=[n]/\cl≠ [])/\params.kw_defaults=[]/\params.kwonlyargs=[]/\annTrees params none X.env=[]
 q:qualnameIn X.env i.x i.x=i.q
 code:X.env.code=.ref c
 tab:PySem.W.tabIn X.K nm=some (c,Pt)
 hd:PySem.W.codeHdIn X.K c Pt=true
 bm:Ub X.mg X.base
 clo:closureFor (aM i.st) X.env=pure cl
 nam:cl.map (·.1)=caps.map (·.1)
 Dm:caps.map (·.1)=i.fr
 cel:∀p∈cl,X.env.cells.lookup p.1=some p.2
 cap:∀p∈caps,X.N[p.2]? =some p.1/\X.env.scope.names.lookup p.1=some .cell/\p.2≠j
 nd:X.N.Nodup
 jx:X.N[j]? =some i.x
 jl:X.env.scope.names.lookup i.x=some .local
 db:(i.x==("__debug__":Str))=false
 cd:(i.x==("__classdict__":Str))=false
theorem set_same {α:Type}{l:List α}{k:Nat}{x:α}(h:l[k]? =some x):l.set k x=l:=by
 obtain⟨hl,rfl⟩:=xai.mp h;exact List.set_getElem_self hl
structure FnScopeC (N ps fr:List Str)(sc:Scope):Prop where
 kind:sc.kind=.function
 co:sc.isCoroutine=false
 gen:sc.isGenerator=false
 nd:N.Nodup
 pre:N.take ps.length=ps
 suf:N.drop (N.length - fr.length)=fr
 len:ps.length + fr.length<=N.length
 par:∀x∈ps,sc.names.lookup x=some .local
 fre:∀x∈fr,sc.names.lookup x=some .free
 all:∀y∈sc.names,y.2=.free->y.1∈fr
 noc:∀y∈sc.names,y.2≠ .cell
noncomputable def tV (N:List Str) (vs cvs:List V):L2.St:=vs.map some ++ (List.replicate (N.length - vs.length - cvs.length) none ++ cvs.map some)
noncomputable def pJ (np n:Nat) (ds:List D):Env:=(ds.take np).map .val ++ (List.replicate (n - ds.length) .un ++ (ds.drop np).map .val)
def vo (np n:Nat)(b:S):G:=fun ds M=>cV (b (pJ np n ds) M)
noncomputable def C_ (P:Program) (w:World) (K:Fgx) (mg:Mgx) (base:Heap) (N:List Str) (i:FnT) (f:Addr) (cd:Value) (cl:List (Str×Addr)) (A:Around) (outer:List PySem.Env) (s:Shared) (H:Hp):Cx where
 prog:=P
 w:=w
 K:=K
 mg:=mg
 base:=base
 A:=A.deeper (PySem.W.envX i.q (aM i.st) s.heap.objs.size f cd cl)
 N:=N
 s₀:=s
 H₀:=H
 env:=PySem.W.envX i.q (aM i.st) s.heap.objs.size f cd cl
 outer:=outer
 stack:=PySem.W.envX i.q (aM i.st) s.heap.objs.size f cd cl::outer
 ex:=[]
 calm:=true
 fn:=fun _=>false
 pn:=[]
 xe:=fun _ _=>False
theorem lQ.get {H:Hp}:∀{cl:List (Str×Addr)} {vs:List V} {j:Nat} {p:Str×Addr},lQ H cl vs->cl[j]? =some p->∃v u o,vs[j]? =some v/\RelV v u/\H p.2=some (.frz o (.own p.2))/\o.data=.cell (some u)
  | [],_,_,_,_,e=>by simp at e
  |q::cl,_,0,p,h,e=>by
    obtain⟨v,ws,u,o,e1,r,g,d,_⟩:=h
    simp at e
    subst e e1;exact⟨v,u,o,rfl,r,g,d⟩
  |q::cl,_,j + 1,p,h,e=>by
    obtain⟨v,ws,u,o,e1,_,_,_,h⟩:=h;subst e1;exact lQ.get (j:=j) h (by simpa using e)
theorem lQ.len {H:Hp}:∀{cl:List (Str×Addr)} {vs:List V},lQ H cl vs->vs.length=cl.length
  | [],_,h=>by rw[show _=[] from h];rfl
  |q::cl,_,h=>by
    obtain⟨v,ws,u,o,e1,_,_,_,h⟩:=h;subst e1
    simp[h.len]
theorem nG {β:Type}:∀{l:List (Str×β)} {y:Str} {u:β},(l.map (·.1)).Nodup->(y,u)∈l->l.lookup y=some u
  | [],_,_,_,h=>nomatch h
  |(z,v)::l,y,u,nd,h=>by
    have nd':=xa6.mp nd;rw[xb9];rcases xaq.mp h with hm |hm
    · obtain⟨rfl,rfl⟩:=Prod.mk.inj hm;rw[xbJ]
    · have:(y==z)=false:=by
        rw[xbh];exact fun z'=>nd'.1 (xaj.mpr ⟨_,hm,z'⟩)
      rw[this];exact nG nd'.2 hm
theorem Ua {α β:Type}:∀{l:List α} {m:List β},l.length=m.length->(l.zip m).map (·.1)=l
  | [],[],_=>rfl
  | [],_::_,h=>by simp at h
  |_::_,[],h=>by simp at h
  |a::l,b::m,h=>by
    rw[xdU,xak,Ua (by simpa using h)]
theorem zip_get {α β:Type}:∀{l:List α} {m:List β} {i:Nat} {a:α} {b:β},l[i]? =some a->m[i]? =some b->(a,b)∈l.zip m
  | [],_,_,_,_,h,_=>by simp at h
  |_::_,[],_,_,_,_,h=>by simp at h
  |a::l,b::m,0,_,_,h1,h2=>by
    simp at h1 h2
    subst h1 h2
    simp
  |a::l,b::m,i + 1,_,_,h1,h2=>by
    rw[xdU];exact xal _ (zip_get (i:=i) (by simpa using h1) (by simpa using h2))
section
variable {P:Program}{w:World}{K:Fgx}{mg:Mgx}{base:Heap}{k:Nat}{i:FnT}{N ps:List Str}{b:S}
theorem WQ {fr:List Str}{f:Addr}{cd:Value}{cl:List (Str×Addr)}{A:Around}{outer:List PySem.Env}{s:Shared}{H:Hp}{us:List Value}{vs cvs:List V}{h':Heap}{tk:Nat}(S:FnScopeC N ps fr (aM i.st))(hd:A.handled=none)(e0:Env0 P w K mg base A outer s H)
    (hl:vs.length=ps.length) (r:Vals vs us) (hfr:cl.map (·.1)=fr) (hc:lQ H cl cvs) (hi:∀x y a,cl.lookup x=some a->cl.lookup y=some a->x=y)
    (hns:h'.Ns s.heap.objs.size (fun x=>(ps.zip us).reverse.lookup x)) (hk:∀b o,s.heap.get? b=some o->h'.get? b=some o):
    Inv (C_ P w K mg base N i f cd cl A outer s H) [] (tV N vs cvs) H {s with heap:=h',toks:=tk}:=by
  have noA:∀b:Addr,b∉(C_ P w K mg base N i f cd cl A outer s H).ex:=fun b z=>absurd (show b∈([]:List Addr) from z) (by simp);have ndf:(cl.map (·.1)).Nodup:=by rw[hfr, <-S.suf];exact S.nd.sublist (List.drop_sublist _ _)
  have cll:cvs.length=fr.length:=by rw[hc.len, <-hfr,xae]
  have S_len:=S.len;have cellAt:∀y c,cl.lookup y=some c->∃u o,H c=some (.frz o (.own c))/\o.data=.cell (some u)/\h'.get? c=some o:=fun y c e=>by
    obtain⟨j,hj⟩:=List.getElem?_of_mem (xbC e);obtain⟨v,u,o,_,_,g,d⟩:=hc.get hj;exact⟨u,o,g,d,hk _ _ (e0.hok _ _ g).1⟩
  have ulen:us.length=ps.length:=by rw[<-r.length];exact hl
  have ndP:ps.Nodup:=by rw[<-S.pre];exact S.nd.sublist (xe2 _ _)
  refine ⟨⟨e0.mod,S.kind,rfl,rfl,xaf _,hi,fun y hy=>?_,(fun y c z=>nomatch z),fun _=>hd,Around.frames_deeper e0.frames,.inr ⟨rfl,rfl⟩,fun b z=>absurd z (noA b),e0.bs,e0.bsz,fun b _ _=>noA b,fun b z=>absurd z (noA b),e0.funs,e0.frf⟩,
    rfl,e0.bare,Un.kept hk,⟨_,hns,fun n y v h1 h2 h3=>?_⟩,fun y c h=>?_,e0.hok.fresh (xaf _),fun y c h=>?_,fun p hp=>absurd (show p∈([]:Pnx) from hp) (by simp),e0.hok.kept hk,?_⟩
  · have hy:(aM i.st).names.lookup y=some .cell\/(aM i.st).names.lookup y=some .free:=hy;rcases hy with hy |hy
    · exact absurd rfl (S.noc _ (xbC hy))
    · have:y∈cl.map (·.1):=by rw[hfr];exact S.all _ (xbC hy) rfl
      obtain⟨p,hp,rfl⟩:=xaj.mp this;exact⟨p.2,nG ndf hp⟩
  · unfold tV at h2
    by_cases hn:n<vs.length
    · rw[xaG (by simpa using hn),xaw]at h2;have ha:vs[n]? =some v:=by
        cases e:vs[n]? with
        |none=>rw[e]at h2;cases h2
        |some a=>rw[e]at h2;cases h2;rfl
      obtain⟨u,hu,rv⟩:=r.get ha;have hp:ps[n]? =some y:=by rw[<-S.pre,xc7 (by lia)];exact h1
      refine⟨u,rv,.inl ⟨S.par y (xaP hp),?_⟩⟩;refine nG ?_ (xbz.mpr (zip_get hp hu));rw[List.map_reverse,Ua ulen.symm];exact(List.reverse_perm _).nodup_iff.mpr ndP
    · rw[xat (by simpa using hn),xae]at h2
      by_cases hn2:n - vs.length<N.length - vs.length - cvs.length
      · rw[xaG (by simpa using hn2),xa9,xac hn2]at h2;cases h2
      · rw[xat (by simpa using hn2),xa7,xaw]at h2;have ha:cvs[n - vs.length - (N.length - vs.length - cvs.length)]? =some v:=by
          cases e:cvs[n - vs.length - (N.length - vs.length - cvs.length)]? with
          |none=>rw[e]at h2;cases h2
          |some a=>rw[e]at h2;cases h2;rfl
        have hf:fr[n - vs.length - (N.length - vs.length - cvs.length)]? =some y:=by
          have:(N.drop (N.length - fr.length))[n - vs.length - (N.length - vs.length - cvs.length)]? =some y:=by
            rw[xeY, <-h1];congr 1;lia
          rw[S.suf]at this;exact this
        rw[<-hfr,xaw,xah]at hf;obtain⟨p,hp,rfl⟩:=hf;obtain⟨v',u,o,ev,ru,g,d⟩:=hc.get hp;rw[ha]at ev;cases ev;refine⟨u,ru,.inr ⟨.inr (S.fre _ (by rw[<-hfr];exact xaj.mpr ⟨p,xaP hp,rfl⟩)),p.2,nG ndf (xaP hp),o,hk _ _ (e0.hok _ _ g).1,d⟩⟩
  · obtain⟨u,o,_,d,g⟩:=cellAt y c h;exact⟨some u,o,g,d⟩
  · obtain⟨u,o,g,_,_⟩:=cellAt y c h;exact .inr ⟨rfl,o,_,g⟩
  · unfold tV;show _=N.length;rw[xam,xam,xae,xa7,xae];lia
theorem zaS {Pl:Pl}{H:Hp}{M:Mm}{ds cds:List D}{vs cvs:List V}(hk:Hk K mg Pl H M)(hl:vs.length + cvs.length<=N.length)(h:aA K Pl H ds vs)(hc:aA K Pl H cds cvs):
  Ok K mg Pl H Pl (List.replicate N.length none) H M (tV N vs cvs) (pJ ds.length N.length (ds ++ cds)):=by
 have hd:=h.len;have hd2:=hc.len;have ee:pJ ds.length N.length (ds ++ cds)=ds.map .val ++ (List.replicate (N.length - vs.length - cvs.length) .un ++ cds.map .val):=by
  unfold pJ;rw[List.take_left,List.drop_left,xam,hd,hd2,Nat.sub_sub]
 rw[ee];refine⟨hk,LtE.refl Pl H,hk.here,fun n s e=>?_,fun a z=>?_,fun n j a e1 _=>?_,by simp;lia,by simp[tV];lia⟩
 ·have e0:((List.replicate N.length (none:Option Addr))[n]?).join=none:=by
   rw[xa9]
   split<;>rfl
  rw[e0];unfold tV
  by_cases hi:n<ds.length
  ·rw[xaG (by simpa using hi),xaw,xar hi]at e;simp only[xbX,xe4]at e;subst e;obtain⟨v,ev,p⟩:=h.get (xar hi);refine⟨v,?_,p⟩;rw[xaG (by rw[xae];lia),xaw,ev];rfl
  ·rw[xat (by simpa using hi),xae]at e
   by_cases h2:n - ds.length<N.length - vs.length - cvs.length
   ·rw[xaG (by simpa using h2),xa9,xac h2]at e;cases e;exact True.intro
   ·rw[xat (by simpa using h2),xa7,xaw,xah]at e;obtain⟨d,ed,rfl⟩:=e;obtain⟨v,ev,p⟩:=hc.get ed;rw[<-hd]at ev;refine⟨v,?_,p⟩;rw[xat (by rw[xae];lia),xae,xat (by rw[xa7];lia),xa7,xaw,ev];rfl
 ·exact absurd (xei z) (by simp)
 ·rw[xa9]at e1;split at e1<;>cases e1
def rM (P:Program)(w:World)(K:Fgx)(mg:Mgx)(base:Heap)(k:Nat)(i:FnT)(n:Nat)(g:G):Prop:=
 ∀(A:Around) (outer:List PySem.Env) (s:Shared) (H:Hp) (us:List Value) (vs:List V) (Q:VK) (E:XK) (f:Addr) (caps:List (Str×D)) (Pl:Pl) (M:Mm) (ds:List D) (d:D) (M':Mm),Room k A->Env0 P w K mg base A outer s H->Vals vs us->vs.length=n->
  Hk K mg Pl H M->xJ K mg Pl H f i caps->aA K Pl H ds vs->g (ds ++ caps.map (·.2)) M=some (.v d,M')->(∀P' v H',LtE Pl H P' H'->Hk K mg P' H' M'->Is K P' H' d v->Q v H')->codeAny (model P w) A (.call (.ref f) ⟨us,[]⟩) (CR fY outer P w H s Q E) s
theorem rM.mono {j:Nat}{n:Nat}{g:G}(a:rM P w K mg base j i n g)(h:j<=k):rM P w K mg base k i n g:=fun A outer s H us vs Q E f caps Pl M ds d M' hr=>a A outer s H us vs Q E f caps Pl M ds d M' (hr.mono h)
def nZ (i:FnT)(ps:List Str)(n:Nat)(dn:List Int):Prop:=n + dn.length=ps.length/\∀(H:Hp) (s:Shared) (mgv:Value) (cl:List (Str×Addr)) (dV doc ctv cd:Value) (us:List Value),us.length=n->lV H i.dd dV->(∀a o u,H a=some (.frz o u)->s.heap.get? a=some o)->
 ∃us',Vals (dn.map V.int) us'/\BindsTo s (PySem.W.fnX i.x i.q (b_ i.st) (bO i.st) (aM i.st) cl dV .none doc mgv none cd ctv) ⟨us,[]⟩ (ps.zip (us ++ us'))
theorem O8 {K:Fgx}{P:Pl}{H:Hp}:∀dn:List Int,aA K P H (dn.map D.int) (dn.map V.int)
 | []=>rfl
 |_::r=>⟨_,_,rfl,rfl,O8 r⟩
theorem O9 {K:Fgx}{P:Pl}{H:Hp}:∀{ds es:List D} {vs ws:List V},aA K P H ds vs->aA K P H es ws->aA K P H (ds ++ es) (vs ++ ws)
  | [],_,_,_,h,g=>by
    obtain rfl:=h;exact g
  |_::_,_,_,_,⟨v,r,e,h,t⟩,g=>by
    subst e;exact⟨v,_,rfl,h,O9 t g⟩
theorem Wa {n:Nat}{dn:List Int}{g:G}(S:FnScopeC N ps i.fr (aM i.st))(hbn:nZ i ps n dn)(hg:∀ds cs M,ds.length=n->g (ds ++ cs) M=vo ps.length N.length b ((ds ++ dn.map .int) ++ cs) M)
    (hb:∀f cd cl A outer s H,Room k (A.deeper (PySem.W.envX i.q (aM i.st) s.heap.objs.size f cd cl))->SB (C_ P w K mg base N i f cd cl A outer s H) W0 (bO i.st) b):rM P w K mg base (k + 1) i n g:=by
  intro A outer s H us0 vs0 Q E f caps Pl M ds0 d M' hr e0 r0 hn0 hk fc is0 e q;obtain⟨cl,dV,doc,ctv,c,cvs,e1,⟨e2,edf⟩,⟨e3,hfr'⟩,e4,e5,e6⟩:=fc;obtain⟨oc,fs,t,c1,c2,c3⟩:=e2;have ho:s.heap.get? f=some (Oo mg i cl dV doc ctv c):=(e0.hok f _ e1).1;have hcr:s.heap.CodeRec (.ref c) i.q:=⟨c,oc,fs,t,rfl,(e0.hok c _ c1).1,c2,c3⟩;have lim:s.heap.NoLimit:=e0.mod.nolimit.keeps fun b o e=>(e0.bs b o e).1;obtain⟨us',rd,hbt⟩:=hbn.2 H s ((mg "__name__").getD .none) cl dV doc ctv (.ref c) us0 (by rw[<-r0.length];exact hn0) edf fun a o u z=>(e0.hok a _ z).1;rw[hg _ _ _ (by rw[<-hn0];exact is0.len.symm)]at e;have r:Vals (vs0 ++ dn.map V.int) (us0 ++ us'):=r0.append rd;have hn:(vs0 ++ dn.map V.int).length=ps.length:=by rw[xam,xae,hn0];exact hbn.1
  have is:aA K Pl H (ds0 ++ dn.map D.int) (vs0 ++ dn.map V.int):=O9 is0 (O8 dn);clear is0 r0 rd hn0 hg;generalize us0 ++ us'=us at r hbt;generalize vs0 ++ dn.map V.int=vs at r hn is;generalize ds0 ++ dn.map D.int=ds at is e;have ulen:us.length=ps.length:=by rw[<-r.length];exact hn
  have kept:∀h':Heap,Heap.SameBut s.heap.objs.size (s.heap.push {cls:=.type "frame",data:=.dict #[]}) h'->∀b o,s.heap.get? b=some o->h'.get? b=some o:=fun h' hs b o g=>by
    rw[hs.2 b (xaI (xao g))];exact xag _ g
  refine codeAny_call_function hr.depth ho rfl S.co S.gen rfl hcr (hbt _ _ _ _ ?_);refine wpAny_newFunctionEnv S.noc (fun y hy=>S.par _ (xdB hy).1) (fun h' hns hsame=>⟨lim.keeps (kept h' hsame),codeAny_func ?_⟩) S.kind;have cll:cvs.length=i.fr.length:=by rw[e5.len, <-hfr', <-e3,xae]
  have S_len:=S.len;have dl:=is.len;have I:=WQ (P:=P) (w:=w) (base:=base) (f:=f) (cd:=.ref c) (A:=A) (outer:=outer) (tk:=s.toks + (ps.zip us).length) S hr.hd e0 hn r (e3.trans hfr') e5 e6 hns (kept h' hsame);have st0:=zaS (N:=N) (ds:=ds) (cds:=caps.map (·.2)) hk (by lia) is e4;rw[show ds.length=ps.length by lia]at st0;have hq:tS K mg W0 b {nx:=fun _ H'=>Q .non H',rt:=Q} (tV N vs cvs) H:=by
    unfold vo cV at e;split at e
    · rename_i d' M2 eb;cases e;exact⟨Pl,H,Pl,_,_,M,_,_,st0,eb,fun P' v H' l h i=>q P' v H' l h i⟩
    · rename_i env M2 eb;cases e;exact⟨Pl,H,Pl,_,_,M,_,_,st0,eb,fun P' Os' H' st' _ k'=>q P' .non H' k'.base k'.hk rfl⟩
    · rename_i c n M2 eb;cases e
    · cases e
  refine xa4 (hb f (.ref c) cl A outer s H (hr.deeper _) [] _ (tV N vs cvs) H _ I hq) (fun fl s' hs=>?_) fun e s' hs=>False.elim hs
  cases fl with
  |ret u=>
    obtain⟨v,σ',H',J,rv,z⟩:=hs;exact⟨v,H',J.os,J.bare,J.base,J.hok,rv,z⟩
  |next=>
    obtain⟨σ',H',J,z⟩:=hs;exact⟨.non,H',J.os,J.bare,J.base,J.hok,rfl,z⟩
  |brk=>
    obtain⟨_,_,_,z⟩:=hs;exact False.elim z
  |cont=>
    obtain⟨_,_,_,z⟩:=hs;exact False.elim z
end
noncomputable def gC (caps:List (Str×Nat)) (env:PySem.Env):List (Str×Addr):=caps.map fun p=>(p.1,(env.cells.lookup p.1).getD 0)
section
variable (P:Program)(w:World)(K:Fgx)(mg:Mgx)(base:Heap)(k:Nat)(f:Addr)(N:List Str)(q:Str)(st:Stmt)(b:S)(c:Addr)(i:FnT)
abbrev Mj:Prop:=∀(f:Addr) (cd:Value) (cl:List (Str×Addr)) (A:Around) (outer:List PySem.Env) (s:Shared) (H:Hp),Room k (A.deeper (PySem.W.envX i.q (aM i.st) s.heap.objs.size f cd cl))->SB (C_ P w K mg base N i f cd cl A outer s H) W0 (bO i.st) b
end
section
variable {P:Program}{w:World}{K:Fgx}{mg:Mgx}{h base:Heap}{k:Nat}{f:Addr}{N ps:List Str}{x q:Str}{st:Stmt}{b:S}{c Pt:Addr}{i:FnT}
theorem nZ.of {n:Nat}{dn:List Int}(hl:n + dn.length=ps.length)(hd:i.dd=[])(h:dn=[]/\∀(s:Shared) (mgv:Value) (cl:List (Str×Addr)) (doc ctv cd:Value) (us:List Value),us.length=ps.length->BindsTo s (PySem.W.fnX i.x i.q (b_ i.st) (bO i.st) (aM i.st) cl .none .none doc mgv none cd ctv) ⟨us,[]⟩ (ps.zip us)):nZ i ps n dn:=
 ⟨hl,fun H s mgv cl dV doc ctv cd us hu hD hH=>by
  obtain⟨rfl,h⟩:=h;rcases hD with⟨_,rfl⟩ |⟨z,_⟩
  ·exact⟨[],.nil,by rw[xaJ];exact h s mgv cl doc ctv cd us (by rw[hu, <-hl];rfl)⟩
  ·exact absurd hd z⟩
theorem nZ.dfl {n:Nat}{dn:List Int}{z:Int}(hl:n + dn.length=ps.length)(hd:i.dd=[z])
    (h:∀(s:Shared) (mgv:Value) (cl:List (Str×Addr)) (td:Addr) (doc ctv cd:Value) (us:List Value) (o:Obj) (m t:Nat),us.length=n->s.heap.get? td=some o->o.data=.seq #[.int z t] m->∃us',Vals (dn.map V.int) us'/\BindsTo s (PySem.W.fnX i.x i.q (b_ i.st) (bO i.st) (aM i.st) cl (.ref td) .none doc mgv none cd ctv) ⟨us,[]⟩ (ps.zip (us ++ us'))):nZ i ps n dn:=
  ⟨hl,fun H s mgv cl dV doc ctv cd us hu hD hH=>by
    rcases hD with⟨e,_⟩ |⟨_,td,o,its,m,rfl,g,ed,r⟩
    · rw[hd]at e;cases e
    · rw[hd]at r;obtain⟨t,rfl⟩:∃t,its= #[.int z t]:=by
        rcases its with⟨l⟩;have r:Vals [V.int z] l:=r
        cases r with
        |cons a b=>
          cases b;obtain⟨t,rfl⟩:=a;exact⟨t,rfl⟩
      exact h s mgv cl td doc ctv cd us o m t hu (hH td o _ g) ed⟩
theorem Gp {a0:Str}(hd:i.dd=[])(h:∀{mgv:Value} {cl:List (Str×Addr)} {doc ctv cd u0:Value},bindArgs (PySem.W.fnX i.x i.q (b_ i.st) (bO i.st) (aM i.st) cl .none .none doc mgv none cd ctv) ⟨[u0],[]⟩=pure [(a0,u0)]):nZ i [a0] 1 []:=
 .of rfl hd ⟨rfl,fun _ _ _ _ _ _ us hl=>match us,hl with | [_],_=>.of_eq h⟩
theorem Gq {a0 a1:Str}(hd:i.dd=[])(h:∀{mgv:Value} {cl:List (Str×Addr)} {doc ctv cd u0 u1:Value},bindArgs (PySem.W.fnX i.x i.q (b_ i.st) (bO i.st) (aM i.st) cl .none .none doc mgv none cd ctv) ⟨[u0,u1],[]⟩=pure [(a0,u0),(a1,u1)]):nZ i [a0,a1] 2 []:=
 .of rfl hd ⟨rfl,fun _ _ _ _ _ _ us hl=>match us,hl with | [_,_],_=>.of_eq h⟩
theorem Gs {a0 a1 a2:Str}{z:Int}(hd:i.dd=[z])(h:∀{s:Shared} {mgv:Value} {cl:List (Str×Addr)} {td:Addr} {doc ctv cd u0 u1 u2:Value} {o:Obj} {m t:Nat},s.heap.get? td=some o->o.data=.seq #[.int z t] m->BindsTo s (PySem.W.fnX i.x i.q (b_ i.st) (bO i.st) (aM i.st) cl (.ref td) .none doc mgv none cd ctv) ⟨[u0,u1,u2],[]⟩ [(a0,u0),(a1,u1),(a2,u2)]):nZ i [a0,a1,a2] 3 []:=
 .dfl rfl hd fun _ _ _ _ _ _ _ us _ _ _ hl g e=>match us,hl with | [_,_,_],_=>⟨[],.nil,h g e⟩
theorem Mj.ok (S:FnScopeC N ps i.fr (aM i.st))(hb:Mj P w K mg base k N b i)(hp:nZ i ps ps.length []:=by first |exact Gp rfl rfl |exact Gq rfl rfl |exact Gs rfl fun h₁ h₂=>BindsTo.of_defaults rfl h₁ h₂ rfl rfl):rM P w K mg base (k + 1) i ps.length (vo ps.length N.length b):=Wa S hp (fun ds cs M _=>by rw[xcr,xaJ]) hb
theorem rM.up {j n:Nat}{g:G}(a:rM P w K mg base j i n g)(h:j<=k:=by decide):rM P w K mg base k i n g:=a.mono h
end
end E3
namespace L2
open PySem PySem.Spec PyProof.Rows
end L2
namespace E3
open PySem PySem.Spec PyProof.Rows L2
section
variable {X:Cx}{Wx:XW}{pos:Pos}
theorem aA.rev {K:Fgx}{P:Pl}{H:Hp}:∀{ds:List D} {vs:List V},aA K P H ds vs->aA K P H ds.reverse vs.reverse
  | [],_,h=>by rw[show _=[] from h];rfl
  |d::ds,_,h=>by
    obtain⟨v,r,e,p,q⟩:=h;subst e;rw[xcK,xcK];exact(aA.rev q).append ⟨v,[],rfl,p,rfl⟩
end
end E3
namespace L2
open PySem PySem.Spec PyProof.Rows
end L2
namespace E3
open PySem PySem.Spec PyProof.Rows L2
mutual
def D.plain:D->Bool
 |.ref _=>false
 |.tup ds=>D.plains ds
 |.lst ds=>D.plains ds
 |_=>true
def D.plains:List D->Bool
 | []=>true
 |d::ds=>D.plain d && D.plains ds
end
section
variable {K:Fgx}{P:Pl}{H:Hp}{io:Nat->Addr}
mutual
theorem WW:∀{d:D} {v:V},D.plain d=true->Is K P H d v->Is K ⟨io,0,fun _=>False⟩ H d v
 |.non,_,_,h |.bl _,_,_,h |.int _,_,_,h |.str _,_,_,h=>h
 |.ref _,_,p,_=>by simp[D.plain]at p
 |.tup ds,_,p,⟨a,vs,e,t,q⟩=>⟨a,vs,e,t,Iw (by simpa [D.plain] using p) q⟩
 |.lst ds,_,p,⟨a,vs,e,t,q⟩=>⟨a,vs,e,t.imp (fun z=>⟨fun y=>y,z.2⟩) id,Iw (by simpa [D.plain] using p) q⟩
theorem Iw:∀{ds:List D} {vs:List V},D.plains ds=true->aA K P H ds vs->aA K ⟨io,0,fun _=>False⟩ H ds vs
  | [],_,_,h=>h
  |d::ds,_,p,⟨v,r,e,h,t⟩=>by
    simp only[D.plains,xaC]at p;exact⟨v,r,e,WW p.1 h,Iw p.2 t⟩
end
end
end E3
namespace TS
open PySem PyProof.Rows PySem.W
variable {prog:Program}{w:World}{A:Around}{E:Value->Shared->Prop}{R:Shared->Prop}{α β:Type}
def Ok (prog:Program)(w:World)(A:Around)(E:Value->Shared->Prop)(R:Shared->Prop)(m:StateT SortSt Sem α)(st:SortSt)(P:α->SortSt->Prop):Prop:=
 ∀s,R s->kasC (model prog w) A E m (fun a st' s'=>R s'/\P a st') st s
section
variable {st:SortSt}{P Q:α->SortSt->Prop}
theorem aU {a:α}(h:P a st):Ok prog w A E R (pure a) st P:=fun s r=>kasC_pure ⟨r,h⟩
theorem Ok.mono {m:StateT SortSt Sem α}(h:Ok prog w A E R m st P)(q:∀a st',P a st'->Q a st'):Ok prog w A E R m st Q:=
 fun s r=>xa4 (h s r) (fun _ _ z=>⟨z.1,q _ _ z.2⟩) fun _ _ e=>e
theorem aJ {m:StateT SortSt Sem β}{f:β->StateT SortSt Sem α}(h:Ok prog w A E R m st fun b st'=>Ok prog w A E R (f b) st' P):Ok prog w A E R (m >>=f) st P:=
 fun s r=>kasC_bind (xa4 (h s r) (fun _ s' z=>z.2 s' z.1) fun _ _ e=>e)
theorem nH {P:SortSt->SortSt->Prop}(h:P st st):Ok prog w A E R get st P:=fun s r=>kasC_get ⟨r,h⟩
theorem yr {P:PUnit->SortSt->Prop}{f:SortSt->SortSt}(h:P ⟨⟩ (f st)):Ok prog w A E R (modify f) st P:=fun s r=>kasC_modify ⟨r,h⟩
theorem Y8 {P:PUnit->SortSt->Prop}{st':SortSt}(h:P ⟨⟩ st'):Ok prog w A E R (set st') st P:=fun s r=>by
 unfold kasC;rw[StateT.run_set];exact xab ⟨r,h⟩
theorem yt {P:Unit->SortSt->Prop}{x:String}(h:P () st):Ok prog w A E R (liftM (rule x)) st P:=fun s r=>kasC_lift (wpAny_rule ⟨r,h⟩)
end
theorem Qo {f:Nat->β->StateT SortSt Sem (ForInStep β)}(I:Nat->β->SortSt->Prop){P:β->SortSt->Prop}:∀(n a:Nat) (b:β) (st:SortSt),I a b st->
    (∀i b st,a<=i->i<a + n->I i b st->Ok prog w A E R (f i b) st fun r st'=>match r with |.done b'=>P b' st' |.yield b'=>I (i + 1) b' st')->(∀b st,I (a + n) b st->P b st)->Ok prog w A E R (forIn (List.range' a n) b f) st P
  |0,a,b,st,h,_,q=>fun s r=>kasC_nil ⟨r,q b st h⟩
  |n + 1,a,b,st,h,hs,q=>fun s r=>by
    rw[List.range'_succ];refine kasC_cons (xa4 (hs a b st (xaf _) (by lia) h s r) (fun z s' k=>?_) fun _ _ e=>e);obtain⟨z,st'⟩:=z
    cases z with
    |done b'=>exact k
    |yield b'=>exact Qo I n (a + 1) b' st' k.2 (fun i b st h1 h2=>hs i b st (by lia) (by lia)) (fun b st h=>q b st (by rw[show a + (n + 1)=a + 1 + n by lia];exact h)) s' k.1
theorem f9 {a n:Nat}{b:β}{st:SortSt}{f:Nat->β->StateT SortSt Sem (ForInStep β)}{P:β->SortSt->Prop}(I:Nat->β->SortSt->Prop)(h:I a b st)
  (hs:∀i b st,a<=i->i<n->I i b st->Ok prog w A E R (f i b) st fun r st'=>match r with |.done b'=>P b' st' |.yield b'=>I (i + 1) b' st') (q:∀b st,I (max a n) b st->P b st):Ok prog w A E R (forIn [a:n] b f) st P:=
 fun s r=>kasC_range (Qo I (n - a) a b st h (fun i b st h1 h2=>hs i b st h1 (by lia)) (fun b st h=>q b st (by rw[show max a n=a + (n - a) by lia];exact h)) s r)
abbrev Rk:=Keyed->Nat
structure Bs (κ:SortKind)(a₀:Array Keyed)(st:SortSt):Prop where
 kd:kindOf st=κ
 nf:failedOf st=none
 pm:(arrOf st).Perm a₀
def m9 (prog:Program)(w:World)(A:Around)(R:Shared->Prop)(κ:SortKind)(a₀:Array Keyed)(rk:Rk):Prop:=
 ∀x y,x∈a₀->y∈a₀->∀s,R s->wpAny (model prog w) A (keyLt' κ x.1 y.1) (fun c s'=>R s'/\c=decide (rk x<rk y)) (fun _ _=>False) s
variable {κ:SortKind}{a₀:Array Keyed}{rk:Rk}
theorem Aq {st:SortSt}{x y:Keyed}{P:Option Bool->SortSt->Prop}(C:m9 prog w A R κ a₀ rk)(B:Bs κ a₀ st)(hx:x∈a₀)(hy:y∈a₀)(h:P (some (decide (rk x<rk y))) st):Ok prog w A E R (lt' x y) st P:=by
 rw[lt'_eq];refine aJ (nH fun s r=>?_);rw[B.kd];refine kasC_bind (kasC_lift (xdr (xa4 (C x y hx hy s r) (fun c s' z=>?_) fun _ _ hF=>hF.elim)));obtain⟨r',rfl⟩:=z;exact kasC_pure ⟨r',h⟩
theorem dI {st:SortSt}{a:Array Keyed}{i:Nat}{P:Keyed->SortSt->Prop}(hi:i<a.size)(h:P a[i] st):Ok prog w A E R (elem' a i) st P:=by
 rw[elem'_eq,xbd hi];exact aU h
noncomputable def vv (rk:Rk) (a:Array Keyed) (i:Nat):Nat:=rk (a.getD i (Value.none,Value.none))
theorem dD {a:Array Keyed}{i:Nat}(h:i<a.size):vv rk a i=rk a[i]:=by unfold vv;simp[Array.getD,h]
theorem xG {a b:Array Keyed}{i j:Nat}(h:a[i]? =b[j]?):vv rk a i=vv rk b j:=by
 unfold vv;rw[xcc,xcc,h]
theorem Ao {st:SortSt}{i j:Nat}{P:Option Bool->SortSt->Prop}(C:m9 prog w A R κ a₀ rk)(B:Bs κ a₀ st)(hi:i<(arrOf st).size)(hj:j<(arrOf st).size)(h:P (some (decide (vv rk (arrOf st) i<vv rk (arrOf st) j))) st):Ok prog w A E R (ltAt' i j) st P:=by
 rw[ltAt'_eq];refine aJ (nH ?_);refine aJ (dI hi (aJ (dI hj ?_)));rw[dD hi,dD hj]at h;exact Aq C B (B.pm.mem_iff.mp (xaL hi)) (B.pm.mem_iff.mp (xaL hj)) h
def Up (v:Nat->Nat)(i j:Nat):Prop:=∀k l,i<=k->k<=l->l<j->v k<=v l
def Dn (v:Nat->Nat)(i j:Nat):Prop:=∀k l,i<=k->k<=l->l<j->v l<=v k
theorem Up.one {v:Nat->Nat}{i:Nat}:Up v i (i + 1):=fun k l h1 h2 h3=>by rw[show k=l by lia];exact xaf _
theorem Dn.one {v:Nat->Nat}{i:Nat}:Dn v i (i + 1):=fun k l h1 h2 h3=>by rw[show k=l by lia];exact xaf _
theorem Up.snoc {v:Nat->Nat}{i j:Nat}(h:Up v i j)(hij:i<j)(e:v (j - 1)<=v j):Up v i (j + 1):=fun k l h1 h2 h3=>by
 by_cases hl:l=j
 ·subst hl
  by_cases hk:k=l
  ·subst hk;exact xaf _
  ·exact xay (h k (l - 1) h1 (by lia) (by lia)) e
 ·exact h k l h1 h2 (by lia)
theorem Dn.snoc {v:Nat->Nat}{i j:Nat}(h:Dn v i j)(hij:i<j)(e:v j<=v (j - 1)):Dn v i (j + 1):=fun k l h1 h2 h3=>by
 by_cases hl:l=j
 ·subst hl
  by_cases hk:k=l
  ·subst hk;exact xaf _
  ·exact xay e (h k (l - 1) h1 (by lia) (by lia))
 ·exact h k l h1 h2 (by lia)
theorem Bs.arr {st:SortSt}(B:Bs κ a₀ st){x:Array Keyed}(h:x.Perm (arrOf st)):Bs κ a₀ (setArr st x):=⟨B.kd,B.nf,h.trans B.pm⟩
theorem Bs.size {st:SortSt}(B:Bs κ a₀ st):(arrOf st).size=a₀.size:=B.pm.size_eq
theorem Gi {a:Array Keyed}{i j:Nat}(hj:j<=a.size)(k:Nat):vv rk (mirror a i j ((j - i) / 2)) k=if i<=k/\k<j then vv rk a (i + j - 1 - k) else vv rk a k:=by
 have h:=getElem?_mirror_all (xs:=a) (i:=i) hj k;split at h
 ·rename_i c;rw[xac c];exact xG h
 ·rename_i c;rw[xad c];exact xG h
theorem Ed {st:SortSt}{i j:Nat}{P:Unit->SortSt->Prop}(h:P () (setArr st (mirror (arrOf st) i j ((j - i) / 2)))):Ok prog w A E R (reverseSlice' i j) st P:=by
 rw[reverseSlice'_eq];exact yr h
variable {prog:Program}{w:World}{A:Around}{E:Value->Shared->Prop}{R:Shared->Prop}{α β:Type}{κ:SortKind}{a₀:Array Keyed}{rk:Rk}
structure Fr (rk:Rk)(lo:Nat)(st st':SortSt):Prop where
 v:∀k,k<lo->vv rk (arrOf st') k=vv rk (arrOf st) k
 p:pendingOf st'=pendingOf st
theorem Fr.rfl {lo:Nat}{st:SortSt}:Fr rk lo st st:=⟨fun _ _=>by trivial,by trivial⟩
theorem Fr.trans {lo:Nat}{s1 s2 s3:SortSt}(a:Fr rk lo s1 s2)(b:Fr rk lo s2 s3):Fr rk lo s1 s3:=⟨fun k h=>(b.v k h).trans (a.v k h),b.p.trans a.p⟩
theorem Fr.rev {lo i j:Nat}{st:SortSt}(hi:lo<=i)(hj:j<=(arrOf st).size):Fr rk lo st (setArr st (mirror (arrOf st) i j ((j - i) / 2))):=
 ⟨fun k h=>(Gi hj k).trans (xad (by lia)),by trivial⟩
theorem Kf {a:Array Keyed}{i j:Nat}(hj:j<=a.size)(h:∀k,i<=k->k<j->vv rk a k=vv rk a (j - 1))(k:Nat):vv rk (mirror a i j ((j - i) / 2)) k=vv rk a k:=by
 rw[Gi hj]
 split
 ·rename_i c;rw[h k c.1 c.2,h _ (by lia) (by lia)]
 ·exact Eq.refl _
section
variable {st:SortSt}{lo nrem:Nat}(C:m9 prog w A R κ a₀ rk)
include C
theorem Qn (hz:lo + nrem<=a₀.size){n:Nat}(h1:1<=n)(hn:n<=nrem)(B:Bs κ a₀ st)(u:Up (vv rk (arrOf st)) lo (lo + n)){P:Option (Option Nat)×Nat->SortSt->Prop}
  (q:∀m,n<=m->m<=nrem->Up (vv rk (arrOf st)) lo (lo + m)->(m=nrem\/vv rk (arrOf st) (lo + m)<vv rk (arrOf st) (lo + m - 1))->P (none,m) st):
  Ok prog w A E R (forIn [n:nrem] ((none,n):Option (Option Nat)×Nat) fun _ s=>do
   let x <-ltAt' (lo + s.2) (lo + s.2 - 1)
   match x with
   |some c=>if c=true then pure (.done (none,s.2)) else pure (.yield (none,s.2 + 1))
   |_=>pure (.done (some none,s.2))) st P:=by
 refine f9 (fun i c st'=>st'=st/\c=(none,i)/\Up (vv rk (arrOf st)) lo (lo + i)) ⟨rfl,rfl,u⟩ ?_ ?_
 ·rintro i c st' h1 h2 ⟨rfl,rfl,u⟩;have sz:=B.size;refine aJ (Ao C B (by lia) (by lia) ?_);dsimp only
  by_cases hc:vv rk (arrOf st') (lo + i)<vv rk (arrOf st') (lo + i - 1)
  ·rw[xac (by simpa using hc)];exact aU (q i h1 (by lia) u (.inr hc))
  ·rw[xad (by simpa using hc)];exact aU ⟨rfl,rfl,u.snoc (by lia) (xbU hc)⟩
 ·rintro c st' ⟨rfl,rfl,u⟩;rw[show max n nrem=nrem by lia]at u ⊢;exact q nrem hn (xaf _) u (.inl rfl)
theorem Y4 (hz:lo + nrem<=a₀.size)(h1:1<=nrem)(B:Bs κ a₀ st){P:Option Nat->SortSt->Prop}
  (q:∀m st',1<=m->m<=nrem->Bs κ a₀ st'->Up (vv rk (arrOf st')) lo (lo + m)->Fr rk lo st st'->P (some m) st'):Ok prog w A E R (countRun' lo nrem) st P:=by
 have sz:=B.size;rw[countRun'_eq];refine aJ (Qn C hz (xaf 1) h1 B Up.one fun m m1 m2 u hor=>?_);dsimp only
 by_cases hm:m=nrem
 ·rw[xac (by simpa using hm)];exact aU (q m st m1 m2 B u Fr.rfl)
 rw[xad (by simpa using hm)];have hlt:=hor.resolve_left hm;generalize hT:(bind (liftM (rule _)) _:StateT SortSt Sem (Option Nat))=T;have tail:∀st',Bs κ a₀ st'->Dn (vv rk (arrOf st')) lo (lo + m + 1)->Fr rk lo st st'->Ok prog w A E R T st' P:=by
  subst hT;intro st' B' d' f';refine aJ (yt (aJ (Ok.mono (P:=fun c s2=>∃i e,c=(none,i,e)/\1<=i/\i<=nrem/\Bs κ a₀ s2/\Dn (vv rk (arrOf s2)) lo (lo + i)/\Fr rk lo st s2/\e + 1<=i/\∀k,lo + i - (e + 1)<=k->k<lo + i->vv rk (arrOf s2) k=vv rk (arrOf s2) (lo + i - 1))
   (f9 (fun i c s2=>∃e,c=(none,i,e)/\Bs κ a₀ s2/\Dn (vv rk (arrOf s2)) lo (lo + i)/\Fr rk lo st s2/\e + 1<=i/\∀k,lo + i - (e + 1)<=k->k<lo + i->vv rk (arrOf s2) k=vv rk (arrOf s2) (lo + i - 1)) ?_ ?_ ?_) ?_)))
  ·refine⟨0,rfl,B',d',f',by lia,fun k h1 h2=>?_⟩;rw[show k=lo + (m + 1) - 1 by lia]
  ·rintro i c s2 g1 g2 ⟨e,rfl,B2,d2,f2,he,ha⟩;have sz2:=B2.size;dsimp only;refine aJ (Ao C B2 (by lia) (by lia) ?_);dsimp only
   by_cases hc:vv rk (arrOf s2) (lo + i)<vv rk (arrOf s2) (lo + i - 1)
   ·rw[xac (by simpa using hc)];have dd:Dn (vv rk (arrOf s2)) lo (lo + i + 1):=d2.snoc (by lia) (xbf hc)
    split
    ·have ev:=Kf (rk:=rk) (a:=arrOf s2) (i:=lo + i - (e + 1)) (j:=lo + i) (by lia) ha;refine aJ (Ed (aU ⟨0,rfl,B2.arr (xdN _ _ _ _),?_,f2.trans (Fr.rev (by lia) (by lia)),by lia,fun k h1 h2=>?_⟩))
     ·intro k l k1 k2 k3;show vv rk (mirror _ _ _ _) l<=vv rk (mirror _ _ _ _) k;rw[ev,ev];exact dd k l k1 k2 (by lia)
     ·rw[show k=lo + (i + 1) - 1 by lia]
    ·exact aU ⟨0,rfl,B2,dd,f2,by lia,fun k h1 h2=>by rw[show k=lo + (i + 1) - 1 by lia]⟩
   ·rw[xad (by simpa using hc)];refine aJ (Ao C B2 (by lia) (by lia) ?_);dsimp only
    by_cases hd:vv rk (arrOf s2) (lo + i - 1)<vv rk (arrOf s2) (lo + i)
    ·rw[xac (by simpa using hd)];exact aU ⟨i,e,rfl,by lia,by lia,B2,d2,f2,he,ha⟩
    ·rw[xad (by simpa using hd)];have eq:vv rk (arrOf s2) (lo + i)=vv rk (arrOf s2) (lo + i - 1):=by lia
     refine aU ⟨e + 1,rfl,B2,d2.snoc (by lia) (by lia),f2,by lia,fun k h1 h2=>?_⟩;rw[show lo + (i + 1) - 1=lo + i by lia]
     by_cases hk:k=lo + i
     ·rw[hk]
     ·rw[eq];exact ha k (by lia) (by lia)
  ·rintro c s2 ⟨e,rfl,B2,d2,f2,he,ha⟩;rw[show max (m + 1) nrem=nrem by lia]at d2 he ha ⊢;exact⟨nrem,e,rfl,by lia,by lia,B2,d2,f2,he,ha⟩
  ·rintro c s2 ⟨i,e,rfl,i1,i2,B2,d2,f2,he,ha⟩;have sz2:=B2.size;dsimp only;generalize hL:(bind (reverseSlice' lo (lo + i)) _:StateT SortSt Sem (Option Nat))=L;have go:∀s3,Bs κ a₀ s3->Dn (vv rk (arrOf s3)) lo (lo + i)->Fr rk lo st s3->Ok prog w A E R L s3 P:=fun s3 B3 d3 f3=>by
    subst hL;have sz3:=B3.size;refine aJ (Ed (aJ (Qn C hz i1 i2 (B3.arr (xdN _ _ _ _)) ?_ fun m m1 m2 u _=>?_)))
    ·intro k l k1 k2 k3;show vv rk (mirror _ _ _ _) k<=vv rk (mirror _ _ _ _) l;rw[Gi (by lia),Gi (by lia),xac (by lia),xac (by lia)];exact d3 _ _ (by lia) (by lia) (by lia)
    ·exact aU (q m _ (by lia) m2 (B3.arr (xdN _ _ _ _)) u (f3.trans (Fr.rev (xaf _) (by lia))))
   split
   ·have ev:=Kf (rk:=rk) (a:=arrOf s2) (i:=lo + i - (e + 1)) (j:=lo + i) (by lia) ha;refine aJ (Ed (go _ (B2.arr (xdN _ _ _ _)) ?_ (f2.trans (Fr.rev (by lia) (by lia)))));intro k l k1 k2 k3;show vv rk (mirror _ _ _ _) l<=vv rk (mirror _ _ _ _) k;rw[ev,ev];exact d2 k l k1 k2 k3
   ·exact go s2 B2 d2 f2
 by_cases hg:m > 1
 ·rw[xac hg];refine aJ (Ao C B (by lia) (by lia) ?_);dsimp only
  by_cases hr:vv rk (arrOf st) lo<vv rk (arrOf st) (lo + m - 1)
  ·rw[xac (by simpa using hr)];exact aU (q m st m1 m2 B u Fr.rfl)
  ·rw[xad (by simpa using hr)];have al:∀k,lo<=k->k<lo + m->vv rk (arrOf st) k=vv rk (arrOf st) (lo + m - 1):=fun k k1 k2=>by
    have z1:=u lo k (xaf _) k1 k2;have z2:=u k (lo + m - 1) k1 (by lia) (by lia);lia
   have ev:=Kf (rk:=rk) (a:=arrOf st) (i:=lo) (j:=lo + m) (by lia) al;refine aJ (Ed (tail _ (B.arr (xdN _ _ _ _)) ?_ (Fr.rev (xaf _) (by lia))));have dn:Dn (vv rk (arrOf st)) lo (lo + m + 1):=Dn.snoc (fun k l k1 k2 k3=>by rw[al k k1 (by lia),al l (by lia) k3];exact xaf _) (by lia) (xbf hlt);intro k l k1 k2 k3;show vv rk (mirror _ _ _ _) l<=vv rk (mirror _ _ _ _) k;rw[ev,ev];exact dn k l k1 k2 k3
 ·rw[xad hg];have e1:m=1:=by lia
  subst e1;exact tail st B (Dn.one.snoc (by lia) (xbf hlt)) Fr.rfl
end
variable {prog:Program}{w:World}{A:Around}{E:Value->Shared->Prop}{R:Shared->Prop}{α β:Type}{κ:SortKind}{a₀:Array Keyed}{rk:Rk}
theorem zdy {a:Array Keyed}{src d:Nat}(hs:src<a.size)(hd:d<=src)(k:Nat):vv rk (bubble a src d) k=if k=src - d then vv rk a src else if src - d<k/\k<=src then vv rk a (k - 1) else vv rk a k:=by
 have h:=getElem?_bubble hs d hd k;split at h
 ·rename_i c;rw[xac c];exact xG h
 ·rename_i c;rw[xad c];split at h
  ·rename_i c;rw[xac c];exact xG h
  ·rename_i c;rw[xad c];exact xG h
theorem Y0 {st:SortSt}{lo n ok:Nat}(C:m9 prog w A R κ a₀ rk)(hz:lo + n<=a₀.size)(hk:1<=ok)(hn:ok<=n)(B:Bs κ a₀ st)(u:Up (vv rk (arrOf st)) lo (lo + ok)){P:Bool->SortSt->Prop}
  (q:∀st',Bs κ a₀ st'->Up (vv rk (arrOf st')) lo (lo + n)->Fr rk lo st st'->P true st'):Ok prog w A E R (binarySort' lo n ok) st P:=by
 rw[binarySort'_eq,show max ok 1=ok by lia];refine aJ (f9 (fun i c s2=>c=(none,())/\Bs κ a₀ s2/\Up (vv rk (arrOf s2)) lo (lo + i)/\Fr rk lo st s2) ⟨rfl,B,u,Fr.rfl⟩ ?_ ?_)
 ·rintro k c s2 k1 k2 ⟨rfl, B2, u2, f2⟩;have sz := B2.size;dsimp only;refine aJ (Ok.mono (P:=fun c s3=>s3=s2/\∃l,c=(none,l,l)/\l<=k/\(∀i,i<l->vv rk (arrOf s2) (lo + i)<=vv rk (arrOf s2) (lo + k))/\∀i,l<=i->i<k->vv rk (arrOf s2) (lo + k)<=vv rk (arrOf s2) (lo + i))
   (f9 (fun i c s3=>s3=s2/\∃l r,c=(none,l,r)/\l<=r/\r<=k/\r - l<=k - i/\(∀i,i<l->vv rk (arrOf s2) (lo + i)<=vv rk (arrOf s2) (lo + k))/\∀i,r<=i->i<k->vv rk (arrOf s2) (lo + k)<=vv rk (arrOf s2) (lo + i)) ?_ ?_ ?_) ?_)
  ·exact⟨rfl,0,k,rfl,by lia,by lia,by lia,fun i hi=>by lia,fun i h1 h2=>by lia⟩
  ·rintro i c s3 i1 i2 ⟨rfl,l,r,rfl,lr,rk',hm,hl,hr⟩;dsimp only
   by_cases hge:l >=r
   ·rw[xac hge];obtain rfl:l=r:=by lia
    exact aU ⟨rfl,l,rfl,rk',hl,hr⟩
   ·rw[xad hge];refine aJ (Ao C B2 (by lia) (by lia) ?_);dsimp only
    by_cases hc:vv rk (arrOf s3) (lo + k)<vv rk (arrOf s3) (lo + (l + r) / 2)
    ·rw[xac (by simpa using hc)];refine aU ⟨rfl,l,(l + r) / 2,rfl,by lia,by lia,by lia,hl,fun j j1 j2=>?_⟩;exact xay (xbf hc) (u2 _ _ (by lia) (by lia) (by lia))
    ·rw[xad (by simpa using hc)];refine aU ⟨rfl,(l + r) / 2 + 1,r,rfl,by lia,by lia,by lia,fun j j1=>?_,hr⟩;exact xay (u2 _ _ (by lia) (by lia) (by lia)) (xbU hc)
  ·rintro c s3 ⟨rfl,l,r,rfl,lr,rk',hm,hl,hr⟩;obtain rfl:l=r:=by lia
   exact⟨rfl,l,rfl,rk',hl,hr⟩
  ·rintro c s3 ⟨rfl,l,rfl,lk,hl,hr⟩;dsimp only;rw[moveDown'_eq];have eb:∀j,vv rk (bubble (arrOf s3) (lo + k) (lo + k - (lo + l))) j=_:=zdy (by lia) (by lia);refine aJ (yr (aU ⟨rfl,B2.arr (bubble_perm _ _ _),fun i j i1 i2 i3=>?_,f2.trans ⟨fun j hj=>?_,rfl⟩⟩))
   ·show vv rk (bubble _ _ _) i<=vv rk (bubble _ _ _) j;rw[eb,eb];have hl':=fun i=>hl (i - lo);have hr':=fun i=>hr (i - lo)
    repeat' split
    ·exact xaf _
    ·have:=hr (j - 1 - lo) (by lia) (by lia);rw[show lo + (j - 1 - lo)=j - 1 by lia]at this;exact this
    ·lia
    ·lia
    ·exact u2 _ _ (by lia) (by lia) (by lia)
    ·lia
    ·have:=hl (i - lo) (by lia);rw[show lo + (i - lo)=i by lia]at this;exact this
    ·exact u2 _ _ (by lia) (by lia) (by lia)
    ·exact u2 _ _ (by lia) (by lia) (by lia)
   ·show vv rk (bubble _ _ _) j=_;rw[eb,xad (by lia),xad (by lia)]
 ·rintro c s2 ⟨rfl,B2,u2,f2⟩;rw[show max ok n=n by lia]at u2;exact aU (q s2 B2 u2 f2)
variable {prog:Program}{w:World}{A:Around}{E:Value->Shared->Prop}{R:Shared->Prop}{α β:Type}{κ:SortKind}{a₀:Array Keyed}{rk:Rk}
noncomputable def gal:Bool->Keyed->Array Keyed->Nat->Nat->Nat->StateT SortSt Sem (Option Nat):=sortPriv% PySem.Builtin.gallop
theorem Wj (b : Bool) (x : Keyed) (a : Array Keyed) (o n h : Nat) : gal b x a o n h = (do
 let f (i:Nat):StateT SortSt Sem (Option Bool):=do
  let y <-elem' a (o + i)
  if b then lt' y x else return (<-lt' x y).map (!·)
 let mut p:=0
 let mut q:=1
 let mut l:=0
 let mut u:=0
 let some c <-f h |return none
 if c then
  let m:=n - h
  for _ in [0:n] do
   if q >=m then break
   let some d <-f (h + q) |return none
   if !d then break
   p:=q
   q:=2 * q + 1
  l:=h + p + 1
  u:=h + min q m
 else
  let m:=h + 1
  for _ in [0:n] do
   if q >=m then break
   let some d <-f (h - q) |return none
   if d then break
   p:=q
   q:=2 * q + 1
  l:=h + 1 - min q m
  u:=h - p
 for _ in [0:n] do
  if l >=u then break
  let m:=l + (u - l) / 2
  let some d <-f m |return none
  if d then l:=m + 1 else u:=m
 return some u):=rfl
def thr (rk:Rk)(b:Bool)(x:Keyed):Nat:=if b then rk x else rk x + 1
theorem yq {st:SortSt}{b:Bool}{x:Keyed}{a:Array Keyed}{o n h:Nat}(C:m9 prog w A R κ a₀ rk)(B:Bs κ a₀ st)(hx:x∈a₀)(ha:∀y∈a,y∈a₀)(hz:o + n<=a.size)(hh:h<n)(u:Up (vv rk a) o (o + n)){P:Option Nat->SortSt->Prop}
    (q:∀k,k<=n->(∀i,i<k->vv rk a (o + i)<thr rk b x)->(∀i,k<=i->i<n->thr rk b x<=vv rk a (o + i))->P (some k) st):Ok prog w A E R (gal b x a o n h) st P:=by
  rw[Wj]
  extract_lets f p0 q0 jp m1 m2
  have hf:∀{P:Option Bool->SortSt->Prop} i,i<n->P (some (decide (vv rk a (o + i)<thr rk b x))) st->Ok prog w A E R (f i) st P:=by
    intro P i hi hP;refine aJ (dI (by lia) ?_);have hv:vv rk a (o + i)=rk a[o + i]:=dD (by lia);have hm:=ha _ (xaL (i:=o + i) (by lia));unfold thr at hP;rw[hv]at hP
    cases b with
    |true=>exact Aq C B hm hx hP
    |false=>
      refine aJ (Aq C B hx hm (aU ?_));have e:(!decide (rk x<rk a[o + i]))=decide (rk a[o + i]<rk x + 1):=by
        by_cases z:rk x<rk a[o + i]
        · rw[xaK z,xaH (by lia)];rfl
        · rw[xaH z,xaK (by lia)];rfl
      rw[xbX,e];exact hP
  generalize thr rk b x=t at hf q;have up:∀i j,i<=j->j<n->vv rk a (o + i)<=vv rk a (o + j):=fun i j h1 h2=>u _ _ (by lia) (by lia) (by lia);generalize hv:(fun i=>vv rk a (o + i))=v at *
  replace hf:∀{P:Option Bool->SortSt->Prop} i,i<n->P (some (decide (v i<t))) st->Ok prog w A E R (f i) st P:=by subst hv;exact hf
  replace q:∀k,k<=n->(∀i,i<k->v i<t)->(∀i,k<=i->i<n->t<=v i)->P (some k) st:=by subst hv;exact q
  replace up:∀i j,i<=j->j<n->v i<=v j:=by subst hv;exact up
  clear_value f
  have last:∀p r l k,l<=k->k<=n->(∀i,i<l->v i<t)->(∀i,k<=i->i<n->t<=v i)->Ok prog w A E R (jp () p r l k) st P:=by
    intro p r l k h1 h2 h3 h4;dsimp only [jp];refine aJ (Ok.mono (P:=fun c s3=>s3=st/\∃l,c=(none,l,l)/\l<=n/\(∀i,i<l->v i<t)/\∀i,l<=i->i<n->t<=v i)
      (f9 (fun i c s3=>s3=st/\∃l k,c=(none,l,k)/\l<=k/\k<=n/\k - l<=n - i/\(∀i,i<l->v i<t)/\∀i,k<=i->i<n->t<=v i) ⟨rfl,l,k,rfl,h1,h2,by lia,h3,h4⟩ ?_ ?_) ?_)
    · rintro i c s3 i1 i2 ⟨rfl,l,k,rfl,g1,g2,gm,g3,g4⟩;dsimp only
      by_cases hge:l >=k
      · rw[xac hge];obtain rfl:l=k:=by lia
        exact aU ⟨rfl,l,rfl,g2,g3,g4⟩
      · rw[xad hge];refine aJ (hf _ (by lia) ?_);dsimp only
        by_cases hc:v (l + (k - l) / 2)<t
        · rw[xac (by simpa using hc)];exact aU ⟨rfl,_,k,rfl,by lia,g2,by lia,fun j hj=>xbk (up j _ (by lia) (by lia)) hc,g4⟩
        · rw[xad (by simpa using hc)];exact aU ⟨rfl,l,_,rfl,by lia,by lia,by lia,g3,fun j j1 j2=>xay (xbU hc) (up _ j j1 j2)⟩
    · rintro c s3 ⟨rfl,l,k,rfl,g1,g2,gm,g3,g4⟩;obtain rfl:l=k:=by lia
      exact⟨rfl,l,rfl,g2,g3,g4⟩
    · rintro c s3 ⟨rfl,l,rfl,g2,g3,g4⟩;exact aU (q l g2 g3 g4)
  clear_value jp
  refine aJ (hf h hh ?_);dsimp only
  by_cases hc:v h<t
  · rw [xac (by simpa using hc)];refine aJ (Ok.mono (P:=fun c s3=>s3=st/\∃p r,c=(none,p,r)/\v (h + p)<t/\h + p<n/\p<r/\(r >=m1\/t<=v (h + r)))
      (f9 (fun i c s3=>s3=st/\∃p r,c=(none,p,r)/\v (h + p)<t/\h + p<n/\p<r/\i + 1<=r) ⟨rfl,0,1,rfl,hc,hh,by lia,by lia⟩ ?_ ?_) ?_)
    · rintro i c s3 i1 i2 ⟨rfl,p,r,rfl,g1,g2,g3,g4⟩;dsimp only
      by_cases hge:r >=m1
      · rw[xac hge];exact aU ⟨rfl,p,r,rfl,g1,g2,g3,.inl hge⟩
      · rw[xad hge];have hr:h + r<n:=by simp only[m1]at hge;lia
        refine aJ (hf _ hr ?_);dsimp only
        by_cases hd:v (h + r)<t
        · rw[xad (by simpa using hd)];exact aU ⟨rfl,r,2 * r + 1,rfl,hd,hr,by lia,by lia⟩
        · rw[xac (by simpa using hd)];exact aU ⟨rfl,p,r,rfl,g1,g2,g3,.inr (by lia)⟩
    · rintro c s3 ⟨rfl,p,r,rfl,g1,g2,g3,g4⟩;exact⟨rfl,p,r,rfl,g1,g2,g3,.inl (by simp only[m1];lia)⟩
    · rintro c s3 ⟨rfl,p,r,rfl,g1,g2,g3,g4⟩;dsimp only[m1]at g4 ⊢;refine last _ _ _ _ (by lia) (by lia) (fun j hj=>xbk (up j (h + p) (by lia) g2) g1) fun j j1 j2=>?_;rcases g4 with g4 |g4
      · lia
      · exact xay g4 (up _ j (by lia) j2)
  · rw [xad (by simpa using hc)];refine aJ (Ok.mono (P:=fun c s3=>s3=st/\∃p r,c=(none,p,r)/\t<=v (h - p)/\p<=h/\p<r/\(r >=m2\/v (h - r)<t))
      (f9 (fun i c s3=>s3=st/\∃p r,c=(none,p,r)/\t<=v (h - p)/\p<=h/\p<r/\i + 1<=r) ⟨rfl,0,1,rfl,by simpa using hc,by lia,by lia,by lia⟩ ?_ ?_) ?_)
    · rintro i c s3 i1 i2 ⟨rfl,p,r,rfl,g1,g2,g3,g4⟩;dsimp only
      by_cases hge:r >=m2
      · rw[xac hge];exact aU ⟨rfl,p,r,rfl,g1,g2,g3,.inl hge⟩
      · rw[xad hge];have hr:r<=h:=by simp only[m2]at hge;lia
        refine aJ (hf _ (by lia) ?_);dsimp only
        by_cases hd:v (h - r)<t
        · rw[xac (by simpa using hd)];exact aU ⟨rfl,p,r,rfl,g1,g2,g3,.inr hd⟩
        · rw[xad (by simpa using hd)];exact aU ⟨rfl,r,2 * r + 1,rfl,by lia,hr,by lia,by lia⟩
    · rintro c s3 ⟨rfl,p,r,rfl,g1,g2,g3,g4⟩;exact⟨rfl,p,r,rfl,g1,g2,g3,.inl (by simp only[m2];lia)⟩
    · rintro c s3 ⟨rfl,p,r,rfl,g1,g2,g3,g4⟩;dsimp only[m2]at g4 ⊢;refine last _ _ _ _ (by lia) (by lia) (fun j hj=>?_) fun j j1 j2=>xay g1 (up _ j j1 j2);rcases g4 with g4 |g4
      · lia
      · exact xbk (up j (h - r) (by lia) (by lia)) g4
variable {prog:Program}{w:World}{A:Around}{E:Value->Shared->Prop}{R:Shared->Prop}{α β:Type}{κ:SortKind}{a₀:Array Keyed}{rk:Rk}
abbrev Sd (rk:Rk)(l:List Keyed):Prop:=l.Pairwise fun x y=>rk x<=rk y
structure Mg (rk:Rk)(T O X Y:List Keyed):Prop where
 x:Sd rk (O ++ X)
 y:Sd rk (O ++ Y)
 p:(O ++ (X ++ Y)).Perm T
theorem Mg.swap {T O X Y:List Keyed}(m:Mg rk T O X Y):Mg rk T O Y X:=⟨m.y,m.x,(xdv O xdw).trans m.p⟩
theorem Mg.go {T O X X' Y:List Keyed}(m:Mg rk T O (X ++ X') Y)(h:∀a∈X,∀b∈Y,rk a<=rk b):Mg rk T (O ++ X) X' Y:=by
 refine⟨by rw[xaD];exact m.x,?_,by simpa only[xaD] using m.p⟩;have h1:=xbe.mp m.x;have h2:=xbe.mp m.y;have h3:=xbe.mp h1.2.1;rw[xaD];refine xbe.mpr ⟨h1.1,xbe.mpr ⟨h3.1,h2.2.1,h⟩,fun a ha b hb=>?_⟩;rcases xaQ.mp hb with hb |hb
 ·exact h1.2.2 a ha b (xcm _ hb)
 ·exact h2.2.2 a ha b hb
theorem Mg.fin {T O X:List Keyed}(m:Mg rk T O X []):Sd rk (O ++ X)/\(O ++ X).Perm T:=⟨m.x,by simpa using m.p⟩
structure Mh (rk:Rk)(T O X Y:List Keyed):Prop where
 x:Sd rk (X ++ O)
 y:Sd rk (Y ++ O)
 p:(X ++ Y ++ O).Perm T
theorem Mh.swap {T O X Y:List Keyed}(m:Mh rk T O X Y):Mh rk T O Y X:=⟨m.y,m.x,(xdo O xdw).trans m.p⟩
theorem Mh.go {T O X X' Y:List Keyed}(m:Mh rk T O (X' ++ X) Y)(h:∀a∈X,∀b∈Y,rk b<=rk a):Mh rk T (X ++ O) X' Y:=by
 have h1:=xbe.mp m.x;have h2:=xbe.mp m.y;have h3:=xbe.mp h1.1;refine⟨by rw[<-xaD];exact m.x,?_,?_⟩
 ·refine xbe.mpr ⟨h2.1,xbe.mpr ⟨h3.2.1,h1.2.1,fun a ha b hb=>h1.2.2 a (xaE _ ha) b hb⟩,fun a ha b hb=>?_⟩;rcases xaQ.mp hb with hb |hb
  ·exact h b hb a ha
  ·exact h2.2.2 a ha b hb
 ·refine List.Perm.trans ?_ m.p;simp only[xaD];refine xdv X' ?_;rw[<-xaD, <-xaD];exact xdo O xdw
noncomputable def Ae:Array Keyed->Array Keyed->StateT SortSt Sem (Array Keyed):=sortPriv% PySem.Builtin.mergeLo
noncomputable def Ac:Array Keyed->Array Keyed->StateT SortSt Sem (Array Keyed):=sortPriv% PySem.Builtin.mergeHi
noncomputable def setG (g:Nat):StateT SortSt Sem Unit:=modify fun s=>SortSt.mk' (kindOf s) (arrOf s) (pendingOf s) g (failedOf s)
theorem XJ (a b : Array Keyed) : Ae a b = (do
 rule "list.sort.merge-lo"
 let t:=a.size + b.size
 let fin (o:Array Keyed) (i j:Nat):=o ++ a.extract i a.size ++ b.extract j b.size
 let lst (o:Array Keyed) (i j:Nat):=o ++ b.extract j b.size ++ a.extract i a.size
 let mut o:Array Keyed:= #[<-elem' b 0]
 let mut i:=0
 let mut j:=1
 if j==b.size then return fin o i j
 if i + 1==a.size then return lst o i j
 let mut g:=gallopOf (<-get)
 for _ in [0:t] do
  let mut m:=0
  let mut n:=0
  for _ in [0:t] do
   let some c <-lt' (<-elem' b j) (<-elem' a i) |return fin o i j
   if c then
    o:=o.push (<-elem' b j);j:=j + 1;n:=n + 1;m:=0
    if j==b.size then return fin o i j
    if n >=g then break
   else
    o:=o.push (<-elem' a i);i:=i + 1;m:=m + 1;n:=0
    if i + 1==a.size then return lst o i j
    if m >=g then break
  rule "list.sort.gallop"
  g:=g + 1
  for _ in [0:t] do
   if g > 1 then g:=g - 1
   setG g
   let some k <-gal false (<-elem' b j) a i (a.size - i) 0 |return fin o i j
   m:=k
   if k > 0 then
    o:=o ++ a.extract i (i + k);i:=i + k
    if i + 1==a.size then return lst o i j
    if i==a.size then return fin o i j
   o:=o.push (<-elem' b j);j:=j + 1
   if j==b.size then return fin o i j
   let some k <-gal true (<-elem' a i) b j (b.size - j) 0 |return fin o i j
   n:=k
   if k > 0 then
    o:=o ++ b.extract j (j + k);j:=j + k
    if j==b.size then return fin o i j
   o:=o.push (<-elem' a i);i:=i + 1
   if i + 1==a.size then return lst o i j
   if m<7 && n<7 then break
  g:=g + 1
  setG g
 unsupported "internal:list.sort.merge-bound"):=rfl
variable {prog:Program}{w:World}{A:Around}{E:Value->Shared->Prop}{R:Shared->Prop}{α β:Type}{κ:SortKind}{a₀:Array Keyed}{rk:Rk}
def Sg (st st':SortSt):Prop:=∃g,st'=SortSt.mk' (kindOf st) (arrOf st) (pendingOf st) g (failedOf st)
theorem Sg.rfl {st:SortSt}:Sg st st:=⟨gallopOf st,by trivial⟩
theorem Ef {st:SortSt}{g:Nat}{P:Unit->SortSt->Prop}(h:∀st',Sg st st'->P () st'):Ok prog w A E R (setG g) st P:=yr (h _ ⟨g,by trivial⟩)
theorem Sg.trans {s1 s2 s3:SortSt}(a:Sg s1 s2)(b:Sg s2 s3):Sg s1 s3:=by
 obtain⟨g,rfl⟩:=a;obtain⟨g',rfl⟩:=b;exact⟨g',by trivial⟩
theorem Sg.bs {st st':SortSt}(a:Sg st st')(B:Bs κ a₀ st):Bs κ a₀ st':=by
 obtain⟨g,rfl⟩:=a;exact⟨B.kd,B.nf,B.pm⟩
theorem Oa {a:Array Keyed}{i:Nat}:(a.extract i a.size).toList=a.toList.drop i:=by
 rw[xbZ,xbF,xcG (by simp)]
theorem Oc {a:Array Keyed}{i k:Nat}:(a.extract i (i + k)).toList=(a.toList.drop i).take k:=by
 rw[xbZ,xbF,Nat.add_sub_cancel_left]
theorem Hy {a:Array Keyed}{i:Nat}(h:i<a.size):a.toList.drop i=a[i]::a.toList.drop (i + 1):=by
 rw[xaZ (by simpa using h)];rfl
theorem nR {a:Array Keyed}(s:Sd rk a.toList){i j:Nat}(h:i<=j)(hj:j<a.size):rk (a[i]'(by lia))<=rk a[j]:=by
 by_cases e:i=j
 ·subst e;exact xaf _
 ·exact xc1.mp s i j (by simpa using (by lia:i<a.size)) (by simpa using hj) (by lia)
theorem Dz {a:Array Keyed}{i:Nat}{x:Keyed}(h:x∈a.toList.drop i):∃k,i<=k/\∃hk:k<a.size,x=a[k]:=by
 obtain⟨k,hk,e⟩:=xcw h;rw[xe6]at e;simp only[xb8,xax]at hk;exact⟨i + k,by lia,by lia,e.symm⟩
theorem Jh {a:Array Keyed}{i n:Nat}{x:Keyed}(h:x∈(a.toList.drop i).take n):∃k,i<=k/\k<i + n/\∃hk:k<a.size,x=a[k]:=by
 obtain⟨k,hk,e⟩:=xcw h;rw[xe7,xe6]at e;simp only[xbI,xb8,xax]at hk;exact⟨i + k,by lia,by lia,by lia,e.symm⟩
theorem Ls {a:Array Keyed}(s:Sd rk a.toList){i:Nat}:Up (vv rk a) i a.size:=fun k l h1 h2 h3=>by
 rw[dD (by lia),dD h3];exact nR s h2 h3
theorem Y6 {st:SortSt}{a b:Array Keyed}(C:m9 prog w A R κ a₀ rk)(B:Bs κ a₀ st)(ha:∀y∈a,y∈a₀)(hb:∀y∈b,y∈a₀)(sa:Sd rk a.toList)(sb:Sd rk b.toList)(na:0<a.size)(nb:0<b.size)
    (f:∀x∈a,rk b[0]<=rk x) (l:∀y∈b,rk y<=rk a[a.size - 1]) {P:Array Keyed->SortSt->Prop} (q:∀r st',Sd rk r.toList->r.toList.Perm (a.toList ++ b.toList)->Sg st st'->P r st'):Ok prog w A E R (Ae a b) st P:=by
  rw[XJ]
  extract_lets t fin lst i0 j0
  generalize hT:a.toList ++ b.toList=T at q;have fn:∀o i j,Mg rk T o.toList (a.toList.drop i) (b.toList.drop j)->(i=a.size\/j=b.size)->∀st',Sg st st'->P (fin o i j) st':=fun o i j m h st' g=>by
    have e:(fin o i j).toList=o.toList ++ a.toList.drop i ++ b.toList.drop j:=by simp only[fin,xbo,Oa]
    rcases h with rfl |rfl
    · rw[xcH (i:=a.size) (by simp)]at m e;rw[xaJ]at e;exact q _ _ (by rw[e];exact m.swap.fin.1) (by rw[e];exact m.swap.fin.2) g
    · rw[xcH (i:=b.size) (by simp)]at m e;rw[xaJ]at e;exact q _ _ (by rw[e];exact m.fin.1) (by rw[e];exact m.fin.2) g
  have ls:∀o i j,Mg rk T o.toList (a.toList.drop i) (b.toList.drop j)->i + 1=a.size->∀st',Sg st st'->P (lst o i j) st':=fun o i j m h st' g=>by
    have e:(lst o i j).toList=o.toList ++ b.toList.drop j ++ a.toList.drop i:=by simp only[lst,xbo,Oa]
    have d:a.toList.drop i=[a[a.size - 1]]:=by
      rw[Hy (by lia),xcH (by simp;lia)];simp only[show a.size - 1=i by lia]
    have m2 : Mg rk T (o.toList ++ b.toList.drop j) (a.toList.drop i) [] := (Mg.go (X':=[]) (by rw[xaJ];exact m.swap) fun y hy x hx=>by
      rw[d,xaB]at hx;subst hx;exact l y (xby.mp (List.mem_of_mem_drop hy))).swap
    exact q _ _ (by rw[e];exact m2.fin.1) (by rw[e];exact m2.fin.2) g
  clear_value fin lst
  -- a step of b,a step of a
  have stB:∀o i j (hj:j<b.size),Mg rk T o (a.toList.drop i) (b.toList.drop j)->(∀k (hk:k<a.size),i<=k->rk b[j]<=rk a[k])->Mg rk T (o ++ [b[j]]) (a.toList.drop i) (b.toList.drop (j + 1)):=fun o i j hj m h=>
    (Mg.go (X:=[b[j]]) (by have:=m.swap;rw[Hy hj]at this;exact this) fun x hx y hy=>by
      rw[xaB]at hx;subst hx;obtain⟨k,k1,k2,rfl⟩:=Dz hy;exact h k k2 k1).swap
  have stA:∀o i j (hi:i<a.size),Mg rk T o (a.toList.drop i) (b.toList.drop j)->(∀k (hk:k<b.size),j<=k->rk a[i]<=rk b[k])->Mg rk T (o ++ [a[i]]) (a.toList.drop (i + 1)) (b.toList.drop j):=fun o i j hi m h=>
    Mg.go (X:=[a[i]]) (by rw[Hy hi]at m;exact m) fun x hx y hy=>by
      rw[xaB]at hx;subst hx;obtain⟨k,k1,k2,rfl⟩:=Dz hy;exact h k k2 k1
  have m0:Mg rk T [b[0]] (a.toList.drop 0) (b.toList.drop 1):=stB [] 0 0 nb ⟨by simpa using sa,by simpa using sb,by simp[hT]⟩ fun k hk _=>f _ (xaL hk);refine aJ (yt (aJ (dI nb ?_)))
  extract_lets o0
  dsimp -zeta -zetaHave only[i0,j0,o0]
  by_cases h1:1=b.size
  · rw[xac (by simpa using h1)];exact aU (fn _ _ _ m0 (.inr h1) _ Sg.rfl)
  rw[xad (by simpa using h1)]
  by_cases h2:0 + 1=a.size
  · rw[xac (by simpa using h2)];exact aU (ls _ _ _ m0 h2 _ Sg.rfl)
  rw[xad (by simpa using h2)];clear i0 j0 o0;refine aJ (nH ?_)
  let Gd:Array Keyed->Prop:=fun r=>∀st',Sg st st'->P r st'
  let J:Array Keyed->Nat->Nat->Prop:=fun o i j=>i + 1<a.size/\j<b.size/\Mg rk T o.toList (a.toList.drop i) (b.toList.drop j)
  refine aJ (Ok.mono (P:=fun c s2=>Sg st s2/\∃r o i j g,c=(some r,o,i,j,g)/\Gd r)
    (f9 (fun x c s2=>Sg st s2/\∃o i j g,c=(none,o,i,j,g)/\J o i j/\x<i + j) ⟨Sg.rfl,_,0,1,_,rfl,⟨by lia,by lia,m0⟩,by lia⟩ ?_ ?_) ?_)
  · rintro x c s2 x1 x2 ⟨g2,o,i,j,g,rfl,hJ,hx⟩
    extract_lets o' i' j' g' m' n'
    refine aJ (Ok.mono (P:=fun c s3=>Sg st s3/\∃o i j m n,(J o i j/\x + 1<i + j/\c=(none,o,i,j,m,n))\/∃r,c=(some r,o,i,j,m,n)/\Gd r)
      (f9 (fun y c s3=>Sg st s3/\∃o i j m n,c=(none,o,i,j,m,n)/\J o i j/\x + y<i + j) ⟨g2,o,i,j,0,0,rfl,hJ,by lia⟩ ?_ ?_) ?_)
    · rintro y c s3 y1 y2 ⟨g3,o,i,j,m,n,rfl,⟨J1,J2,J3⟩,hy⟩
      clear_value o' i' j' g' m' n'
      dsimp only;refine aJ (dI J2 (aJ (dI (by lia) (aJ (Aq C (g3.bs B) (hb _ (xaL _)) (ha _ (xaL _)) ?_)))));dsimp only
      by_cases hc:rk b[j]<rk a[i]
      · rw[xac (by simpa using hc)];have m2:=stB _ i j J2 J3 fun k hk ik=>xay (xbf hc) (nR sa ik hk);rw[<-xbA]at m2;refine aJ (dI J2 ?_)
        by_cases e:j + 1=b.size
        · rw[xac (by simpa using e)];exact aU ⟨g3,_,_,_,_,_,.inr ⟨_,rfl,fn _ _ _ m2 (.inr e)⟩⟩
        · rw[xad (by simpa using e)]
          split
          · exact aU ⟨g3,_,_,_,_,_,.inl ⟨⟨J1,by lia,m2⟩,by lia,rfl⟩⟩
          · exact aU ⟨g3,_,_,_,_,_,rfl,⟨J1,by lia,m2⟩,by lia⟩
      · rw[xad (by simpa using hc)];have m2:=stA _ i j (by lia) J3 fun k hk ik=>xay (xbU hc) (nR sb ik hk);rw[<-xbA]at m2;refine aJ (dI (by lia) ?_)
        by_cases e:i + 1 + 1=a.size
        · rw[xac (by simpa using e)];exact aU ⟨g3,_,_,_,_,_,.inr ⟨_,rfl,ls _ _ _ m2 e⟩⟩
        · rw[xad (by simpa using e)]
          split
          · exact aU ⟨g3,_,_,_,_,_,.inl ⟨⟨by lia,J2,m2⟩,by lia,rfl⟩⟩
          · exact aU ⟨g3,_,_,_,_,_,rfl,⟨by lia,J2,m2⟩,by lia⟩
    · rintro c s3 ⟨g3,o,i,j,m,n,rfl,hJ,hy⟩;exact⟨g3,o,i,j,m,n,.inl ⟨hJ,by lia,rfl⟩⟩
    · rintro c s3 ⟨g3,o,i,j,m,n,⟨hJ,hy,rfl⟩ |⟨r,rfl,hr⟩⟩
      · refine aJ (yt (aJ (Ok.mono (P:=fun c s4=>Sg st s4/\∃o i j g m n,(J o i j/\x + 1<i + j/\c=(none,o,i,j,g,m,n))\/∃r,c=(some r,o,i,j,g,m,n)/\Gd r)
          (f9 (fun y c s4=>Sg st s4/\∃o i j g m n,c=(none,o,i,j,g,m,n)/\J o i j/\x + 1<i + j) ⟨g3,o,i,j,_,m,n,rfl,hJ,hy⟩ ?_ ?_) ?_)))
        · clear hJ hy o i j m n
          clear_value o' i' j' g' m' n'
          rintro y c s4 y1 y2 ⟨g4,o,i,j,g,m,n,rfl,⟨J1,J2,J3⟩,hy⟩
          extract_lets z0 oo z1 ii z2 jj z3 gg z4 mm nn j1 jp g1
          have eo:oo=o:=rfl;have ei:ii=i:=rfl;have ej:jj=j:=rfl
          clear_value z0 z1 z2 z3 z4 oo ii jj gg mm nn
          clear z0 z1 z2 z3 z4;subst eo ei ej
          suffices hjp:∀g',Ok prog w A E R (jp () g') s4 _ by split<;>exact hjp _
          intro g';refine aJ (Ef fun s5 g5=>aJ (dI J2 ?_))
          replace g5:=g4.trans g5
          refine aJ (yq C (g5.bs B) (hb _ (xaL _)) ha (by lia) (by lia) (by rw[show ii + (a.size - ii)=a.size by lia];exact Ls sa) fun k k1 k2 k3=>?_);have t0:thr rk false b[jj]=rk b[jj] + 1:=rfl;rw[t0]at k2 k3
          dsimp -zeta -zetaHave only
          extract_lets mk jp2 o2 i2
          suffices hjp2:∀o i,i + 1<a.size->ii<=i->(∀k (hk:k<a.size),i<=k->rk b[jj]<=rk a[k])->Mg rk T o.toList (a.toList.drop i) (b.toList.drop jj)->Ok prog w A E R (jp2 () o i) s5 _ by
            have hk3:∀k' (hk:k'<a.size),ii + k<=k'->rk b[jj]<=rk a[k']:=fun k' hk h=>by
              have:=k3 (k' - ii) (by lia) (by lia);rw[show ii + (k' - ii)=k' by lia,dD hk]at this;lia
            by_cases hk:k > 0
            · rw[xac hk];have m2:Mg rk T o2.toList (a.toList.drop i2) (b.toList.drop jj):=by
                have e:o2.toList=oo.toList ++ (a.toList.drop ii).take k:=by simp only[o2,xbo,Oc]
                rw[e];refine Mg.go (X':=a.toList.drop i2) (by simp only[i2];rw[<-xeF,xcP];exact J3) fun u hu v hv=>?_;obtain⟨p,p1,p2,p3,rfl⟩:=Jh hu;obtain⟨p',p1',p2',rfl⟩:=Dz hv;have z1:=k2 (p - ii) (by lia);rw[show ii + (p - ii)=p by lia,dD p3]at z1;have z2:=nR sb p1' p2';lia
              have ei2:i2=ii + k:=rfl
              clear_value o2 i2
              by_cases e1:i2 + 1=a.size
              · rw[xac (by simpa using e1)];exact aU ⟨g5,_,_,_,_,_,_,.inr ⟨_,rfl,ls _ _ _ m2 e1⟩⟩
              rw[xad (by simpa using e1)]
              by_cases e2:i2=a.size
              · rw[xac (by simpa using e2)];exact aU ⟨g5,_,_,_,_,_,_,.inr ⟨_,rfl,fn _ _ _ m2 (.inl e2)⟩⟩
              rw[xad (by simpa using e2)];exact hjp2 _ _ (by lia) (by lia) (fun k' hk' h=>hk3 k' hk' (by lia)) m2
            · rw[xad hk];exact hjp2 _ _ J1 (xaf _) (fun k' hk' h=>hk3 k' hk' (by lia)) J3
          intro o i i1 i3 hlow m2;refine aJ (dI J2 ?_);have m3:=stB _ i jj J2 m2 hlow;rw[<-xbA]at m3
          extract_lets o3 i4
          have ej1:j1=jj + 1:=rfl
          change Mg rk T o3.toList (a.toList.drop i) (b.toList.drop j1) at m3
          clear_value o3 j1
          by_cases e3:j1=b.size
          · rw[xac (by simpa using e3)];exact aU ⟨g5,_,_,_,_,_,_,.inr ⟨_,rfl,fn _ _ _ m3 (.inr e3)⟩⟩
          rw[xad (by simpa using e3)];refine aJ (dI (by lia) (aJ (yq C (g5.bs B) (ha _ (xaL _)) hb (by lia) (by lia) (by rw[show j1 + (b.size - j1)=b.size by lia];exact Ls sb) fun k' k1' k2' k3'=>?_)));have t1:thr rk true a[i]=rk a[i]:=rfl;rw[t1]at k2' k3'
          dsimp -zeta -zetaHave only
          extract_lets nk jp3 o4 j4
          suffices hjp3:∀o j,j1<=j->j<b.size->(∀k (hk:k<b.size),j<=k->rk a[i]<=rk b[k])->Mg rk T o.toList (a.toList.drop i) (b.toList.drop j)->Ok prog w A E R (jp3 () o j) s5 _ by
            have hk3:∀k (hk:k<b.size),j1 + k'<=k->rk a[i]<=rk b[k]:=fun k hk h=>by
              have:=k3' (k - j1) (by lia) (by lia);rw[show j1 + (k - j1)=k by lia,dD hk]at this;lia
            by_cases hk:k' > 0
            · rw[xac hk];have m4:Mg rk T o4.toList (a.toList.drop i) (b.toList.drop j4):=by
                have e:o4.toList=o3.toList ++ (b.toList.drop j1).take k':=by simp only[o4,xbo,Oc]
                rw[e];refine(Mg.go (X':=b.toList.drop j4) (by simp only[j4];rw[<-xeF,xcP];exact m3.swap) fun u hu v hv=>?_).swap;obtain⟨p,p1,p2,p3,rfl⟩:=Jh hu;obtain⟨p',p1',p2',rfl⟩:=Dz hv;have z1:=k2' (p - j1) (by lia);rw[show j1 + (p - j1)=p by lia,dD p3]at z1;have z2:=nR sa p1' p2';lia
              have ej4:j4=j1 + k':=rfl
              clear_value o4 j4
              by_cases e1:j4=b.size
              · rw[xac (by simpa using e1)];exact aU ⟨g5,_,_,_,_,_,_,.inr ⟨_,rfl,fn _ _ _ m4 (.inr e1)⟩⟩
              rw[xad (by simpa using e1)];exact hjp3 _ _ (by lia) (by lia) (fun k hk' h=>hk3 k hk' (by lia)) m4
            · rw[xad hk];exact hjp3 _ _ (xaf _) (by lia) (fun k hk' h=>hk3 k hk' (by lia)) m3
          intro o j jl jb hlow2 m5;refine aJ (dI (by lia) ?_);have m6:=stA _ i j (by lia) m5 hlow2;rw[<-xbA]at m6
          extract_lets o5
          have ei4:i4=i + 1:=rfl
          change Mg rk T o5.toList (a.toList.drop i4) (b.toList.drop j) at m6
          clear_value o5 i4
          by_cases e4:i4 + 1=a.size
          · rw[xac (by simpa using e4)];exact aU ⟨g5,_,_,_,_,_,_,.inr ⟨_,rfl,ls _ _ _ m6 e4⟩⟩
          rw[xad (by simpa using e4)]
          split
          · exact aU ⟨g5,_,_,_,_,_,_,.inl ⟨⟨by lia,jb,m6⟩,by lia,rfl⟩⟩
          · exact aU ⟨g5,_,_,_,_,_,_,rfl,⟨by lia,jb,m6⟩,by lia⟩
        · rintro c s4 ⟨g4,o,i,j,g,m,n,rfl,hJ,hy⟩;exact⟨g4,o,i,j,g,m,n,.inl ⟨hJ,hy,rfl⟩⟩
        · rintro c s4 ⟨g4,o,i,j,g,m,n,⟨hJ,hy,rfl⟩ |⟨r,rfl,hr⟩⟩
          · exact aJ (Ef fun s5 g5=>aU ⟨g4.trans g5,o,i,j,_,rfl,hJ,hy⟩)
          · exact aU ⟨g4,r,_,_,_,_,rfl,hr⟩
      · exact aU ⟨g3,r,_,_,_,_,rfl,hr⟩
  · rintro c s2 ⟨g2,o,i,j,g,rfl,hJ,hx⟩;have:=hJ.1;have:=hJ.2.1;lia
  · rintro c s2 ⟨g2,r,o,i,j,g,rfl,hr⟩;exact aU (hr s2 g2)
variable {prog:Program}{w:World}{A:Around}{E:Value->Shared->Prop}{R:Shared->Prop}{α β:Type}{κ:SortKind}{a₀:Array Keyed}{rk:Rk}
theorem XH (a b : Array Keyed) : Ac a b = (do
 rule "list.sort.merge-hi"
 let t:=a.size + b.size
 let fin (o:Array Keyed) (i j:Nat):=a.extract 0 i ++ b.extract 0 j ++ o.reverse
 let lst (o:Array Keyed) (i j:Nat):=b.extract 0 j ++ a.extract 0 i ++ o.reverse
 let mut i:=a.size - 1
 let mut j:=b.size
 let mut o:Array Keyed:= #[<-elem' a i]
 if i==0 then return fin o i j
 if j==1 then return lst o i j
 let mut g:=gallopOf (<-get)
 for _ in [0:t] do
  let mut m:=0
  let mut n:=0
  for _ in [0:t] do
   let some c <-lt' (<-elem' b (j - 1)) (<-elem' a (i - 1)) |return fin o i j
   if c then
    i:=i - 1;o:=o.push (<-elem' a i);m:=m + 1;n:=0
    if i==0 then return fin o i j
    if m >=g then break
   else
    j:=j - 1;o:=o.push (<-elem' b j);n:=n + 1;m:=0
    if j==1 then return lst o i j
    if n >=g then break
  rule "list.sort.gallop"
  g:=g + 1
  for _ in [0:t] do
   if g > 1 then g:=g - 1
   setG g
   let some p <-gal false (<-elem' b (j - 1)) a 0 i (i - 1) |return fin o i j
   let k:=i - p
   m:=k
   if k > 0 then
    o:=o ++ (a.extract p i).reverse;i:=p
    if i==0 then return fin o i j
   j:=j - 1;o:=o.push (<-elem' b j)
   if j==1 then return lst o i j
   let some p <-gal true (<-elem' a (i - 1)) b 0 j (j - 1) |return fin o i j
   let k:=j - p
   n:=k
   if k > 0 then
    o:=o ++ (b.extract p j).reverse;j:=p
    if j==1 then return lst o i j
    if j==0 then return fin o i j
   i:=i - 1;o:=o.push (<-elem' a i)
   if i==0 then return fin o i j
   if m<7 && n<7 then break
  g:=g + 1
  setG g
 unsupported "internal:list.sort.merge-bound"):=rfl
theorem Ob {a:Array Keyed}{i:Nat}:(a.extract 0 i).toList=a.toList.take i:=by
 rw[xbZ,xbF,xdd,Nat.sub_zero]
theorem H_ {a:Array Keyed}{p i:Nat}(h:p<=i):a.toList.take i=a.toList.take p ++ (a.extract p i).toList:=by
 rw[xbZ,xbF];have e:p + (i - p)=i:=by lia
 rw[<-List.take_add,e]
theorem Lj {a:Array Keyed}{i:Nat}(h:i<a.size):a.toList.take (i + 1)=a.toList.take i ++ [a[i]]:=by
 rw[List.take_add_one,xar (by simpa using h)];rfl
theorem DN {a:Array Keyed}{i:Nat}{x:Keyed}(h:x∈a.toList.take i):∃k,k<i/\∃hk:k<a.size,x=a[k]:=by
 obtain⟨k,hk,e⟩:=xcw h;rw[xe7]at e;simp only[xbI,xax]at hk;exact⟨k,by lia,by lia,e.symm⟩
theorem mem_mid {a:Array Keyed}{p i:Nat}{x:Keyed}(h:x∈(a.extract p i).toList):∃k,p<=k/\k<i/\∃hk:k<a.size,x=a[k]:=by
 rw[xbZ,xbF]at h;obtain⟨k,k1,k2,k3,e⟩:=Jh h;exact⟨k,k1,by lia,k3,e⟩
theorem T5 {a:Array Keyed}(s:Sd rk a.toList){i:Nat}(h:i<=a.size):Up (vv rk a) 0 (0 + i):=fun k l h1 h2 h3=>by
 rw[dD (by lia),dD (by lia)];exact nR s h2 (by lia)
theorem Y5 {st:SortSt}{a b:Array Keyed}(C:m9 prog w A R κ a₀ rk)(B:Bs κ a₀ st)(ha:∀y∈a,y∈a₀)(hb:∀y∈b,y∈a₀)(sa:Sd rk a.toList)(sb:Sd rk b.toList)(na:0<a.size)(nb:0<b.size)
    (f:∀x∈a,rk b[0]<=rk x) (l:∀y∈b,rk y<=rk a[a.size - 1]) {P:Array Keyed->SortSt->Prop} (q:∀r st',Sd rk r.toList->r.toList.Perm (a.toList ++ b.toList)->Sg st st'->P r st'):Ok prog w A E R (Ac a b) st P:=by
  rw[XH]
  extract_lets t fin lst i0 j0
  generalize hT:a.toList ++ b.toList=T at q;have fn:∀o i j,Mh rk T o.toList.reverse (a.toList.take i) (b.toList.take j)->(i=0\/j=0)->∀st',Sg st st'->P (fin o i j) st':=fun o i j m h st' g=>by
    have e:(fin o i j).toList=a.toList.take i ++ b.toList.take j ++ o.toList.reverse:=by simp only[fin,xbo,Ob,xcV]
    have p:(fin o i j).toList.Perm T:=by rw[e];exact m.p
    refine q _ _ ?_ p g;rcases h with rfl |rfl
    · rw[e,xeG,xbD];exact m.y
    · rw[e,xeG,xaJ];exact m.x
  have ls:∀o i j,Mh rk T o.toList.reverse (a.toList.take i) (b.toList.take j)->j=1->∀st',Sg st st'->P (lst o i j) st':=fun o i j m h st' g=>by
    have e:(lst o i j).toList=b.toList.take j ++ (a.toList.take i ++ o.toList.reverse):=by simp only[lst,xbo,Ob,xcV,xaD]
    have m2:Mh rk T (a.toList.take i ++ o.toList.reverse) [] (b.toList.take j):=Mh.go (X':=[]) (by rw[xbD];exact m) fun x hx y hy=>by
      subst h;rw[show(1:Nat)=0 + 1 from rfl,Lj nb]at hy;rw[xeG,xbD,xaB]at hy;subst hy;exact f x (xby.mp (List.mem_of_mem_take hx))
    refine q _ _ (by rw[e];exact m2.y) ?_ g;rw[e];have:=m2.p
    rwa [xbD]at this
  clear_value fin lst
  have stA:∀o i j (hi:i<a.size),Mh rk T o (a.toList.take (i + 1)) (b.toList.take j)->(∀k (hk:k<b.size),k<j->rk b[k]<=rk a[i])->Mh rk T (a[i]::o) (a.toList.take i) (b.toList.take j):=fun o i j hi m h=>
    Mh.go (X:=[a[i]]) (by rw[Lj hi]at m;exact m) fun x hx y hy=>by
      rw[xaB]at hx;subst hx;obtain⟨k,k1,k2,rfl⟩:=DN hy;exact h k k2 k1
  have stB:∀o i j (hj:j<b.size),Mh rk T o (a.toList.take i) (b.toList.take (j + 1))->(∀k (hk:k<a.size),k<i->rk a[k]<=rk b[j])->Mh rk T (b[j]::o) (a.toList.take i) (b.toList.take j):=fun o i j hj m h=>
    (Mh.go (X:=[b[j]]) (by have:=m.swap;rw[Lj hj]at this;exact this) fun x hx y hy=>by
      rw[xaB]at hx;subst hx;obtain⟨k,k1,k2,rfl⟩:=DN hy;exact h k k2 k1).swap
  have m0 : Mh rk T [a[a.size - 1]] (a.toList.take (a.size - 1)) (b.toList.take b.size) := stA [] (a.size - 1) b.size (by lia) (by
    rw[show a.size - 1 + 1=a.size by lia,xcG (by simp),xcG (by simp)];exact⟨by simpa using sa,by simpa using sb,by simp[hT]⟩) fun k hk _=>l _ (xaL hk)
  refine aJ (yt (aJ (dI (show i0<a.size by simp only[i0];lia) ?_)))
  extract_lets o0
  dsimp -zeta -zetaHave only[i0,j0,o0]
  by_cases h1:a.size - 1=0
  · rw[xac (by simpa using h1)];exact aU (fn #[a[a.size - 1]] _ _ m0 (.inl h1) _ Sg.rfl)
  rw[xad (by simpa using h1)]
  by_cases h2:b.size=1
  · rw[xac (by simpa using h2)];exact aU (ls #[a[a.size - 1]] _ _ m0 h2 _ Sg.rfl)
  rw[xad (by simpa using h2)];refine aJ (nH ?_)
  let Gd:Array Keyed->Prop:=fun r=>∀st',Sg st st'->P r st'
  let J:Array Keyed->Nat->Nat->Prop:=fun o i j=>0<i/\i<a.size/\1<j/\j<=b.size/\Mh rk T o.toList.reverse (a.toList.take i) (b.toList.take j)
  refine aJ (Ok.mono (P:=fun c s2=>Sg st s2/\∃r o i j g,c=(some r,i,j,o,g)/\Gd r)
    (f9 (fun x c s2=>Sg st s2/\∃o i j g,c=(none,i,j,o,g)/\J o i j/\x + i + j<t) ⟨Sg.rfl,_,_,_,_,rfl,⟨by lia,by lia,by lia,by lia,m0⟩,by simp only[t];lia⟩ ?_ ?_) ?_)
  · rintro x c s2 x1 x2 ⟨g2,o,i,j,g,rfl,hJ,hx⟩
    extract_lets i' j' o' g' m' n'
    refine aJ (Ok.mono (P:=fun c s3=>Sg st s3/\∃o i j m n,(J o i j/\x + 1 + i + j<t/\c=(none,i,j,o,m,n))\/∃r,c=(some r,i,j,o,m,n)/\Gd r)
      (f9 (fun y c s3=>Sg st s3/\∃o i j m n,c=(none,i,j,o,m,n)/\J o i j/\x + y + i + j<t) ⟨g2,o,i,j,0,0,rfl,hJ,by lia⟩ ?_ ?_) ?_)
    · rintro y c s3 y1 y2 ⟨g3,o,i,j,m,n,rfl,⟨J1,J2,J3,J4,J5⟩,hy⟩
      clear_value o' i' j' g' m' n'
      dsimp only;refine aJ (dI (show j - 1<b.size by lia) (aJ (dI (show i - 1<a.size by lia) (aJ (Aq C (g3.bs B) (hb _ (xaL _)) (ha _ (xaL _)) ?_)))));dsimp only
      by_cases hc:rk b[j - 1]<rk a[i - 1]
      · rw[xac (by simpa using hc)];have m2:=stA _ (i - 1) j (by lia) (by rw[show i - 1 + 1=i by lia];exact J5) fun k hk ik=>xay (nR sb (show k<=j - 1 by lia) (by lia)) (xbf hc);refine aJ (dI (show i - 1<a.size by lia) ?_);have m3:Mh rk T (o.push a[i - 1]).toList.reverse (a.toList.take (i - 1)) (b.toList.take j):=by rw[xbA,xb6];exact m2
        by_cases e:i - 1=0
        · rw[xac (by simpa using e)];exact aU ⟨g3,_,_,_,_,_,.inr ⟨_,rfl,fn _ _ _ m3 (.inl e)⟩⟩
        · rw[xad (by simpa using e)]
          split
          · exact aU ⟨g3,_,_,_,_,_,.inl ⟨⟨by lia,by lia,J3,J4,m3⟩,by lia,rfl⟩⟩
          · exact aU ⟨g3,_,_,_,_,_,rfl,⟨by lia,by lia,J3,J4,m3⟩,by lia⟩
      · rw[xad (by simpa using hc)];have m2:=stB _ i (j - 1) (by lia) (by rw[show j - 1 + 1=j by lia];exact J5) fun k hk ik=>xay (nR sa (show k<=i - 1 by lia) (by lia)) (xbU hc);refine aJ (dI (show j - 1<b.size by lia) ?_);have m3:Mh rk T (o.push b[j - 1]).toList.reverse (a.toList.take i) (b.toList.take (j - 1)):=by rw[xbA,xb6];exact m2
        by_cases e:j - 1=1
        · rw[xac (by simpa using e)];exact aU ⟨g3,_,_,_,_,_,.inr ⟨_,rfl,ls _ _ _ m3 e⟩⟩
        · rw[xad (by simpa using e)]
          split
          · exact aU ⟨g3,_,_,_,_,_,.inl ⟨⟨J1,J2,by lia,by lia,m3⟩,by lia,rfl⟩⟩
          · exact aU ⟨g3,_,_,_,_,_,rfl,⟨J1,J2,by lia,by lia,m3⟩,by lia⟩
    · rintro c s3 ⟨g3,o,i,j,m,n,rfl,hJ,hy⟩;exact⟨g3,o,i,j,m,n,.inl ⟨hJ,by simp only[t]at hy ⊢;lia,rfl⟩⟩
    · rintro c s3 ⟨g3,o,i,j,m,n,⟨hJ,hy,rfl⟩ |⟨r,rfl,hr⟩⟩
      · refine aJ (yt (aJ (Ok.mono (P:=fun c s4=>Sg st s4/\∃o i j g m n,(J o i j/\x + 1 + i + j<t/\c=(none,i,j,o,g,m,n))\/∃r,c=(some r,i,j,o,g,m,n)/\Gd r)
          (f9 (fun y c s4=>Sg st s4/\∃o i j g m n,c=(none,i,j,o,g,m,n)/\J o i j/\x + 1 + i + j<t) ⟨g3,o,i,j,_,m,n,rfl,hJ,hy⟩ ?_ ?_) ?_)))
        · clear hJ hy o i j m n
          clear_value o' i' j' g' m' n'
          rintro y c s4 y1 y2 ⟨g4,o,i,j,g,m,n,rfl,⟨J1,J2,J3,J4,J5⟩,hy⟩
          extract_lets z0 ii z1 jj z2 oo z3 gg z4 mm nn j1 jp g1
          have eo:oo=o:=rfl;have ei:ii=i:=rfl;have ej:jj=j:=rfl
          clear_value z0 z1 z2 z3 z4 oo ii jj gg mm nn
          clear z0 z1 z2 z3 z4;subst eo ei ej
          suffices hjp:∀g',Ok prog w A E R (jp () g') s4 _ by split<;>exact hjp _
          intro g';refine aJ (Ef fun s5 g5=>aJ (dI (show jj - 1<b.size by lia) ?_))
          replace g5:=g4.trans g5
          refine aJ (yq C (g5.bs B) (hb _ (xaL _)) ha (by lia) (by lia) (T5 sa (by lia)) fun p k1 k2 k3=>?_);have t0:thr rk false b[jj - 1]=rk b[jj - 1] + 1:=rfl;rw[t0]at k2 k3;simp only[Nat.zero_add]at k2 k3
          dsimp -zeta -zetaHave only
          extract_lets kk mk jp2 o2 i2
          suffices hjp2:∀i o,0<i->i<=ii->(∀k (hk:k<a.size),k<i->rk a[k]<=rk b[jj - 1])->Mh rk T o.toList.reverse (a.toList.take i) (b.toList.take jj)->Ok prog w A E R (jp2 () i o) s5 _ by
            have hk2:∀k (hk:k<a.size),k<p->rk a[k]<=rk b[jj - 1]:=fun k hk h=>by
              have:=k2 k h;rw[dD hk]at this;lia
            by_cases hk:kk > 0
            · rw[xac hk];have m2:Mh rk T o2.toList.reverse (a.toList.take i2) (b.toList.take jj):=by
                have e:o2.toList.reverse=(a.extract p ii).toList ++ oo.toList.reverse:=by simp only[o2,xbo,xcV,xb6,xeM]
                rw[e];refine Mh.go (X':=a.toList.take i2) (by simp only[i2];rw[<-H_ k1];exact J5) fun u hu v hv=>?_;obtain⟨q1,p1,p2,p3,rfl⟩:=mem_mid hu;obtain⟨q2,p1',p2',rfl⟩:=DN hv;have z1:=k3 q1 p1 p2;rw[dD p3]at z1;have z2:=nR sb (show q2<=jj - 1 by lia) (by lia);lia
              have ei2:i2=p:=rfl
              clear_value o2 i2
              subst ei2
              by_cases e1:i2=0
              · rw[xac (by simpa using e1)];exact aU ⟨g5,_,_,_,_,_,_,.inr ⟨_,rfl,fn _ _ _ m2 (.inl e1)⟩⟩
              rw[xad (by simpa using e1)];exact hjp2 _ _ (by lia) (by lia) hk2 m2
            · rw[xad hk];have ep:p=ii:=by simp only[kk]at hk;lia
              subst ep;exact hjp2 _ _ J1 (xaf _) hk2 J5
          intro i o i1 i3 hlow m2;have ej1:j1=jj - 1:=rfl;refine aJ (dI (show j1<b.size by lia) ?_);have m3:=stB _ i j1 (by lia) (by rw[show j1 + 1=jj by lia];exact m2) hlow
          extract_lets o3 i4
          replace m3:Mh rk T o3.toList.reverse (a.toList.take i) (b.toList.take j1):=by simp only[o3];rw[xbA,xb6];exact m3
          clear_value o3 j1
          by_cases e3:j1=1
          · rw[xac (by simpa using e3)];exact aU ⟨g5,_,_,_,_,_,_,.inr ⟨_,rfl,ls _ _ _ m3 e3⟩⟩
          rw[xad (by simpa using e3)];refine aJ (dI (show i - 1<a.size by lia) (aJ (yq C (g5.bs B) (ha _ (xaL _)) hb (by lia) (by lia) (T5 sb (by lia)) fun p' k1' k2' k3'=>?_)));have t1:thr rk true a[i - 1]=rk a[i - 1]:=rfl;rw[t1]at k2' k3';simp only[Nat.zero_add]at k2' k3'
          dsimp -zeta -zetaHave only
          extract_lets k4 nk jp3 o4 j4
          suffices hjp3:∀j o,j<=j1->1<j->(∀k (hk:k<b.size),k<j->rk b[k]<=rk a[i - 1])->Mh rk T o.toList.reverse (a.toList.take i) (b.toList.take j)->Ok prog w A E R (jp3 () j o) s5 _ by
            have hk2:∀k (hk:k<b.size),k<p'->rk b[k]<=rk a[i - 1]:=fun k hk h=>by
              have:=k2' k h;rw[dD hk]at this;lia
            by_cases hk:k4 > 0
            · rw[xac hk];have m4:Mh rk T o4.toList.reverse (a.toList.take i) (b.toList.take j4):=by
                have e:o4.toList.reverse=(b.extract p' j1).toList ++ o3.toList.reverse:=by simp only[o4,xbo,xcV,xb6,xeM]
                rw[e];refine(Mh.go (X':=b.toList.take j4) (by simp only[j4];rw[<-H_ k1'];exact m3.swap) fun u hu v hv=>?_).swap;obtain⟨q1,p1,p2,p3,rfl⟩:=mem_mid hu;obtain⟨q2,p1',p2',rfl⟩:=DN hv;have z1:=k3' q1 p1 p2;rw[dD p3]at z1;have z2:=nR sa (show q2<=i - 1 by lia) (by lia);lia
              have ej4:j4=p':=rfl
              clear_value o4 j4
              subst ej4
              by_cases e1:j4=1
              · rw[xac (by simpa using e1)];exact aU ⟨g5,_,_,_,_,_,_,.inr ⟨_,rfl,ls _ _ _ m4 e1⟩⟩
              rw[xad (by simpa using e1)]
              by_cases e2:j4=0
              · rw[xac (by simpa using e2)];exact aU ⟨g5,_,_,_,_,_,_,.inr ⟨_,rfl,fn _ _ _ m4 (.inr e2)⟩⟩
              rw[xad (by simpa using e2)];exact hjp3 _ _ (by lia) (by lia) hk2 m4
            · rw[xad hk];have ep:p'=j1:=by simp only[k4]at hk;lia
              exact hjp3 _ _ (xaf _) (by lia) (fun k hk h=>hk2 k hk (by lia)) m3
          intro j o jl jb hlow2 m5;have ei4:i4=i - 1:=rfl;refine aJ (dI (show i4<a.size by lia) ?_);have m6:=stA _ i4 j (by lia) (by rw[show i4 + 1=i by lia];exact m5) hlow2
          extract_lets o5
          replace m6:Mh rk T o5.toList.reverse (a.toList.take i4) (b.toList.take j):=by simp only[o5];rw[xbA,xb6];exact m6
          clear_value o5 i4
          by_cases e4:i4=0
          · rw[xac (by simpa using e4)];exact aU ⟨g5,_,_,_,_,_,_,.inr ⟨_,rfl,fn _ _ _ m6 (.inl e4)⟩⟩
          rw[xad (by simpa using e4)]
          split
          · exact aU ⟨g5,_,_,_,_,_,_,.inl ⟨⟨by lia,by lia,jb,by lia,m6⟩,by lia,rfl⟩⟩
          · exact aU ⟨g5,_,_,_,_,_,_,rfl,⟨by lia,by lia,jb,by lia,m6⟩,by lia⟩
        · rintro c s4 ⟨g4,o,i,j,g,m,n,rfl,hJ,hy⟩;exact⟨g4,o,i,j,g,m,n,.inl ⟨hJ,hy,rfl⟩⟩
        · rintro c s4 ⟨g4,o,i,j,g,m,n,⟨hJ,hy,rfl⟩ |⟨r,rfl,hr⟩⟩
          · exact aJ (Ef fun s5 g5=>aU ⟨g4.trans g5,o,i,j,_,rfl,hJ,hy⟩)
          · exact aU ⟨g4,r,_,_,_,_,rfl,hr⟩
      · exact aU ⟨g3,r,_,_,_,_,rfl,hr⟩
  · rintro c s2 ⟨g2,o,i,j,g,rfl,hJ,hx⟩;have:=hJ.1;simp only[t]at hx;lia
  · rintro c s2 ⟨g2,r,o,i,j,g,rfl,hr⟩;exact aU (hr s2 g2)
variable {prog:Program}{w:World}{A:Around}{E:Value->Shared->Prop}{R:Shared->Prop}{α β:Type}{κ:SortKind}{a₀:Array Keyed}{rk:Rk}
noncomputable def lay (o:Nat) (m a:Array Keyed):Array Keyed:=m.toList.zipIdx.foldl (fun a (p,j)=>a.setIfInBounds (o + j) p) a
theorem X5 (i : Nat) : mergeAt' i = (do
 let s <-get
 let (some (o,n,w),some (p,m,_)):=((pendingOf s)[i]?,(pendingOf s)[i + 1]?) |unsupported "internal:list.sort.pending"
 set (setPending s (((pendingOf s).setIfInBounds i (o,n + m,w)).eraseIdxIfInBounds (i + 1)))
 let some k <-gal false (<-elem' (arrOf s) p) (arrOf s) o n 0 |return false
 let (o,n):=(o + k,n - k)
 if n==0 then return true
 let some m <-gal true (<-elem' (arrOf s) (o + n - 1)) (arrOf s) p m (m - 1) |return false
 if m==0 then return true
 let x:=(arrOf s).extract o p
 let y:=(arrOf s).extract p (p + m)
 let r <-if n<=m then Ae x y else Ac x y
 modify fun s=>setArr s (lay o r (arrOf s))
 return (failedOf (<-get)).isNone):=rfl
theorem Py (o:Nat):∀(l:List Keyed) (d:Nat) (a:Array Keyed),o + d + l.length<=a.size->
    ((l.zipIdx d).foldl (fun a (p,j)=>a.setIfInBounds (o + j) p) a).size=a.size/\∀k,((l.zipIdx d).foldl (fun a (p,j)=>a.setIfInBounds (o + j) p) a)[k]? =if o + d<=k/\k<o + d + l.length then l[k - (o + d)]? else a[k]?
  | [],d,a,h=>⟨rfl,fun k=>by rw[xad (by simp only[xbE];lia)];rfl⟩
  |x::l,d,a,h=>by
    rw[xav]at h;obtain⟨h1,h2⟩:=Py o l (d + 1) (a.setIfInBounds (o + d) x) (by rw[xek];lia);rw[xek]at h1;refine⟨h1,fun k=>(h2 k).trans ?_⟩;rw[xav]
    by_cases c:k=o + d
    · subst c;rw[xad (by lia),xac (by lia),xbS,xdI,xac rfl,xac (by lia)];rfl
    · by_cases c2:o + (d + 1)<=k/\k<o + (d + 1) + l.length
      · rw[xac c2,xac (by lia),show k - (o + d)=k - (o + (d + 1)) + 1 by lia,xba]
      · rw[xad c2,xad (by lia),xdI,xad (by lia)]
theorem Px {o:Nat}{m a:Array Keyed}(h:o + m.size<=a.size)(k:Nat):(lay o m a)[k]? =if o<=k/\k<o + m.size then m[k - o]? else a[k]? :=by
 have:=(Py o m.toList 0 a (by simpa using h)).2 k;simp only[Nat.add_zero,xax,xbi]at this;exact this
theorem Xp {o:Nat}{m a:Array Keyed}(h:o + m.size<=a.size)(p:m.toList.Perm (a.extract o (o + m.size)).toList):(lay o m a).Perm a:=by
 have e1:(lay o m a).toList=a.toList.take o ++ (m.toList ++ a.toList.drop (o + m.size)):=by
  refine xdi fun k=>?_;rw[xbi,Px h]
  by_cases c:k<o
  ·rw[xad (by lia),xaG (by simp;lia),xc7 c,xbi]
  ·rw[xat (by simp;lia),xbI,xax,show min o a.size=o by lia]
   by_cases c2:k<o + m.size
   ·rw[xac (by lia),xaG (by simp;lia),xbi]
   ·rw[xad (by lia),xat (by simp;lia),xax,xeY,xbi];congr 1;lia
 have e2:a.toList=a.toList.take o ++ ((a.extract o (o + m.size)).toList ++ a.toList.drop (o + m.size)):=by
  rw[<-xaD, <-H_ (by lia),xcP]
 refine Array.perm_iff_toList_perm.mpr ?_;rw[e1];refine List.Perm.trans ?_ (List.Perm.of_eq e2.symm);exact xdv _ (xdo _ p)
theorem RV {a:Array Keyed}{i j:Nat}(h:Up (vv rk a) i j)(hj:j<=a.size):Sd rk (a.extract i j).toList:=by
 refine xc1.mpr fun p q hp hq pq=>?_;simp only[xax,xc8]at hp hq;have e:∀q (hq:q<(a.extract i j).toList.length),rk (a.extract i j).toList[q]=vv rk a (i + q):=fun q hq=>by
  simp only[xax,xc8]at hq;rw[dD (by lia)]
  simp
 rw[e,e];exact h _ _ (by lia) (by lia) (by lia)
theorem Ag {a:Array Keyed}{p i:Nat}{x:Keyed}(h:x∈a.extract p i):∃k,p<=k/\k<i/\k<a.size/\rk x=vv rk a k/\x∈a:=by
 obtain⟨k,k1,k2,k3,rfl⟩:=mem_mid (xby.mpr h);exact⟨k,k1,k2,k3,(dD k3).symm,xaL k3⟩
theorem Up.join {v:Nat->Nat}{i j k:Nat}(a:Up v i j)(b:Up v j k)(h:∀p q,i<=p->p<j->j<=q->q<k->v p<=v q):Up v i k:=fun p q h1 h2 h3=>by
 by_cases c:q<j
 ·exact a p q h1 h2 c
 ·by_cases d:p<j
  ·exact h p q h1 d (by lia) h3
  ·exact b p q (by lia) h2 h3
theorem Y7 {st:SortSt}{i o n x p m y:Nat}(C:m9 prog w A R κ a₀ rk)(B:Bs κ a₀ st)(e1:(pendingOf st)[i]? =some (o,n,x))(e2:(pendingOf st)[i + 1]? =some (p,m,y))(hp:p=o + n)(n1:1<=n)(m1:1<=m)(hz:p + m<=a₀.size)
    (u1:Up (vv rk (arrOf st)) o p) (u2:Up (vv rk (arrOf st)) p (p + m)) {P:Bool->SortSt->Prop}
    (q:∀st',Bs κ a₀ st'->pendingOf st'=((pendingOf st).setIfInBounds i (o,n + m,x)).eraseIdxIfInBounds (i + 1)->Up (vv rk (arrOf st')) o (p + m)->(∀k,k<o\/p + m<=k->vv rk (arrOf st') k=vv rk (arrOf st) k)->P true st'):Ok prog w A E R (mergeAt' i) st P:=by
  have sz:=B.size;have hm:∀y∈arrOf st,y∈a₀:=fun y hy=>B.pm.mem_iff.mp hy;rw[X5];refine aJ (nH ?_);rw[e1,e2];dsimp only;refine aJ (Y8 ?_);have B2:Bs κ a₀ (setPending st (((pendingOf st).setIfInBounds i (o,n + m,x)).eraseIdxIfInBounds (i + 1))):=⟨B.kd,B.nf,B.pm⟩;refine aJ (dI (show p<(arrOf st).size by lia) (aJ (yq C B2 (hm _ (xaL _)) hm (by lia) (by lia) (by rw[<-hp];exact u1) fun k k1 k2 k3=>?_)));dsimp only;have tp:thr rk false (arrOf st)[p]=vv rk (arrOf st) p + 1:=by rw[dD (by lia)];rfl
  rw[tp]at k2 k3
  by_cases c1:n - k=0
  · rw[xac (by simpa using c1)];refine aU (q _ B2 rfl (u1.join u2 fun p' q' h1 h2 h3 h4=>?_) fun _ _=>rfl);have:=k2 (p' - o) (by lia);rw[show o + (p' - o)=p' by lia]at this;exact xay (by lia) (u2 p q' (xaf _) h3 h4)
  rw[xad (by simpa using c1)];refine aJ (dI (show o + k + (n - k) - 1<(arrOf st).size by lia) (aJ (yq C B2 (hm _ (xaL _)) hm (by lia) (by lia) u2 fun d d1 d2 d3=>?_)));dsimp only;have tq:thr rk true (arrOf st)[o + k + (n - k) - 1]=vv rk (arrOf st) (p - 1):=by rw[dD (show p - 1<_ by lia)];show rk _=rk _;simp only[show o + k + (n - k) - 1=p - 1 by lia]
  rw[tq]at d2 d3
  by_cases c2:d=0
  · rw[xac (by simpa using c2)];refine aU (q _ B2 rfl (u1.join u2 fun p' q' h1 h2 h3 h4=>?_) fun _ _=>rfl);have:=d3 (q' - p) (by lia) (by lia);rw[show p + (q' - p)=q' by lia]at this;exact xay (u1 p' (p - 1) h1 (by lia) (by lia)) this
  rw[xad (by simpa using c2)];have szx:((arrOf st).extract (o + k) p).size=n - k:=by rw[xc8];lia
  have szy:((arrOf st).extract p (p + d)).size=d:=by rw[xc8];lia
  have hk3:∀j,o + k<=j->j<p->vv rk (arrOf st) p<vv rk (arrOf st) j:=fun j h1 h2=>by
    have:=k3 (j - o) (by lia) (by lia);rw[show o + (j - o)=j by lia]at this;lia
  have hd2:∀j,p<=j->j<p + d->vv rk (arrOf st) j<vv rk (arrOf st) (p - 1):=fun j h1 h2=>by
    have:=d2 (j - p) (by lia)
    rwa [show p + (j - p)=j by lia]at this
  have gx:∀(h:0<((arrOf st).extract p (p + d)).size),rk ((arrOf st).extract p (p + d))[0]=vv rk (arrOf st) p:=fun h=>by rw[dD (by lia)];simp
  have gy:∀(h:((arrOf st).extract (o + k) p).size - 1<((arrOf st).extract (o + k) p).size),rk ((arrOf st).extract (o + k) p)[((arrOf st).extract (o + k) p).size - 1]=vv rk (arrOf st) (p - 1):=fun h=>by
    rw[dD (by lia),Array.getElem_extract];simp only[szx,show o + k + (n - k - 1)=p - 1 by lia]
  have mrg:∀(f:Array Keyed->Array Keyed->StateT SortSt Sem (Array Keyed)),(f=Ae\/f=Ac)->∀{P:Array Keyed->SortSt->Prop},(∀r st',Sd rk r.toList->r.toList.Perm (((arrOf st).extract (o + k) p).toList ++ ((arrOf st).extract p (p + d)).toList)->Sg (setPending st (((pendingOf st).setIfInBounds i (o,n + m,x)).eraseIdxIfInBounds (i + 1))) st'->P r st')->
      Ok prog w A E R (f ((arrOf st).extract (o + k) p) ((arrOf st).extract p (p + d))) (setPending st (((pendingOf st).setIfInBounds i (o,n + m,x)).eraseIdxIfInBounds (i + 1))) P:=by
    have h1:∀y∈(arrOf st).extract (o + k) p,y∈a₀:=fun y hy=>hm _ (Ag (rk:=rk) hy).choose_spec.2.2.2.2;have h2:∀y∈(arrOf st).extract p (p + d),y∈a₀:=fun y hy=>hm _ (Ag (rk:=rk) hy).choose_spec.2.2.2.2;have h3:Sd rk ((arrOf st).extract (o + k) p).toList:=RV (fun a b z1 z2 z3=>u1 a b (by lia) z2 z3) (by lia);have h4:Sd rk ((arrOf st).extract p (p + d)).toList:=RV (fun a b z1 z2 z3=>u2 a b z1 z2 (by lia)) (by lia);have h5:∀z∈(arrOf st).extract (o + k) p,rk (((arrOf st).extract p (p + d))[0]'(by lia))<=rk z:=fun z hz=>by
      obtain⟨j,j1,j2,j3,j4,_⟩:=Ag (rk:=rk) hz;rw[j4,gx];exact xbf (hk3 j j1 j2)
    have h6:∀z∈(arrOf st).extract p (p + d),rk z<=rk (((arrOf st).extract (o + k) p)[((arrOf st).extract (o + k) p).size - 1]'(by lia)):=fun z hz=>by
      obtain⟨j,j1,j2,j3,j4,_⟩:=Ag (rk:=rk) hz;rw[j4,gy];exact xbf (hd2 j j1 j2)
    rintro f (rfl |rfl) P hP
    · exact Y6 C B2 h1 h2 h3 h4 (by lia) (by lia) h5 h6 hP
    · exact Y5 C B2 h1 h2 h3 h4 (by lia) (by lia) h5 h6 hP
  have rest:∀r st',Sd rk r.toList->r.toList.Perm (((arrOf st).extract (o + k) p).toList ++ ((arrOf st).extract p (p + d)).toList)->Sg (setPending st (((pendingOf st).setIfInBounds i (o,n + m,x)).eraseIdxIfInBounds (i + 1))) st'->
      Ok prog w A E R (do modify fun s=>setArr s (lay (o + k) r (arrOf s));let s <-get;pure (failedOf s).isNone) st' P:=by
    rintro r st' sr pr ⟨g,rfl⟩;have lr:r.size=n - k + d:=by
      have:=pr.length_eq
      rwa [xam,xax,xax,xax,szx,szy]at this
    have ee:((arrOf st).extract (o + k) p).toList ++ ((arrOf st).extract p (p + d)).toList=((arrOf st).extract (o + k) (o + k + r.size)).toList:=by
      rw[show o + k + r.size=p + d by lia];simp only[xbZ,xbF];rw[show p + d - p=d by lia,show p + d - (o + k)=(p - (o + k)) + d by lia,List.take_add,xeF,show o + k + (p - (o + k))=p by lia]
    rw[ee]at pr;have la:o + k + r.size<=(arrOf st).size:=by lia
    have lv:∀j,vv rk (lay (o + k) r (arrOf st)) j=if o + k<=j/\j<o + k + r.size then vv rk r (j - (o + k)) else vv rk (arrOf st) j:=fun j=>by
      have h:=Px (m:=r) (a:=arrOf st) la j;split at h
      · rename_i c;rw[xac c];exact xG h
      · rename_i c;rw[xad c];exact xG h
    have bd:∀j,j<r.size->vv rk (arrOf st) p<=vv rk r j/\vv rk r j<=vv rk (arrOf st) (p - 1):=fun j hj=>by
      have hmem:r[j]∈((arrOf st).extract (o + k) (o + k + r.size)).toList:=pr.mem_iff.mp (xby.mpr (xaL hj));obtain⟨j',j1,j2,j3,j4,_⟩:=Ag (rk:=rk) (xby.mp hmem);rw[dD hj,j4]
      by_cases c:j'<p
      · exact⟨xbf (hk3 j' j1 c),u1 _ _ (by lia) (by lia) (by lia)⟩
      · exact⟨u2 _ _ (xaf _) (by lia) (by lia),xbf (hd2 j' (by lia) (by lia))⟩
    have ur:Up (vv rk r) 0 r.size:=Ls sr;refine aJ (yr (aJ (nH (aU ?_))));show P (failedOf st).isNone _;rw[B.nf];refine q _ ⟨B.kd,rfl,(Xp la pr).trans B.pm⟩ rfl ?_ ?_
    · intro a b h1 h2 h3;show vv rk (lay _ _ _) a<=vv rk (lay _ _ _) b;rw[lv,lv];have lo:∀a,o<=a->a<o + k->vv rk (arrOf st) a<=vv rk (arrOf st) p:=fun a h1 h2=>by
        have:=k2 (a - o) (by lia);rw[show o + (a - o)=a by lia]at this;lia
      have hi:∀b,p + d<=b->b<p + m->vv rk (arrOf st) (p - 1)<=vv rk (arrOf st) b:=fun b h1 h2=>by
        have:=d3 (b - p) (by lia) (by lia)
        rwa [show p + (b - p)=b by lia]at this
      have mid:=hk3 (p - 1) (by lia) (by lia)
      split
      · split
        · exact ur _ _ (by lia) (by lia) (by lia)
        · exact xay (bd _ (by lia)).2 (hi b (by lia) (by lia))
      · split
        · exact xay (lo a h1 (by lia)) (bd _ (by lia)).1
        · by_cases c:a<o + k
          · by_cases c':b<o + k
            · exact u1 a b h1 h2 (by lia)
            · exact xay (lo a h1 c) (xay (xbf mid) (hi b (by lia) (by lia)))
          · exact u2 a b (by lia) h2 (by lia)
    · intro j hj;show vv rk (lay _ _ _) j=_;rw[lv,xad (by lia)]
  split
  · exact aJ (mrg Ae (.inl rfl) rest)
  · exact aJ (mrg Ac (.inr rfl) rest)
variable {prog:Program}{w:World}{A:Around}{E:Value->Shared->Prop}{R:Shared->Prop}{α β:Type}{κ:SortKind}{a₀:Array Keyed}{rk:Rk}
noncomputable def Rs (v:Nat->Nat):List (Nat×Nat×Nat)->Nat->Nat->Prop
 | [],i,j=>i=j
 |(o,n,_)::l,i,j=>o=i/\1<=n/\Up v i (i + n)/\Rs v l (i + n) j
theorem Rs.le {v:Nat->Nat}:∀{l:List (Nat×Nat×Nat)} {i j:Nat},Rs v l i j->i + l.length<=j
  | [],i,j,h=>xeb h
  |(o,n,_)::l,i,j,h=>by
    have:=Rs.le h.2.2.2;have:=h.2.1;rw[xav];lia
theorem Rs.app {v:Nat->Nat}:∀{l:List (Nat×Nat×Nat)} {l':List (Nat×Nat×Nat)} {i j:Nat},Rs v (l ++ l') i j->∃k,Rs v l i k/\Rs v l' k j
  | [],l',i,j,h=>⟨i,rfl,h⟩
  |(o,n,_)::l,l',i,j,h=>by
    obtain⟨k,a,b⟩:=Rs.app (l:=l) h.2.2.2;exact⟨k,⟨h.1,h.2.1,h.2.2.1,a⟩,b⟩
theorem Rs.join {v:Nat->Nat}:∀{l:List (Nat×Nat×Nat)} {l':List (Nat×Nat×Nat)} {i j k:Nat},Rs v l i k->Rs v l' k j->Rs v (l ++ l') i j
 | [],l',i,j,k,a,b=>by cases (show i=k from a);exact b
 |(o,n,_)::l,l',i,j,k,a,b=>⟨a.1,a.2.1,a.2.2.1,Rs.join a.2.2.2 b⟩
theorem Rs.same {v v':Nat->Nat}:∀{l:List (Nat×Nat×Nat)} {i j:Nat},Rs v l i j->(∀k,i<=k->k<j->v' k=v k)->Rs v' l i j
  | [],i,j,h,e=>h
  |(o,n,_)::l,i,j,h,e=>by
    have:=h.2.2.2.le;refine⟨h.1,h.2.1,fun a b h1 h2 h3=>?_,Rs.same h.2.2.2 fun k k1 k2=>e k (by lia) k2⟩;rw[e a h1 (by lia),e b (by lia) (by lia)];exact h.2.2.1 a b h1 h2 h3
theorem Rs.up {v:Nat->Nat}{l:List (Nat×Nat×Nat)}{i j:Nat}(h:Rs v l i j)(h1:l.length<=1):Up v i j:=by
 match l,h,h1 with
 | [],h,_=>cases (show i=j from h);exact fun a b h1 h2 h3=>by lia
 | [(o,n,_)],h,_=>cases (show i + n=j from h.2.2.2);exact h.2.2.1
theorem Rs.power {v:Nat->Nat}{w:Nat}:∀{l:List (Nat×Nat×Nat)} {i j:Nat} (k:Nat),Rs v l i j->Rs v (l.modify k fun z=>(z.1,z.2.1,w)) i j
 | [],i,j,k,h=>by rw[List.modify_nil];exact h
 |(o,n,_)::l,i,j,0,h=>by rw[List.modify_zero_cons];exact h
 |(o,n,_)::l,i,j,k + 1,h=>by rw[List.modify_succ_cons];exact⟨h.1,h.2.1,h.2.2.1,Rs.power k h.2.2.2⟩
structure Sr (κ:SortKind)(a₀:Array Keyed)(rk:Rk)(lo:Nat)(st:SortSt):Prop where
 b:Bs κ a₀ st
 r:Rs (vv rk (arrOf st)) (pendingOf st).toList 0 lo
theorem Qp {st:SortSt}{lo i:Nat}(C:m9 prog w A R κ a₀ rk)(S:Sr κ a₀ rk lo st)(hl:lo<=a₀.size)(hi:i + 1<(pendingOf st).size){P:Bool->SortSt->Prop}
  (q:∀st',Sr κ a₀ rk lo st'->(pendingOf st').size + 1=(pendingOf st).size->(∀k,lo<=k->vv rk (arrOf st') k=vv rk (arrOf st) k)->P true st'):Ok prog w A E R (mergeAt' i) st P:=by
 have ht:=S.r;have e0:(pendingOf st).toList=(pendingOf st).toList.take i ++ (pendingOf st).toList.drop i:=(xcP ..).symm;rw[xaZ (by simp;lia),xaZ (by simp;lia)]at e0;rcases h1:(pendingOf st).toList[i]'(by simp;lia) with⟨o,n,x⟩;rcases h2:(pendingOf st).toList[i + 1]'(by simp;lia) with⟨p,m,y⟩;rw[h1,h2]at e0;have g1:(pendingOf st)[i]? =some (o,n,x):=by rw[<-xbi,xar (by simp;lia),h1]
 have g2:(pendingOf st)[i + 1]? =some (p,m,y):=by rw[<-xbi,xar (by simp;lia),h2]
 generalize hL:(pendingOf st).toList.take i=L at e0;generalize hM:(pendingOf st).toList.drop (i + 1 + 1)=M at e0;have lL:L.length=i:=by rw[<-hL,xbI,xax];lia
 rw[e0]at ht;obtain⟨k,r1,r2⟩:=ht.app;obtain⟨rfl,n1,u1,rfl,m1,u2,r3⟩:=r2;have l3:=r3.le;refine Y7 C S.b g1 g2 rfl n1 m1 (by lia) u1 u2 fun st' B' hp' u' f'=>q st' ⟨B',?_⟩ ?_ fun j hj=>f' j (.inr (by lia))
 ·rw[hp'];rw[xdz,xdZ,e0,xdx _ _ (by lia),lL,xbS,xcd,List.eraseIdx_append_of_length_le (by lia),lL,show i + 1 - i=1 by lia];refine(r1.same fun j _ j2=>f' j (.inl j2)).join ?_;refine⟨rfl,by lia,by rw[<-Nat.add_assoc];exact u',?_⟩;rw[<-Nat.add_assoc];exact r3.same fun j j1 _=>f' j (.inr j1)
 ·rw[hp', <-xax, <-xax,xdz,List.length_eraseIdx_of_lt (by simpa using hi),xdZ,xaR,xax];lia
theorem Y9 {a:Array Keyed}(C:m9 prog w A R κ a rk){P:Unit->SortSt->Prop}(q:∀st',(arrOf st').Perm a->failedOf st'=none->Up (vv rk (arrOf st')) 0 a.size->P () st'):
    Ok prog w A E R sortRuns' (SortSt.mk' κ a #[] 7 none) P:=by
  rw[sortRuns'_eq];refine aJ (nH ?_);show Ok prog w A E R _ _ _
  extract_lets size minrun lo0
  have es:size=a.size:=rfl
  clear_value size minrun
  subst es;refine aJ (Ok.mono (P:=fun c st=>c=(none,a.size)/\Sr κ a rk a.size st) (f9 (fun x c st=>∃lo,c=(none,lo)/\lo<=a.size/\(lo=a.size\/x<=lo)/\Sr κ a rk lo st) ⟨0,rfl,by lia,by lia,⟨rfl,rfl,Array.Perm.refl _⟩,rfl⟩ ?_ ?_) ?_)
  · rintro x c st x1 x2 ⟨lo,rfl,hl,hx,S⟩
    extract_lets lo' jp
    have el:lo'=lo:=rfl
    clear_value lo'
    subst el
    by_cases c1:lo' >=a.size
    · rw[xac c1];obtain rfl:lo'=a.size:=by lia
      exact aU ⟨rfl,S⟩
    rw[xad c1]
    suffices hjp:∀n st,1<=n->lo' + n<=a.size->Sr κ a rk lo' st->Up (vv rk (arrOf st)) lo' (lo' + n)->Ok prog w A E R (jp () n) st _ by
      refine aJ (Y4 C (show lo' + (a.size - lo')<=a.size by lia) (by lia) S.b fun m st' m1 m2 B' u' f'=>?_);have S':Sr κ a rk lo' st':=⟨B',by rw[f'.p];exact S.r.same fun k _ k2=>f'.v k k2⟩;show Ok prog w A E R (if m<minrun then _ else jp () m) _ _
      by_cases c3:m<minrun
      · rw[xac c3];refine aJ (yt (aJ (Y0 C (show lo' + min (a.size - lo') minrun<=a.size by lia) m1 (by lia) B' u' fun st2 B2 u2 f2=>?_)));rw[xad (by simp)];exact hjp _ _ (by lia) (by lia) ⟨B2,by rw[f2.p];exact S'.r.same fun k _ k2=>f2.v k k2⟩ u2
      · rw[xad c3];exact hjp m st' m1 (by lia) S' u'
    intro n st n1 n2 S u;have push:∀st:SortSt,Sr κ a rk lo' st->Up (vv rk (arrOf st)) lo' (lo' + n)->Sr κ a rk (lo' + n) (setPending st ((pendingOf st).push (lo',n,0))):=fun st S u=>by
      refine⟨⟨S.b.kd,S.b.nf,S.b.pm⟩,?_⟩;show Rs _ ((pendingOf st).push (lo',n,0)).toList 0 _;rw[xbA];exact S.r.join ⟨rfl,n1,u,rfl⟩
    refine aJ (nH ?_)
    extract_lets l1 jp2
    suffices hjp2:∀st,Sr κ a rk lo' st->Up (vv rk (arrOf st)) lo' (lo' + n)->Ok prog w A E R (jp2 ()) st _ by
      split
      · rename_i s1 n1' w1 _
        extract_lets pw
        refine aJ (Ok.mono (P:=fun c st=>c=(none,())/\Sr κ a rk lo' st/\Up (vv rk (arrOf st)) lo' (lo' + n)) (f9 (fun _ c st=>c=(none,())/\Sr κ a rk lo' st/\Up (vv rk (arrOf st)) lo' (lo' + n)) ⟨rfl,S,u⟩ ?_ fun _ _ h=>h) ?_)
        · rintro y c st y1 y2 ⟨rfl,S,u⟩;refine aJ (nH ?_)
          extract_lets pp
          by_cases c2:pp.size > 1
          · have e2:(if pp.size > 1 then pp[pp.size - 2]? else none)=some pp[pp.size - 2]:=by rw[xac c2,xbd]
            rw[e2]
            split
            · split
              · exact aU ⟨rfl,S,u⟩
              · refine aJ (Qp C S hl (show pp.size - 2 + 1<pp.size by lia) fun st' S' _ f'=>?_);rw[xad (by simp)];refine aU ⟨rfl,S',fun i j h1 h2 h3=>?_⟩;rw[f' i h1,f' j (by lia)];exact u i j h1 h2 h3
            · exact aU ⟨rfl,S,u⟩
          · rw[xad c2];exact aU ⟨rfl,S,u⟩
        · rintro c st ⟨rfl,S,u⟩;refine aJ (yr (hjp2 _ ⟨⟨S.b.kd,S.b.nf,S.b.pm⟩,?_⟩ u));show Rs _ ((pendingOf st).modify _ _).toList 0 _;rw[Array.toList_modify, <-xax];exact S.r.power _
      · exact hjp2 st S u
    exact fun st S u=>aJ (yr (aU ⟨lo' + n,rfl,n2,by lia,push st S u⟩))
  · rintro c st ⟨lo,rfl,hl,hx,S⟩;have e:lo=a.size:=by lia
    subst e;exact⟨rfl,S⟩
  · rintro c st ⟨rfl,S⟩;dsimp only;have h0:=S.r.le;rw[xax]at h0;refine aJ (Ok.mono (P:=fun c st=>c=(none,())/\Sr κ a rk a.size st/\(pendingOf st).size<=1) (f9 (fun x c st=>c=(none,())/\Sr κ a rk a.size st/\((pendingOf st).size<=1\/x + (pendingOf st).size<=a.size)) ⟨rfl,S,by lia⟩ ?_ ?_) ?_)
    · rintro x c st x1 x2 ⟨rfl,S,hx⟩;refine aJ (nH ?_)
      by_cases c1:(pendingOf st).size<=1
      · rw[xac c1];exact aU ⟨rfl,S,c1⟩
      rw[xad c1];refine aJ (Qp C S (xaf _) (by(repeat' split)<;>lia) fun st' S' hs _=>?_)
      rw[xad (by simp)];exact aU ⟨rfl,S',.inr (by lia)⟩
    · rintro c st ⟨rfl,S,hx⟩;refine⟨rfl,S,?_⟩;have:=S.r.le;rw[xax]at this;lia
    · rintro c st ⟨rfl,S,h1⟩;exact aU (q st S.b.pm S.b.nf (S.r.up (by simpa using h1)))
end TS
namespace E3
open PySem PySem.Spec PyProof.Rows L2 PySem.W
theorem Vj {a b:Str}(h:a.cps.toList=b.cps.toList):a=b:=PySem.Str.ext' (xej.mp h)
noncomputable def lo:D->D->Prop
 |.int i,.int j=>i<j
 |.str a,.str b=>a.cps.toList<b.cps.toList
 |_,_=>False
noncomputable def fl:D->Bool
 |.int _=>true
 |.str _=>true
 |_=>false
theorem Dv {a:D}(h:lo a a):False:=by
 cases a<;>first |exact h |exact absurd h (Int.lt_irrefl _) |exact xdJ _ h
theorem PL {a b c:D}(h:lo a b)(g:lo b c):lo a c:=by
 cases a<;>cases b<;>(try exact h.elim)<;>cases c<;>(try exact g.elim)
 ·exact Int.lt_trans h g
 ·exact List.lt_trans h g
theorem wH {a b:D}{x y:List D}{c:Bool}(h:bK (a::x) (b::y)=some c):(a=b/\fl a=true/\bK x y=some c)\/(lo a b/\c=true)\/(lo b a/\c=false):=by
 cases a<;>cases b<;>(try cases h)
 ·rename_i i j;simp only[bK]at h
  by_cases e:i=j
  ·rw[xac e]at h;exact .inl ⟨by rw[e],rfl,h⟩
  ·rw[xad e]at h
   by_cases g:i<j
   ·rw[xaK g]at h;exact .inr (.inl ⟨g,(xaA h).symm⟩)
   ·rw[xaH g]at h;exact .inr (.inr ⟨show j<i by lia,(xaA h).symm⟩)
 ·rename_i i j;simp only[bK]at h
  by_cases e:i=j
  ·rw[xac e]at h;exact .inl ⟨by rw[e],rfl,h⟩
  ·rw[xad e]at h
   by_cases g:i.cps.toList<j.cps.toList
   ·rw[xaK g]at h;exact .inr (.inl ⟨g,(xaA h).symm⟩)
   ·rw[xaH g]at h;refine .inr (.inr ⟨?_,(xaA h).symm⟩);show j.cps.toList<i.cps.toList
    by_cases k:j.cps.toList<i.cps.toList
    ·exact k
    ·exact absurd (Vj (List.le_antisymm (List.not_lt.mp k) (List.not_lt.mp g))) e
theorem Dw {a b:D}{x y:List D}(h:lo a b):bK (a::x) (b::y)=some true:=by
 cases a<;>cases b<;>(try exact h.elim)
 ·rename_i i j;have h:i<j:=h;simp only[bK];rw[xad (by lia),xaK h]
 ·rename_i i j;have h:i.cps.toList<j.cps.toList:=h;simp only[bK];rw[xad (fun e=>xdJ _ (e ▸ h)),xaK h]
theorem Jf {a b:D}{x y:List D}(h:lo b a):bK (a::x) (b::y)=some false:=by
 cases a<;>cases b<;>(try exact h.elim)
 ·rename_i i j;have h:j<i:=h;simp only[bK];rw[xad (by lia),xaH (by lia)]
 ·rename_i i j;have h:j.cps.toList<i.cps.toList:=h;simp only[bK];rw[xad (fun e=>xdJ _ (e ▸ h)),xaH fun g=>xdJ _ (List.lt_trans h g)]
theorem lt_eq {a:D}{x y:List D}(h:fl a=true):bK (a::x) (a::y)=bK x y:=by
 cases a<;>(try cases h)<;>simp only[bK,xbG]
theorem Jg {x:D}{xs:List D}{c:Bool}:bK (x::xs) []=some c->False:=by cases x<;>exact fun h=>nomatch h
theorem Qc {x:D}{xs:List D}{c:Bool}:bK [] (x::xs)=some c->False:=fun h=>nomatch h
theorem Qa:∀{x:List D} {b:Bool},bK x x=some b->b=false
  | [],b,h=>(xaA h).symm
  |a::x,b,h=>by
    rcases wH h with⟨_,_,h⟩ |⟨h,_⟩ |⟨h,_⟩
    · exact Qa h
    · exact(Dv h).elim
    · exact(Dv h).elim
theorem Je:∀{x y z:List D} {b:Bool},bK x y=some b->bK y z=some b->bK x z=some b
  | [],[],z,b,_,g=>g
  | [],_::_,_,_,h,_=>(Qc h).elim
  |_::_,[],_,_,h,_=>(Jg h).elim
  |_::_,_::_,[],_,_,g=>(Jg g).elim
  |a::x,c::y,d::z,b,h,g=>by
    rcases wH h with⟨rfl,f,h'⟩ |⟨h',rfl⟩ |⟨h',rfl⟩
    · rcases wH g with⟨rfl,_,g'⟩ |⟨g',rfl⟩ |⟨g',rfl⟩
      · rw[lt_eq f];exact Je h' g'
      · exact Dw g'
      · exact Jf g'
    · rcases wH g with⟨rfl,_,_⟩ |⟨g',_⟩ |⟨_,e⟩
      · exact Dw h'
      · exact Dw (PL h' g')
      · cases e
    · rcases wH g with⟨rfl,_,_⟩ |⟨_,e⟩ |⟨g',_⟩
      · exact Jf h'
      · cases e
      · exact Jf (PL g' h')
theorem P_:∀{x y:List D},bK x y=some false->bK y x=some false->x=y
  | [],[],_,_=>rfl
  | [],_::_,h,_=>(Qc h).elim
  |_::_,[],h,_=>(Jg h).elim
  |a::x,c::y,h,g=>by
    rcases wH h with⟨rfl,f,h⟩ |⟨_,e⟩ |⟨h,_⟩
    · rw[lt_eq f]at g;rw[P_ h g]
    · cases e
    · rw[Dw h]at g;cases g
noncomputable def Bg (T:List (List D)) (x:List D):Nat:=T.countP fun y=>bK y x==some true
theorem Nt {α:Type}{p q:α->Bool}:∀{l:List α} {x:α},(∀z∈l,p z=true->q z=true)->x∈l->q x=true->p x=false->l.countP p<l.countP q
  |y::l,x,h,hx,h1,h2=>by
    rw[List.countP_cons,List.countP_cons];have mo:l.countP p<=l.countP q:=xeH fun z hz=>h z (xal _ hz);rcases xaq.mp hx with rfl |hx
    · rw[h1,h2];simp only[xbG,xa3,xbt];lia
    · have ih:=Nt (fun z hz=>h z (xal _ hz)) hx h1 h2;have:=h y xaz
      by_cases e:p y=true
      · rw[e,this e];lia
      · rw[xad e];lia
theorem Kg {T:List (List D)}(cm:∀x∈T,∀y∈T,∃b,bK x y=some b){x y:List D}(hx:x∈T)(hy:y∈T){b:Bool}(h:bK x y=some b):b=decide (Bg T x<Bg T y):=by
  cases b with
  |true=>
    refine(xaK (Nt (x:=x) (fun z _ hz=>?_) hx (by rw[h];rfl) ?_)).symm
    · rw[Je (eq_of_beq hz) h];rfl
    · obtain⟨c,e⟩:=cm x hx x hx;rw[e,Qa e];rfl
  |false=>
    refine(xaH (xeL.mpr (xeH fun z hz h1=>?_))).symm;obtain⟨c,e⟩:=cm z hz x hx
    cases c with
    |true=>rw[e];rfl
    |false=>
      have:=Je e h;rw[eq_of_beq h1]at this;cases this
noncomputable def fD:Value->D
 |.int z _=>.int z
 |.str x _=>.str x
 |_=>.non
noncomputable def tD (h:Heap):Value->List D
  | .ref a => (match h.get? a with
    | some o => (match o.data with
      |.seq its _=>its.toList.map fD
      |_=>[])
    |none=>[])
  |_=>[]
section
variable {prog:Program}{w:World}{A:Around}{E:Value->Shared->Prop}{s:Shared}
theorem zaQ {a:Addr}{n:Nat}{vs:List Value}{κ:SortKind}{rv:Value->Nat}{P:PySem.Fin->Shared->Prop}(ho:s.heap.get? a=some (seqObj "list" vs.toArray n))(h2:2<=vs.length)(hz:vs.length<=sizeLine)
  (hk:∀(h':Heap) (Q':SortKind->Shared->Prop),gM a s.heap h'->Q' κ {s with heap:=h'}->wpAny (model prog w) A (keyKind' vs.toArray) Q' (fun _ _=>False) {s with heap:=h'})
  (hc:∀(h':Heap),gM a s.heap h'->∀u∈vs,∀u'∈vs,∀tk C,(∀tk,C (decide (rv u<rv u')) {s with heap:=h',toks:=tk})->wpAny (model prog w) A (keyLt' κ u u') C (fun _ _=>False) {s with heap:=h',toks:=tk})
  (q:∀(h':Heap) tk c (us:List Value),us.Perm vs->us.Pairwise (fun u u'=>rv u<=rv u')->gM a s.heap h'->h'.get? a=some (seqObj "list" us.toArray c)->P (.done (.ret .none)) {s with heap:=h',toks:=tk}):
  wpAny (model prog w) A (Builtin.«list.sort» ⟨[.ref a],[]⟩) P E s:=by
 have st:=Qf s.heap a vs;obtain⟨e1,z1⟩:∃e1,(s.heap.update a (Obj.mapSeq fun _=>(#[]:Array Value))).get? a=some (seqObj "list" #[] e1):=⟨_,xdE ho fun _=> #[]⟩;have z2:(gG s.heap a vs).get? a=some (seqObj "list" #[] e1):=xag _ (xag _ z1);rw[list_sort_plain];refine xaa (listItems_at ho rfl (xaa (xdX ho rfl (xaa (seqEpoch_at z1 rfl (xaa (xeE (xaa (xdY (xbs ?_) (xa0 _))) hz)))) (by simpa using hz) (xa0 _))));show wpAny (model prog w) A _ P E {s with heap:=gG s.heap a vs};dsimp only;have two:¬ vs.toArray.size<2:=by simpa using h2
 rw[xad two,xad two];generalize gG s.heap a vs=h1 at st z2 ⊢;have kind:=hk h1 (fun κ' s'=>κ'=κ/\s'={s with heap:=h1}) st ⟨rfl,rfl⟩;refine xaa (xa4 kind (fun κ' s0 z=>?_) fun _ _ x=>x.elim);obtain⟨rfl,rfl⟩:=z;have mz:∀x∈vs.toArray.zip vs.toArray,x.1=x.2/\x.1∈vs:=fun x hx=>by
  have hx:x∈vs.zip vs:=by simpa using xby.mpr hx
  obtain⟨i,hi,e⟩:=xcw hx;rw[List.getElem_zip]at e;subst e;exact⟨rfl,xcT _⟩
 have run := TS.Y9 (prog := prog) (w := w) (A := A) (E := E) (R := fun s' => ∃ tk, s' = { s with heap := h1, toks := tk }) (κ := κ') (a := vs.toArray.zip vs.toArray) (rk := fun x => rv x.1) (fun x y hx hy s' r=>by
  obtain⟨tk,rfl⟩:=r;exact hc h1 st _ (mz x hx).2 _ (mz y hy).2 tk _ fun tk'=>⟨⟨tk',rfl⟩,rfl⟩) (P:=fun _ st'=>(arrOf st').Perm (vs.toArray.zip vs.toArray)/\failedOf st'=none/\TS.Up (TS.vv (fun x=>rv x.1) (arrOf st')) 0 (vs.toArray.zip vs.toArray).size) (fun st' a b c=>⟨a,b,c⟩) {s with heap:=h1} ⟨s.toks,rfl⟩
 refine xaa (xa4 run ?_ fun _ _ e=>e);rintro⟨⟨⟩,st'⟩ s' ⟨⟨tk,rfl⟩,hp,hf,hu⟩;dsimp only;have hp2:((arrOf st').toList.map (·.2)).Perm vs:=by
  have e:((vs.toArray.zip vs.toArray).toList.map (·.2))=vs:=by rw[Array.toList_zip];exact List.map_snd_zip (xaf _)
  exact((Array.Perm.toList hp).map _).trans (List.Perm.of_eq e)
 have dg:∀x∈(arrOf st').toList,x.1=x.2:=fun x hx=>(mz x (hp.mem_iff.mp (xby.mp hx))).1;have sz:(vs.toArray.zip vs.toArray).size=(arrOf st').size:=hp.size_eq.symm;have hs2:((arrOf st').toList.map (·.2)).Pairwise fun u u'=>rv u<=rv u':=by
  rw[xb2,xc1];intro i j hi hj hij;rw[xax]at hi hj;have:=hu i j (xa0 _) (by lia) (by lia);rw[TS.dD hi,TS.dD hj]at this;rw[<-dg _ (xcT _), <-dg _ (xcT _)];exact this
 have ea:(arrOf st').map (·.2)=((arrOf st').toList.map (·.2)).toArray:=by
  apply xej.mp;rw[Array.toList_map]
 rw[ea];generalize (arrOf st').toList.map (·.2)=us at hp2 hs2;have hl:=hp2.length_eq;obtain⟨c2,z3⟩:∃c2,(h1.update a (Obj.mapSeq fun _=>us.toArray)).get? a=some (seqObj "list" us.toArray c2):=⟨_,xdE z2 fun _=>us.toArray⟩;refine xaa (seqEpoch_at z2 rfl (xaa (xdX z2 rfl ?_ (xa0 _) (by rw[xan,hl];exact xdj hz))));rw[hf];simp only[xe5,xa3,xbt];exact xab (q _ tk c2 us hp2 hs2 (fun b o nb e=>gM.upd h1 a _ b o nb (st b o nb e)) z3)
theorem zaq {r:Value}{vs:List Value}{κ:SortKind}{rv:Value->Nat}{Q:Value->Shared->Prop}(hl:Coll prog w A s r vs)(h2:2<=vs.length)(hz:vs.length<=sizeLine)
  (hk:∀(h':Heap) tk (Q':SortKind->Shared->Prop),Grows s.heap h'->Q' κ {s with heap:=h',toks:=tk}->wpAny (model prog w) A.in1.in1 (keyKind' vs.toArray) Q' (fun _ _=>False) {s with heap:=h',toks:=tk})
  (hc:∀(h':Heap),Grows s.heap h'->∀u∈vs,∀u'∈vs,∀tk C,(∀tk,C (decide (rv u<rv u')) {s with heap:=h',toks:=tk})->wpAny (model prog w) A.in1.in1 (keyLt' κ u u') C (fun _ _=>False) {s with heap:=h',toks:=tk})
  (q:∀(h':Heap) tk c a (us:List Value),us.Perm vs->us.Pairwise (fun u u'=>rv u<=rv u')->Grows s.heap h'->s.heap.objs.size<=a->h'.get? a=some (seqObj "list" us.toArray c)->Q (.ref a) {s with heap:=h',toks:=tk}):
  wpAny (model prog w) A (call (.builtin "sorted") [r]) Q E s:=by
 refine xd9 kind_sorted plain_sorted entry_sorted (args_sorted1 _) ?_;unfold Builtin.«sorted»;refine xaa (m:=checkCount "sorted" 1 1 _) (xab (xaa (hl _ _ fun h1 t1 g z=>xaa (xdY ?_ hz))));have at0:(h1.push (seqObj "list" vs.toArray 0)).get? h1.objs.size=some (seqObj "list" vs.toArray 0):=xau _ rfl;have up:∀h',gM h1.objs.size (h1.push (seqObj "list" vs.toArray 0)) h'->Grows s.heap h':=fun h' st b o e=>st b o (xaI (xao (g b o e))) (xag _ (g b o e));refine xaa (xbs (xbl slot_list_sort ⟨_,at0,rfl⟩ entry_list_sort (zaQ (s:={s with heap:=h1.push (seqObj "list" vs.toArray 0),toks:=t1}) at0 h2 hz (fun h' Q' st=>hk h' t1 Q' (up h' st)) (fun h' st=>hc h' (up h' st)) fun h' tk c us hp hs st e=>?_) (args_list_sort _)));exact⟨_,rfl,xab ⟨_,rfl,q h' tk c _ us hp hs (up h' st) z e⟩⟩
end
noncomputable def tupS:D->Bool
 |.tup (.str _::_)=>true
 |_=>false
noncomputable def lA:D->D->Prop
 |.tup x,.tup y=>bK y x=some false
 |_,_=>False
def lD (ds:List D):Prop:=(ds.all tupI=true\/ds.all tupS=true)/\∀xs ys,.tup xs∈ds->.tup ys∈ds->∃b,bK xs ys=some b
theorem z8 {a b:D}(h:lA a b)(g:lA b a):a=b:=by
 cases a<;>(try exact h.elim)<;>cases b<;>(try exact h.elim)
 rw[P_ g h]
theorem lD.tup {ds:List D}(h:lD ds):∀d∈ds,∃xs,d=.tup xs:=fun d hd=>by
 rcases h.1 with h |h<;>have:=xbm.mp h d hd<;>cases d<;>first |exact⟨_,rfl⟩ |(cases this)
theorem lD.perm {ds es:List D}(h:lD ds)(p:es.Perm ds):lD es:=by
 refine⟨h.1.imp (fun z=>xbm.mpr fun d hd=>xbm.mp z d (p.mem_iff.mp hd)) (fun z=>xbm.mpr fun d hd=>xbm.mp z d (p.mem_iff.mp hd)),fun xs ys hx hy=>h.2 xs ys (p.mem_iff.mp hx) (p.mem_iff.mp hy)⟩
theorem Ol:∀{x:List D} {b:Bool},bK x x=some b->∀d∈x,fl d=true
  | [],_,_=>fun d hd=>nomatch hd
  |a::x,b,h=>by
    rcases wH h with⟨_,f,h'⟩ |⟨h',_⟩ |⟨h',_⟩
    · intro d hd;rcases xaq.mp hd with rfl |hd
      · exact f
      · exact Ol h' d hd
    · exact(Dv h').elim
    · exact(Dv h').elim
section
variable {X:Cx}{Wx:XW}{pins:Pnx}{σ:L2.St}{H:Hp}{s:Shared}
theorem Od {K:Fgx}{P:Pl}{H:Hp}:∀{xs:List D} {vs:List V} {us:List Value},(∀d∈xs,fl d=true)->aA K P H xs vs->Vals vs us->us.map fD=xs
  | [],vs,us,_,i,r=>by
    rw[show vs=[] from i]at r;cases r;rfl
  |d::xs,vs,us,hf,i,r=>by
    obtain⟨v,vr,rfl,p,i⟩:=i
    cases r with
    |cons a r=>
      have f:=hf d xaz;rw[xak,Od (fun e he=>hf e (xal _ he)) i r];congr 1;cases d<;>(try cases f)
      · cases p;obtain⟨t,rfl⟩:=a;rfl
      · cases p;obtain⟨t,rfl⟩:=a;rfl
theorem zeD {P:Pl}(I:Inv X pins σ H s){h':Heap}(g:Grows s.heap h'){xs:List D}{v:V}{u:Value}(i:Is X.K P H (.tup xs) v)(r:RelV v u){b:Bool}(hb:bK xs xs=some b):tD h' u=xs:=by
 obtain⟨a,o,its,n,ws,rfl,e1,e2,e3,is,rv⟩:=Gg I g i r;unfold tD;dsimp only;rw[e1];dsimp only;rw[e3];exact Od (Ol hb) is rv
theorem K7 {P:Pl}(I:Inv X pins σ H s){h':Heap}(g:Grows s.heap h'):∀{ds:List D} {vs:List V} {us:List Value},(∀d∈ds,∃xs b,d=.tup xs/\bK xs xs=some b)->aA X.K P H ds vs->Vals vs us->ds=us.map fun u=>.tup (tD h' u)
  | [],vs,us,_,i,r=>by
    rw[show vs=[] from i]at r;cases r;rfl
  |d::ds,vs,us,hf,i,r=>by
    obtain⟨v,vr,rfl,p,i⟩:=i
    cases r with
    |cons a r=>
      obtain⟨xs,b,rfl,hb⟩:=hf d xaz;rw[xak, <-K7 I g (fun e he=>hf e (xal _ he)) i r,zeD I g p a hb]
theorem Z6 {K:Fgx}{P:Pl}{H:Hp}{us us':List Value}(p:us'.Perm us):∀{ds:List D} {vs:List V},aA K P H ds vs->Vals vs us->∃ds' vs',ds'.Perm ds/\aA K P H ds' vs'/\Vals vs' us':=by
  induction p with
  |nil=>exact fun {ds vs} i r=>⟨ds,vs,List.Perm.refl _,i,r⟩
  |cons x p ih=>
    intro ds vs i r
    cases r with
    |cons a r=>
      cases ds with
      |nil=>cases i
      |cons d ds=>
        obtain⟨v,vr,e,p,i⟩:=i;cases e;obtain⟨ds',vs',p',i',r'⟩:=ih i r;exact⟨d::ds',_::vs',p'.cons d,⟨_,_,rfl,p,i'⟩,.cons a r'⟩
  |swap x y l=>
    intro ds vs i r
    cases r with
    |cons a r=>
      cases r with
      |cons b r=>
        cases ds with
        |nil=>cases i
        |cons d ds=>
          obtain⟨v,vr,e,p,i⟩:=i;cases e
          cases ds with
          |nil=>cases i
          |cons d2 ds=>
            obtain⟨v2,vr2,e,p2,i⟩:=i;cases e;exact⟨d2::d::ds,_,List.Perm.swap _ _ _,⟨_,_,rfl,p2,_,_,rfl,p,i⟩,.cons b (.cons a r)⟩
  |trans p1 p2 ih1 ih2=>
    intro ds vs i r;obtain⟨ds',vs',p',i',r'⟩:=ih2 i r;obtain⟨ds2,vs2,p3,i3,r3⟩:=ih1 i' r';exact⟨ds2,vs2,p3.trans p',i3,r3⟩
theorem TX {P:Pl}(I:Inv X pins σ H s){h':Heap}(g:Grows s.heap h'):∀(ds:List D) (vs:List V) (us:List Value),ds.all tupS=true->aA X.K P H ds vs->Vals vs us->∃fs,KatTups h' us fs/\fs.length=us.length/\∀f∈fs,∃i t,f=Value.str i t
  | [],vs,us,_,i,r=>by
    rw[show vs=[] from i]at r;cases r;exact⟨[],KatTups.nil,rfl,fun f h=>nomatch h⟩
  |d::ds,vs,us,hd,i,r=>by
    obtain⟨v,vr,rfl,p,i⟩:=i;rw[xci,xaC]at hd
    cases r with
    |cons a1 r=>
      obtain⟨fs,k,kl,kf⟩:=TX I g ds _ _ hd.2 i r
      cases d with
      |tup xs=>
        cases xs with
        |nil=>cases (show false=true from hd.1)
        |cons x xs=>
          cases x with
          |str z=>
            obtain⟨a,o,its,n,ws,rfl,e1,e2,e3,is,rv⟩:=Gg I g p a1;obtain⟨w,wr,rfl,pw,is⟩:=is;cases pw;obtain⟨its⟩:=its
            cases rv with
            |cons b1 rv=>
              obtain⟨t,rfl⟩:=b1;refine⟨.str z t::fs,KatTups.cons e1 e2 e3 rfl k,by simp[kl],fun f hf=>?_⟩;rcases xaq.mp hf with rfl |hf
              · exact⟨z,t,rfl⟩
              · exact kf f hf
          |_=>cases (show false=true from hd.1)
      |_=>cases (show false=true from hd.1)
def zel (K:Fgx):List V->Hp->VK->Prop:=fun xs H Q=>∃(P:Pl) (a:Addr) (vs:List V) (ds:List D),xs=[.ref a]/\bI K H a vs/\aA K P H ds vs/\2<=ds.length/\lD ds/\
 ∀l es vs',es.Perm ds->es.Pairwise lA->aA K P H es vs'->H l=none->Q (.ref l) (upd H l (.lst vs'))
theorem Ss {P:Pl}{vs:List V}{ds:List D}{its:List Value}{r:Value}{Q:VK}(I:Inv X pins σ H s)(cl:Coll X.prog X.w X.A s r its)(rv:Vals vs its)(hz:vs.length<=sizeLine)(is:aA X.K P H ds vs)(h2:2<=ds.length)(ok:lD ds)
  (q:∀l es vs',es.Perm ds->es.Pairwise lA->aA X.K P H es vs'->H l=none->Q (.ref l) (upd H l (.lst vs'))):wpAny (model X.prog X.w) X.A (call (.builtin "sorted") [r]) (EP X pins σ Q) X.xe s:=by
 have l1:its.length=ds.length:=by rw[<-rv.length,is.len]
 have fla:∀d∈ds,∃xs b,d=.tup xs/\bK xs xs=some b:=fun d hd=>by
  obtain⟨xs,rfl⟩:=ok.tup d hd;obtain⟨b,hb⟩:=ok.2 xs xs hd hd;exact⟨xs,b,rfl,hb⟩
 have g0:Grows s.heap s.heap:=fun _ _ e=>e;have e0:=K7 I g0 fla is rv;generalize hT:its.map (tD s.heap)=T;have inT:∀{u},u∈its->tD s.heap u∈T:=fun hu=>by rw[<-hT];exact xb7 hu
 have ofT:∀x∈T,D.tup x∈ds:=fun x hx=>by
  rw[<-hT]at hx;obtain⟨u,hu,rfl⟩:=xaj.mp hx;rw[e0];exact xb7 (f:=fun u=>D.tup (tD s.heap u)) hu
 have cm:∀x∈T,∀y∈T,∃b,bK x y=some b:=fun x hx y hy=>ok.2 x y (ofT x hx) (ofT y hy);have item:∀{h':Heap},Grows s.heap h'->∀u∈its,∃a o t n w,u=.ref a/\h'.get? a=some o/\o.data=.seq t n/\aA X.K P H (tD s.heap u) w/\Vals w t.toList:=fun {h'} g u hu=>by
  obtain⟨i,hi,rfl⟩:=xcw hu;have ed:ds[i]? =some (.tup (tD s.heap its[i])):=by rw[e0,xaw,xar hi];rfl
  obtain⟨v,ev,iv⟩:=is.get ed;have rr:RelV v its[i]:=by
   have:=zaZ rv i;rw[xd0,xd0,ev,xar hi]at this;exact this
  obtain⟨a1,o1,t1,n1,w1,e1,f1,f2,f3,f4,f5⟩:=Gg I g iv rr;exact⟨a1,o1,t1,n1,w1,e1,f1,f3,f4,f5⟩
 refine zaq (κ:=tuples' true) (rv:=fun u=>Bg T (tD s.heap u)) cl (by lia) (by rw[<-rv.length];exact hz) (fun h' tk Q' g hq=>?_) (fun h' g u hu u' hu' tk C hC=>?_) fun h' tk c D' us hp hs g hD eD=>?_
 ·rcases ok.1 with ht |ht
  ·obtain ⟨fs, k, kl, kf⟩ := TV I g ds vs its ht is rv;exact kat_kind (T := .type "int") k (by lia) (fun f hf=>by
    obtain⟨i,t,rfl⟩:=kf f hf;intro A Q E s _ q;exact xab q) (by x_go) hq
  ·obtain ⟨fs, k, kl, kf⟩ := TX I g ds vs its ht is rv;exact kat_kind (T := .type "str") k (by lia) (fun f hf=>by
    obtain⟨i,t,rfl⟩:=kf f hf;intro A Q E s _ q;exact xab q) (by x_go) hq
 ·obtain⟨b,hb⟩:=cm _ (inT hu) _ (inT hu');have eb:=Kg cm (inT hu) (inT hu') hb;obtain⟨a1,o1,t1,n1,w1,e1,f1,f3,f4,f5⟩:=item g u hu;obtain⟨a2,o2,t2,n2,w2,e2,g1,g3,g4,g5⟩:=item g u' hu';generalize tD s.heap u=x at hb eb f4 hC;generalize tD s.heap u'=y at hb eb g4 hC;rw[e1,e2];refine kat_lt (s:={s with heap:=h',toks:=tk}) f1 f3 g1 g3 (PB (b:=b) (by rw[eb];exact hC tk) x y w1 w2 _ _ 0 f4 g4 f5 g5 hb fun z=>?_);simp only[xax]at z
  simp[z]
 ·obtain⟨es,vs',p',i',r'⟩:=Z6 hp is rv;have ok':=ok.perm p';have e1:=K7 I g0 (fun d hd=>fla d (p'.mem_iff.mp hd)) i' r';have hsd:es.Pairwise lA:=by
   rw[e1,xb2];refine hs.imp_of_mem fun {u u'} hu hu' hle=>?_;have m1:=inT (hp.mem_iff.mp hu);have m2:=inT (hp.mem_iff.mp hu');obtain⟨b,hb⟩:=cm _ m2 _ m1;have eb:=Kg cm m2 m1 hb;rw[xaH (xeL.mpr hle)]at eb;rw[eb]at hb;exact hb
  have hlen:vs'.length<=sizeLine:=by
   rw[i'.len,p'.length_eq, <-is.len];exact hz
  exact⟨.ref D',_,I.laid (o:=.lst vs') g hD ⟨hlen,_,c,r',eD⟩,rfl,q D' es vs' p' hsd i' (I.hok.fresh hD)⟩
theorem U6:c7 X (.builtin "sorted") (zel X.K):=by
 intro pins s σ H xs us Q I r h;obtain⟨P,a,vs,ds,rfl,hl,is,h2,ok,q⟩:=h;obtain⟨u,rfl,rx⟩:=vals1 r;cases rx;obtain⟨its,rv,pl,hz⟩:=I.list hl;exact Ss I (Ng pl.isList (by rw[<-rv.length];exact hz)) rv hz is h2 ok q
noncomputable def fH (ds:List D):Option (List D):=if ds.length<2 then some ds else @dite _ (lD ds/\∃es:List D,es.Perm ds/\es.Pairwise lA) (Classical.propDecidable _) (fun h=>some (Classical.choose h.2)) fun _=>none
noncomputable def sJ (f:E):E:=fun env M=>bnd (f env M) fun d M1=>match vw M1 d with
 |.lst ds=>(fH ds).map fun es=>(.v (.lst es),M1)
 |_=>none
theorem R9 {e:Expr}{f:E}{p pos:Pos}(hg:Gl X "sorted")(hm:X.mg "sorted"=none)(he:SE X Wx .bor e f)(hs:starEach [e] X.env=(false,eval e X.env)::starEach [] X.env:=by rfl):SN X Wx (.Call (.Name "sorted" p) [e] [] pos) (sJ f):=by
 refine bR (Ej (Uz.or U6) hg hm boot_sorted (lF he nJ hs) (by x_go) (by x_go) hs rfl) ?_;rintro st H Q ⟨P0,H0,P,Os,env,M,r,M',k,e,q⟩;unfold sJ at e;rcases bN e with⟨d,M1,e1,e⟩ |⟨c,n,e1,rfl⟩
 ·refine aQ k e1 fun P1 v1 H1 l1 h1 i1=>?_;have iw:=cY.vw h1 i1;split at e
  ·rename_i ds ev;rw[xah]at e;obtain⟨es,ez,e⟩:=e;cases e;obtain⟨ds',e',q⟩:=q;cases e';rw[ev]at iw;obtain⟨a,vs,rfl,sq,is⟩:=iw;have fin:∀ws,aA X.K P1 H1 es ws->∀l,H1 l=none->Q (.ref l) (upd H1 l (.lst ws)):=fun ws iws l hl=>by
    obtain⟨l2,h2,nc⟩:=pF (vs:=ws) h1 hl;exact q (P1.bar l) l ws _ (l1.trans l2) h2 (l1.sure l hl) (.inr rfl) nc bJ (aA.lt (l2.lt h1) iws)
   unfold fH at ez;split at ez
   ·rename_i hlt;cases ez;exact .inl ⟨a,vs,rfl,sq,by rw[is.len];exact hlt,fin vs is⟩
   ·split at ez
    ·rename_i h2 h3;have sp:=xcQ h3.2;rw[xaA ez]at sp;refine .inr ⟨P1,a,vs,ds,rfl,sq,is,by lia,h3.1,fun l es' vs' p' s' i' hl=>?_⟩;have ee:es'=es:=xbL (fun a b _ _=>z8) s' sp.2 (p'.trans sp.1.symm);subst ee;exact fin vs' i' l hl
    ·cases ez
  ·cases e
 ·exact aQ k e1 q
theorem Sh {ds:List D}(h:lD ds):∃es,fH ds=some es/\es.Perm ds/\es.Pairwise lA:=by
  unfold fH
  split
  · rename_i h2;refine⟨ds,rfl,List.Perm.refl _,?_⟩
    match ds,h2 with
    | [],_=>exact .nil
    | [d],_=>exact List.pairwise_singleton _ _
  · let un:D->List D:=fun d=>match d with |.tup x=>x |_=>[]
    have hun:∀d∈ds,d=.tup (un d):=fun d hd=>by
      obtain⟨xs,rfl⟩:=h.tup d hd;rfl
    have cm:∀x∈ds.map un,∀y∈ds.map un,∃b,bK x y=some b:=fun x hx y hy=>by
      obtain⟨d,hd,rfl⟩:=xaj.mp hx;obtain⟨e,he,rfl⟩:=xaj.mp hy;exact h.2 _ _ (hun d hd ▸ hd) (hun e he ▸ he)
    let le:D->D->Bool:=fun a b=>decide (Bg (ds.map un) (un a)<=Bg (ds.map un) (un b))
    have hp := List.mergeSort_perm ds le;have hs := List.pairwise_mergeSort (le := le) (fun a b c h1 h2 => xaK (xay (xbB h1) (xbB h2))) (fun a b=>by
      simp only[le,Bool.or_eq_true,xbp];exact Nat.le_total _ _) ds
    have ex : ∃ es : List D, es.Perm ds /\ es.Pairwise lA := ⟨_,hp,hs.imp_of_mem fun {a b} ha hb hle=>by
      have m1:=hp.mem_iff.mp ha;have m2:=hp.mem_iff.mp hb;obtain⟨c,hc⟩:=cm _ (xb7 m2) _ (xb7 m1);have ec:=Kg cm (xb7 m2) (xb7 m1) hc;rw[xaH (xeL.mpr (xbB hle))]at ec;rw[ec]at hc;rw[hun a m1,hun b m2];exact hc⟩
    rw[dif_pos ⟨h,ex⟩];exact⟨_,rfl,xcQ ex⟩
theorem zas {f:E}:∀env M r M',sJ f env M=some (.v r,M')->∃ds,r=.lst ds:=fun env M r M' e=>by
 unfold sJ at e;rcases bN e with⟨ds,M1,e1,e⟩ |⟨c,n,e1,e⟩
 ·split at e
  ·rw[xah]at e;obtain⟨es,_,e⟩:=e;cases e;exact⟨_,rfl⟩
  ·cases e
 ·cases e
end
end E3
namespace L2
open PySem PySem.Spec PyProof.Rows
end L2
namespace E3
open PySem PySem.Spec PyProof.Rows L2 PySem.W
structure DefAtD (K:Fgx)(mg:Mgx)(x:Str)(st:Stmt)(ps:List Str)(dd:List D)(f:Addr)(fd:FuncData):Prop where
 mg:mg x=some (.ref f)
 F:FunD K x x st f fd
 b:Binds K fd ps []
 bd:∃(dv:List V) (du:List Value),Binds K fd ps du/\Vals dv du/\(∀P H,aA K P H dd dv)/\dv.length=dd.length
section
variable {P:Program}{w:World}{K:Fgx}{mg:Mgx}{base:Heap}{k:Nat}{x:Str}{st:Stmt}{f:Addr}{fd:FuncData}{N ps:List Str}{b:S}{dd:List D}
theorem DefAtD.ok (D:DefAtD K mg x st ps dd f fd)(S:FnScope N ps (aM st))(hr:RT P w K mg base k f N x st b)(hp:ps.length<=N.length:=by decide):bB P w K mg base (k + 1) x ps.length (cg N.length b):=
 DefAt.ok ⟨D.mg,D.F,D.b⟩ S hr hp
end
section
variable {M:Mm}{env:Env}{f:E}{fs:EA}{ds es:List D}
noncomputable def wY (M:Mm):D->O
 |.lst ds=>mapR M ((fH ds).map .lst)
 |_=>none
theorem zcX:sJ f env M=gB (fun d M1=>wY M1 (vw M1 d)) (f env M):=by
  unfold sJ gB bnd
  cases f env M with
  |none=>rfl
  |some p=>obtain⟨r,M'⟩:=p;cases r with
    |x c n=>rfl
    |v d=>
      dsimp only;unfold wY;cases vw M' d<;>try rfl
      dsimp only;cases fH _<;>rfl
theorem QZ (h:fH ds=some es):wY M (.lst ds)=some (.v (.lst es),M):=by show mapR M ((fH ds).map D.lst)=_;rw[h];rfl
end
end E3
namespace L2
open PySem PySem.Spec PyProof.Rows
noncomputable def gW (K : Fgx) (C f : Addr) (me : Str) : Bool := PySem.W.specialIn K (.ref C) "__getattribute__" == some (some (.builtin "type.__getattribute__")) && (match PySem.W.typeIn K (.ref C) with
  | some mc => PySem.W.readsIn K C mc && (match PySem.W.findCls K (.ref C) mc me with
    |some (.val (.ref g))=>g==f
    |_=>false)
  |none=>false) && PySem.W.handedIn (.ref f) && PySem.W.keepIn K (.ref f)
section
variable {X:Cx}{Wx:XK}{x me:Str}{C f:Addr}{CX:Prop}{k:Nat}{fd:FuncData}{ps:List Str}{ds:List Value}{dvs:List V}{e:Expr}{es:List Expr}{t:TA}{np apos pos:Pos}{pl:Sem Bool}
theorem Uw {A:Around}{E:Value->Shared->Prop}{s:Shared}{K:Fgx}{prog:Program}{w:World}{Q:Value×List Value->Shared->Prop}(hb:gW K C f me=true)(kx:K.In s.heap)(h:Q (.ref f,[]) {s with toks:=s.toks + 1}):wpAny (model prog w) A (getMethod (.ref C) me pl) Q E s:=by
 unfold gW at hb;simp only[xaC]at hb;obtain⟨⟨⟨h1,h2⟩,h3⟩,_⟩:=hb;split at h2
 ·rename_i mc _;obtain⟨h4,h5⟩:=xdF.mp h2;split at h5
  ·rename_i g eg;have:=xcn.mp h5;subst this;exact PySem.W.method_cls kx (xcn.mp h1) (PySem.W.cls_value kx h4 eg h3 h)
  ·cases h5
 ·cases h2
end
end L2
namespace E3
open PySem PySem.Spec PyProof.Rows L2
def mZ (P:Program)(w:World)(K:Fgx)(mg:Mgx)(base:Heap)(k:Nat)(c me:Str)(n:Nat)(g:G):Prop:=
 ∃C fa fd ps ds dvs sp,mg c=some (.ref C)/\gW K C fa me=true/\FnOk P w K mg base fY k fa fd ps sp/\Binds K fd ps ds/\Vals dvs ds/\∀vs H Q E,nW K mg n g vs H Q E->sp (vs ++ dvs) H Q E
theorem mZ.mono {P:Program}{w:World}{K:Fgx}{mg:Mgx}{base:Heap}{c me:Str}{k j n:Nat}{g:G}(a:mZ P w K mg base j c me n g)(h:j<=k):mZ P w K mg base k c me n g:=by
 obtain⟨C,fa,fd,ps,ds,dvs,sp,h1,h2,h3,h4⟩:=a;exact⟨C,fa,fd,ps,ds,dvs,sp,h1,h2,h3.mono h,h4⟩
theorem mZ.up {P:Program}{w:World}{K:Fgx}{mg:Mgx}{base:Heap}{c me:Str}{k j n:Nat}{g:G}(a:mZ P w K mg base j c me n g)(h:j<=k:=by decide):mZ P w K mg base k c me n g:=a.mono h
section
variable {X:Cx}{Wx:XW}{m:Mode}
theorem zbL {k n:Nat}{c me:Str}{g:G}{e:Expr}{es:List Expr}{fs:EA}{np apos pos:Pos}{pl:Sem Bool}(a:mZ X.prog X.w X.K X.mg X.base k c me n g)(hr:Room k X.A)(hg:Gl X c)(ha:SA X Wx .val (e::es) fs)(hn:tY n fs)(hdb:(c==("__debug__":Str))=false:=by x_go)
  (he:starEach (e::es) X.env=(false,eval e X.env)::starEach es X.env:=by rfl) (hpl:(backTo pos (starEach es X.env)).any (·.1)=false:=by rfl)
  (ht : eval (.Call (.Attribute (.Name c np) me apos) (e :: es) [] pos) X.env = (do
   let ov <-eval (.Name c np) X.env
   standAt apos.atName
   let (f,first) <-holding [ov] (getMethod ov me pl)
   callWith pos f first (backTo pos (starEach (e::es) X.env)) (backToKw pos (keywordEach [] X.env))):=by rfl):SE X Wx m (.Call (.Attribute (.Name c np) me apos) (e::es) [] pos) (cj g fs):=by
 obtain⟨C,fa,fd,ps,ds,dvs,sp,hm,hbs,F,hb,hv,himp⟩:=a;have hk:PySem.W.keepIn X.K (.ref fa)=true:=by
  unfold gW at hbs;simp only[xaC]at hbs;exact hbs.2
 have pb:PE X (.Call (.Attribute (.Name c np) me apos) (e::es) [] pos) (S_ sp dvs E0 (S9 X.K X.mg Wx .val fs)):=by
  intro pins s σ H Q I h;refine xdt (pl:=pl) (Du I hg hm (Uw hbs I.kIn ?_) hdb) ht;have I1:=I.tok (s.toks + 1);refine xc6 (first:=[]) (h₀:=X.base) I.ok.mod.kin hk (aN (ha pos pins _ σ H _ I1 h) fun us s1 ⟨vs,H1,I1,r,q⟩=>⟨I1.kIn,?_⟩) he hpl
  exact Er F hr hb hv Ax I1 r q
 refine bR pb ?_;rintro st H Q ⟨P0,H0,P,Os,env,M,r,M',k,e,q⟩;unfold cj at e;rcases mq e with⟨ds,M1,e1,e⟩ |⟨c,n,e1,rfl⟩
 ·split at e
  ·rename_i d M2 eg;cases e;exact⟨P0,H0,P,Os,env,M,_,_,k,e1,fun P1 vs H1 l1 h1 i1=>himp _ _ _ _ ⟨by rw[i1.len];exact hn _ _ _ _ e1,P1,M1,ds,d,_,h1,i1.iss,eg,fun P2 v H2 l2 h2 i2=>q P2 v H2 (l1.trans l2) h2 (cB.of h2 i2)⟩⟩
  ·cases e
 ·exact⟨P0,H0,P,Os,env,M,_,_,k,e1,q⟩
end
structure BasAt (K:Fgx)(C:Addr)(q:Str)(st:Stmt)(ps:List Str)(f:Addr)(fd:FuncData):Prop where
 bs:gW K C f "__init__"=true
 F:FunD K "__init__" q st f fd
 b:Binds K fd ps []
theorem BasAt.ok {P:Program}{w:World}{K:Fgx}{mg:Mgx}{base:Heap}{k:Nat}{c:Str}{C:Addr}{q:Str}{st:Stmt}{f:Addr}{fd:FuncData}{N ps:List Str}{b:S}(D:BasAt K C q st ps f fd)(hm:mg c=some (.ref C))(S:FnScope N ps (aM st))(hr:RT P w K mg base k f N q st b)(hp:ps.length<=N.length:=by decide):mZ P w K mg base (k + 1) c "__init__" ps.length (cg N.length b):=
 ⟨C,f,fd,ps,[],[],_,hm,D.bs,k_ D.F S hp hr,D.b,.nil,fun vs H Q E h=>by rw[xaJ];exact h⟩
section
variable {X:Cx}{Wx:XW}{m:Mode}{pos:Pos}
structure OwnTo (K:Fgx)(C B:Addr):Prop where
 ca:PySem.W.findIn K (.ref C) "__class__"=some (some (.builtin "object.__class__"))
 gt:PySem.W.specialIn K (.builtin "object.__class__") "__get__"=some (some (.builtin "getset_descriptor.__get__"))
 tk:PySem.W.takesIn K (.builtin "object.__class__")=some true
 mr:PySem.W.mroIn K C (.type "object")=some true
 me:PySem.W.kitOne K (.ref C) (.ref B)=some true
end
end E3
namespace L2
open PySem PySem.Spec PyProof.Rows
section
variable {prog:Program}{w:World}{A:Around}{E:Value->Shared->Prop}{s:Shared}{K:Type}[DecidableEq K]{knd:HeapKind prog w K}
theorem zb1 {d a:Addr}{xs:List (K×Addr×Value)}{k:K}{v:Value}{Q:Value->Shared->Prop}(hu:knd.room A)(hkey:knd.is s.heap k a)(hm:s.heap.DictOfH knd d xs)
  (h1:∀p,atKey xs k=some p->Q p.2 {s with toks:=s.toks + knd.draws k})
  (h2:atKey xs k=none->∀h',h'.DictOfH knd d (storedH xs k a v)->Heap.SameBut d s.heap h'->Q v {s with heap:=h',toks:=s.toks + knd.draws k}) (hsz:xs.length<=sizeLine):
  wpAny (model prog w) A (dictSetDefault d (.ref a) v) Q E s:=by
 obtain⟨o,es,ep,ho,hc,hd,he,his,hn⟩:=hm;unfold dictSetDefault;refine xbs (xaa (knd.pyHash hu hkey (xaa (wpAny_dictFind_heap (s:={s with toks:=s.toks + knd.draws k}) hu hkey ho hd he his hn (fun hno=>?_) fun j p hj=>?_))))
 ·have nk:k∉xs.map (·.1):=not_mem_keys_of_get hno;have st:=storedH_new (xd5 hno) a v;have q2:=h2 (xd5 hno);rw[st]at q2;refine xaa (wpAny_rule (xaa (wpAny_updateDictKeys (hz:=by have e:=xbQ he;lia) (s:={s with toks:=s.toks + knd.draws k}) ho hd (xab (q2 _ ⟨_,_,ep + 1,xbH _ ho (Obj.isFreed_of_dict (xcW hd _)),hc.mapDictKeys _,xcW hd _,?_,fun x hx=>?_,?_⟩ (xbn ..))))))
  ·simp[he,entryOfKey]
  ·rcases xaQ.mp hx with hx |hx
   ·exact knd.keeps (his x hx) ho hd (xbn ..)
   ·cases xaB.mp hx;exact knd.keeps hkey ho hd (xbn ..)
  ·rw[xaM,xdl];refine⟨hn,by simp,fun x hx y hy e=>nk ?_⟩;have h3:y=k:=by simpa using hy
   rw[<-h3, <-e];exact hx
 ·refine xaa (xbq (s:={s with toks:=s.toks + knd.draws k}) ho hd ?_);rw[xeN he j,hj];exact xaa (wpAny_rule (xab (h1 p (atKey_of_get hn hj))))
theorem zbo (knd : HeapKind prog w K) (d a : Addr) (hd : (d == sysModules) = false) (v : Value) : MeetsIn prog w (Builtin.«dict.setdefault» ⟨[.ref d, .ref a, v], []⟩) (fun A R s=>knd.room A.in1/\∃k xs,knd.is s.heap k a/\s.heap.DictOfH knd d xs/\xs.length<=sizeLine/\
  (∀p,atKey xs k=some p->R (.ok (.ret p.2)) {s with toks:=s.toks + knd.draws k})/\(atKey xs k=none->∀h',h'.DictOfH knd d (storedH xs k a v)->Heap.SameBut d s.heap h'->R (.ok (.ret v)) {s with heap:=h',toks:=s.toks + knd.draws k})):=
 .of_wp fun A R s ⟨hu,k,xs,hk,hm,hz,h1,h2⟩=>by
  unfold Builtin.«dict.setdefault» Builtin.Dict.keyAndDefault;refine xaa (xaa (xcg hm.typeIs ?_));show wpAny _ _ (pure (d,Value.ref a,some v)) _ _ s;refine xab ?_;show wpAny _ _ (if (d==sysModules)=true then _ else(dictSetDefault d (.ref a) v >>=_)) _ _ s
  rw[hd,xad xas];exact xaa (zb1 hu hk hm (fun p hp=>xab ⟨p.2,rfl,h1 p hp⟩) (fun hn h' dd hs=>xab ⟨v,rfl,h2 hn h' dd hs⟩) hz)
end
section
variable {X:Cx}
theorem Xj {H:Hp}{kvs:List (List Key×V)}{xs:List (List Key×Addr×Value)}(r:KT H kvs xs){k:List Key}(h:atKey xs k=none):bx kvs k=none:=by
 have:=r.val k;rw[h]at this
 cases e:bx kvs k with
 |none=>rfl
 |some v=>rw[e]at this;exact(show False from this).elim
theorem Xk {H:Hp}{kvs:List (List Key×V)}{xs:List (List Key×Addr×Value)}(r:KT H kvs xs){k:List Key}{p:Addr×Value}(h:atKey xs k=some p):∃v,bx kvs k=some v/\RelV v p.2:=by
 have:=r.val k;rw[h]at this
 cases e:bx kvs k with
 |none=>rw[e]at this;exact(show False from this).elim
 |some v=>rw[e]at this;exact⟨v,rfl,this⟩
theorem Yb (hu:X.A.units + 1<cLine):yL X "dict.setdefault" (fun x xs H Q=>∃a b kvs k v,x=.ref a/\xs=[.ref b,v]/\H b=some (.tup (List.map kV k))/\H a=some (.dT kvs)/\kvs.length<sizeLine/\(∀y,bx kvs k=some y->Q y H)/\(bx kvs k=none->Q v (upd H a (.dT (putK kvs k v))))):=by
 intro pins s σ H x xs v us Q I rx r h;obtain⟨a,b,kvs,k,w,rfl,rfl,eb,e,l,q1,q2⟩:=h;cases rx;obtain⟨u1,u2,rfl,r1,r2⟩:=vals2 r;cases (show u1=Value.ref b from r1);obtain⟨z,hd,ys,rel,dd⟩:=HD I.hok e;have hz:ys.length<=sizeLine:=by rw[<-xbr rel];exact z
 refine xel xdK dd.typeIs PySem.F.entry_dict_setdefault (PySem.F.args_dict_setdefault_3 _ _ _) (zbo (tupleKind (eX X.prog X.w)) a b hd u2) ⟨xcB hu,k,ys,IW I.hok eb,dd,hz,fun p hp=>?_,fun hn h' dd' hs=>?_⟩
 ·obtain⟨y,hy,ry⟩:=Xk rel hp;exact⟨y,H,I.tok _,ry,q1 y hy⟩
 ·have hl:(putK kvs k w).length<=sizeLine:=by have:=Jc kvs k w;lia
  obtain⟨q,es,ep,hq,g2,g3,g4,_,g5⟩:=dd';refine⟨w,upd H a (.dT (putK kvs k w)),Dc I (by rw[e];exact True.intro) hs ⟨q,hq⟩ ⟨hl,hd,_,(rel.put k eb r2).keeps fun c ys ec=>?_,q,es,ep,hq,g2,g3,g4,g5⟩,r2,q2 (Xj rel hn)⟩;rw[aW (D_ ec e (fun z=>nomatch z))]
  exact ec
end
section
variable {prog:Program}{w:World}{A:Around}{E:Value->Shared->Prop}{s:Shared}
theorem Ql {it d:Addr}{i n ep:Nat}{od:Obj}{es:Array DictEntry}{Q:Option Value->Shared->Prop}(hit:s.heap.IsKeyIter it d i n ep)(hod:s.heap.get? d=some od)(hdd:od.data=.dict es ep)(hn:es.size=n)(hl:i<es.size)
  (hQ:∀h',h'.IsKeyIter it d (i + 1) n ep->Heap.SameBut it s.heap h'->Q (some es[i].key) {s with heap:=h'}):wpAny (model prog w) A (pyNext (.ref it)) Q E s:=by
 obtain⟨o,ho,hc,hd⟩:=id hit;have nr:¬ ((Value.ref d==Value.none)=true):=xas;have ow:Builtin.Dict_items.ownsTuple "dict_keyiterator"=false:=by decide
 unfold pyNext;refine xaa (xdr (xb4 (name:=Str.ofString "__next__") hit.typeIs xbb (xbl xbb hit.typeIs xdf (xaa (xab (xaa (xaa ?_)))) (xc9 _))))
 first |refine xaa (xb3 hit.typeIs (xab (xaa (xca ho hd ?_)))) |refine xaa (xcs hit.typeIs (xab (xaa (xca ho hd ?_))))
 simp only[ow,xa3,xbt];show wpAny _ _ (if (Value.ref d==Value.none)=true then _ else _) _ _ s
 rw[xad nr];refine xaa (xab (xaa (xbq hod hdd ?_)));rw[xad (by rw[hn];simp)];refine xaa (xab (xaa (xch hod hdd ?_)));rw[xad (by simp)];refine xab ?_;simp only[show ¬ ((i:Int)<0) by lia,xbt,xcM,xbd hl];refine xaa ?_
 first |refine xaa (xb3 hit.typeIs (xab (xaa (xdy hit.typeIs ?_)))) |refine xaa (xcs hit.typeIs (xab (xaa (xdy hit.typeIs ?_))))
 show wpAny _ _ (setField (.ref it) 1 (rawInt ((i:Int) + 1)) >>=_) _ _ s;have nw:(s.heap.update it (Obj.mapFields (·.setIfInBounds 1 (rawInt ((i:Int) + 1))))).IsKeyIter it d (i + 1) n ep:=⟨_,xbH _ ho (xdu (xbK hd _)),(Obj.cls_mapFields ..).trans hc,by rw[xbK hd];simp[rawInt]⟩;refine xaa (xcO ho hd (by simp) (xaa (xbs (xaa (xdy (s:={s with heap:=s.heap.update it (Obj.mapFields (·.setIfInBounds 1 (rawInt ((i:Int) + 1))))}) nw.typeIs ?_)))));show wpAny _ _ (pure es[i].key) _ _ _;exact xab (xab ⟨_,rfl,xab (hQ _ nw (xbn ..))⟩)
theorem Qk {it d:Addr}{n ep:Nat}{od:Obj}{es:Array DictEntry}{Q:Option Value->Shared->Prop}(hh:A.handled=none)(hit:s.heap.IsKeyIter it d n n ep)(hod:s.heap.get? d=some od)(hdd:od.data=.dict es ep)(hn:es.size=n)
  (hQ:∀h',Heap.ExtBut it s.heap h'->Q none {s with heap:=h'}):wpAny (model prog w) A (pyNext (.ref it)) Q E s:=by
 obtain⟨o,ho,hc,hd⟩:=id hit;have nr:¬ ((Value.ref d==Value.none)=true):=xas;have ow:Builtin.Dict_items.ownsTuple "dict_keyiterator"=false:=by decide
 unfold pyNext;refine xaa (xdr (xb4 (name:=Str.ofString "__next__") hit.typeIs xbb (xbl xbb hit.typeIs xdf (xaa (xab (xaa (xaa ?_)))) (xc9 _))))
 first |refine xaa (xb3 hit.typeIs (xab (xaa (xca ho hd ?_)))) |refine xaa (xcs hit.typeIs (xab (xaa (xca ho hd ?_))))
 simp only[ow,xa3,xbt];show wpAny _ _ (if (Value.ref d==Value.none)=true then _ else _) _ _ s
 rw[xad nr];refine xaa (xab (xaa (xbq hod hdd ?_)));rw[xad (by rw[hn];simp)];refine xaa (xab (xaa (xch hod hdd ?_)));rw[xad (by simp)];refine xab ?_;simp only[show ¬ ((n:Int)<0) by lia,xbt,xcM,xew (show es.size<=n by lia)];refine xaa ?_
 first |refine xaa (xb3 hit.typeIs (xab ?_)) |refine xaa (xcs hit.typeIs (xab ?_))
 show wpAny _ _ (setField (.ref it) 0 .none >>=_) _ _ s;refine xaa (xcO ho hd (by simp) ?_);show wpAny _ _ (newExc (.type "StopIteration") [] >>=_) _ _ _;refine xaa ?_;simp only[newExc,newTuple];refine xaa (xaN (xaa (m:=firstArgMember _ _) (wpAny_of_eq (a:=Value.none) (by first |rfl |(simp only[firstArgMember];rfl)) (xaN ?_ (by size_fits)))) (by size_fits))
 simp only[raiseNew];refine xaa (wpAny_handled ?_);rw[show A.in1.handled=none from hh];refine xaa (xab (wpAny_throw ?_));exact xaa (xed (T:="StopIteration") (b:=true) ⟨_,xau _ rfl,rfl⟩ isSubtype_stop (xab (hQ _ (((xbn ..).extBut.push _).push _))))
theorem W4 {d:Addr}{n ep:Nat}{od:Obj}{es:Array DictEntry}{Q:Value->Shared->Prop}(hx:od.ExactDict)(hs:(d==sysModules)=false)(hod:s.heap.get? d=some od)(hdd:od.data=.dict es ep)(hn:es.size=n)
  (hQ:Q (.ref s.heap.objs.size) {s with heap:=s.heap.push {cls:=.type "dict_keyiterator",data:=.fields #[.ref d,.int 0 0,.int n 0,.int ep 0]}}):wpAny (model prog w) A (pyIter (.ref d)) Q E s:=by
 have hT:s.TypeIs (.ref d) "dict":=⟨od,hod,hx.1⟩;refine xdk hT xex (xbl xex hT PySem.F.entry_dict_iter ?_ (PySem.F.args_dict_iter_1 _));unfold Builtin.«dict.__iter__» Builtin.Dict.dictSlotNone;refine xaa (xaa (xcg hT ?_));show wpAny _ _ (pure (Value.ref d)) _ _ s;refine xab ?_;show wpAny _ _ (Builtin.Dict.showsAll d >>=_) _ _ s;unfold Builtin.Dict.showsAll;rw[hs,xad xas];refine xaa (xab (xaa (xbq hod hdd (xaa (xch hod hdd ?_)))));refine xaa (xaN (xab ⟨_,rfl,"dict_keyiterator",_,⟨_,xau _ rfl,rfl⟩,xbb.lookup,?_⟩))
 simpa [rawInt,hn] using hQ
end
noncomputable def Gv (a:Addr) (ob:Obj) (kvs:List (List Key×V)):It:=
 ⟨fun i H=>i<kvs.length/\H a=some (.frz ob (.dT kvs)),fun i H x H'=>H'=H/\∃p b,kvs[i]? =some p/\x=.ref b/\H b=some (.tup (p.1.map kV)),fun i H=>i=kvs.length/\H a=some (.frz ob (.dT kvs))⟩
theorem kt_at {H:Hp}:∀{kvs:List (List Key×V)} {xs:List (List Key×Addr×Value)} {i:Nat} {p:List Key×V},KT H kvs xs->kvs[i]? =some p->∃q,xs[i]? =some q/\p.1=q.1/\H q.2.1=some (.tup (p.1.map kV))/\RelV p.2 q.2.2:=by
  intro kvs xs i p r;unfold KT at r
  induction r generalizing i with
  |nil=>intro e;simp at e
  |cons h t ih=>
    intro e
    cases i with
    |zero=>simp only[List.getElem?_cons_zero]at e;cases e;exact⟨_,rfl,h⟩
    |succ n=>simp only[xba]at e ⊢;exact ih e
theorem xO {P:Program}{w:World}{H:Hp}{h:Heap}{a:Addr}{ob:Obj}{kvs:List (List Key×V)}{es:Array DictEntry}{ep:Nat}(ok:bZ P w H h)(e:H a=some (.frz ob (.dT kvs)))(hd:ob.data=.dict es ep):
  ∃xs,KT H kvs xs/\h.get? a=some ob/\ob.ExactDict/\es.toList=xs.map (entryOfKey (tupleKind (eX P w)))/\(a==sysModules)=false:=by
 obtain⟨g,_,sa,xs,r,o,es',ep',ho,hx,hdat,h4,_⟩:=ok a _ e;rw[g]at ho;cases ho;rw[hd]at hdat;cases hdat;exact⟨xs,r,g,hx,h4,sa⟩
theorem zaC {P:Program}{w:World}{K:Fgx}{tg:Expr}(a it:Addr)(ob:Obj)(kvs:List (List Key×V)){es:Array DictEntry}{ep:Nat}(hd:ob.data=.dict es ep):Turn P w K tg (Gv a ob kvs) [it] it (fun i h=>h.IsKeyIter it a i kvs.length ep) where
 mem:=by simp
 obj:=fun i h st b hb=>by
  have e:b=it:=by simpa using hb
  subst e;obtain⟨o,e,c,d⟩:=st;exact⟨o,e,fun v z=>by rw[d]at z;cases z⟩
 keep:=fun i h h' st k=>st.at fun o e=>k it (by simp) o e
 item:=by
  intro X hP hw hK hc i pins s σ H E I hf st hg;subst hP hw hK;obtain⟨hi,hq⟩:=hg;obtain⟨xs,rv,g,hx,he,sa⟩:=xO I.hok hq hd;have hk:kvs[i]? =some (kvs[i]'hi):=xar hi;obtain⟨q,hu,ru,hb,_⟩:=kt_at rv hk;have sz:es.size=kvs.length:=by rw[xbr rv];exact xbQ he
  have il:i<es.size:=by lia
  have ek:es[i].key=.ref q.2.1:=by
   have:=xeN he i;rw[hu,xbd il]at this;exact congrArg DictEntry.key (xaA this)
  obtain⟨f0,f1,f2,f3,f4,f5⟩:=hf it (by simp);refine Ql st g hd sz il fun h' st' sb=>?_;have I1:Inv X pins σ H {s with heap:=h'}:=I.turned (t':=s.toks) (fun b o hb e=>(sb.2 b hb).trans e) f0 f1 f3 f4 f5;obtain⟨o,eo,c,d⟩:=id st';exact⟨_,rfl,xZ (s:={s with heap:=h'}) eo c d (by decide) ⟨.ref q.2.1,H,I1,by rw[ek];rfl,⟨rfl,_,_,hk,rfl,hb⟩,st',fun b hb=>(hf b hb).1⟩⟩
 done:=by
  intro X hP hw hK hc i pins s σ H E I hf st hg;subst hP hw hK;obtain⟨rfl,hq⟩:=hg;obtain⟨xs,rv,g,hx,he,sa⟩:=xO I.hok hq hd;have sz:es.size=kvs.length:=by rw[xbr rv];exact xbQ he
  obtain⟨f0,f1,f2,f3,f4,f5⟩:=hf it (by simp);exact Qk (I.ok.hd hc) st g hd sz fun h' eb=>⟨rfl,I.turned (t':=s.toks) (fun b o hb e=>eb b o hb e) f0 f1 f3 f4 f5⟩
 self:=fun _ _ _ _ _ st h=>wpAny_pyIter_keyiter st h
section
variable {X:Cx}{pos:Pos}
theorem Vu {P:Program}{w:World}{H:Hp}(h:Heap)(hb:sysModules<h.objs.size):cH P w H (h.push {cls:=.type "dict",data:=.dict #[]}) h.objs.size (.dT []):=
 ⟨xa0 _,xbh.mpr (xbx (xaI hb)),[],.nil,_, #[],0,xau _ rfl,⟨rfl,rfl,rfl⟩,rfl,rfl,List.nodup_nil⟩
theorem ZG:PE X (.Dict [] [] pos) fun _ H Q=>∀p,H p=none->Q (.ref p) (upd H p (.dT [])):=fun pins s σ H Q I h=>
 wpAny_Dict_empty ⟨.ref s.heap.objs.size,_,I.laid (a:=s.heap.objs.size) (o:=.dT []) (t':=s.toks) (fun _ _ q=>xag _ q) (xaf _) (Vu s.heap I.big),rfl,h _ (I.hok.fresh (xaf _))⟩
end
section
variable {X:Cx}{tg:Expr}
noncomputable def Wu (td:TE):TI:=fun σ H R=>td σ H fun v H1=>∃a ob kvs es ep,v=.ref a/\H1 a=some (.frz ob (.dT kvs))/\ob.data=.dict es ep/\R (Gv a ob kvs) H1
theorem Z9 {o:Expr}{td:TE}(ho:PE X o td):PI X tg o (Wu td):=by
 intro pins s σ H R I h;refine aN (ho pins s σ H _ I h) fun v s1 ⟨x,H1,I1,r1,a,ob,kvs,es,ep,ex,ha,hd,q1⟩=>?_;subst ex;obtain rfl:v=Value.ref a:=r1;obtain⟨xs,rv,g,hx,he,sa⟩:=xO I1.hok ha hd;have sz:es.size=kvs.length:=by rw[xbr rv];exact xbQ he
 refine W4 hx sa g hd sz ?_;have I3:Inv X pins σ H1 {s1 with heap:=s1.heap.push {cls:=.type "dict_keyiterator",data:=.fields #[.ref a,.int 0 0,.int kvs.length 0,.int ep 0]}}:=I1.kept (t':=s1.toks) fun b o e=>xag _ e;refine⟨_,[s1.heap.objs.size],_,Gv a ob kvs,_,rfl,I3,zaC a _ ob kvs hd,⟨_,xau _ rfl,rfl,rfl⟩,fun c hc=>?_,q1⟩;have e:c=s1.heap.objs.size:=by simpa using hc
 subst e;exact I1.fpOk (xaf _) (I1.hok.fresh (xaf _))
theorem N5 {P:Program}{w:World}{H:Hp}{h:Heap}{a:Addr}{kvs:List (List Key×V)}(x:cH P w H h a (.dT kvs)):∀v,¬ h.IsCell a v:=fun v ⟨oc,ho,hd⟩=>by
 obtain⟨_,_,xs,_,o,es,ep,h1,_,h3,_⟩:=x;rw[h1]at ho;cases ho;rw[h3]at hd;cases hd
theorem ZR {e:Expr}{t:TE}(h:PE X e t):PE X e fun σ H Q=>t σ H fun v H'=>∃a kvs,H' a=some (.dT kvs)/\∀ob es ep,ob.data=.dict es ep->Q v (upd H' a (.frz ob (.dT kvs))):=by
 intro pins s σ H Q I w;refine aN (h pins s σ H _ I w) fun v s1 ⟨x,H1,I1,r1,a,kvs,ha,q⟩=>?_;obtain⟨sz,sa,xs,rv,ob,es,ep,hob,hex,hdat,rest⟩:=I1.hok a _ ha;have nf:∀o u,X.H₀ a≠some (.frz o u):=fun o u e=>by
  have:=I1.base.frzs a o u e;rw[ha]at this;cases this
 exact⟨x,_,I1.swap (u':=.frz ob (.dT kvs)) ha (fun _ z=>by cases z) (fun _ z=>by cases z) (fun _ z=>by cases z) nf (N5 (I1.hok a _ ha)) ⟨hob,sz,sa,xs,KT.keeps rv (fun b ys eb=>by rw[aW (D_ eb ha (fun z=>nomatch z))];exact eb),ob,es,ep,hob,hex,hdat,rest⟩,r1,q ob es ep hdat⟩
end
end L2
namespace E3
open PySem PySem.Spec PyProof.Rows L2
section
variable {K:Fgx}{P:Pl}{H:Hp}
noncomputable def pU:List D->Option (List Key)
  | []=>some []
  |d::ds=>match toKey d,pU ds with
    |some k,some r=>some (k::r)
    |_,_=>none
def dR (k:List Key):D:=.tup (k.map wD)
theorem zT:∀{ds:List D} {vs:List V} {k:List Key},pU ds=some k->aA K P H ds vs->vs=k.map kV
  | [],vs,k,h,i=>by cases h;cases i;rfl
  |d::ds,vs,k,h,i=>by
    obtain⟨v,r,rfl,i1,i2⟩:=i;unfold pU at h;split at h
    · rename_i k1 r1 e1 e2;cases h;rw[key_is e1 i1,zT e2 i2];rfl
    · cases h
theorem Ds:∀k:List Key,aA K P H (k.map wD) (k.map kV)
 | []=>rfl
 |a::k=>⟨_,_,rfl,is_key a,Ds k⟩
noncomputable def bT (kvs:List (List Key×D)) (k:List Key):Option D:=(kvs.find? fun kv=>decide (kv.1=k)).map (·.2)
noncomputable def bY (kvs:List (List Key×D)) (k:List Key) (v:D):List (List Key×D):=
 if (kvs.any fun kv=>decide (kv.1=k))=true then kvs.map (fun kv=>if kv.1=k then(kv.1,v) else kv) else kvs ++ [(k,v)]
def cN (K:Fgx)(P:Pl)(H:Hp)(kvs:List (List Key×D))(vs:List (List Key×V)):Prop:=vs.map (·.1)=kvs.map (·.1)/\aA K P H (kvs.map (·.2)) (vs.map (·.2))
theorem BW {p:List Key×D}{q:List Key×V}{kvs:List (List Key×D)}{vs:List (List Key×V)}:cN K P H (p::kvs) (q::vs) ↔ q.1=p.1/\Is K P H p.2 q.2/\cN K P H kvs vs:=by
 constructor
 ·rintro⟨h1,v,r,e1,i,q⟩;simp only[xak,xcZ]at h1 e1;obtain⟨rfl,rfl⟩:=e1;exact⟨h1.1,i,h1.2,q⟩
 ·rintro⟨h1,i,h2,q⟩;exact⟨by simp[h1,h2],_,_,rfl,i,q⟩
theorem BX {k:List Key}:∀{kvs:List (List Key×D)} {vs:List (List Key×V)},cN K P H kvs vs->match bT kvs k with
    |some d=>∃v,bx vs k=some v/\Is K P H d v
    |none=>bx vs k=none
  | [],[],_=>rfl
  | [],_::_,h=>by cases h.1
  |_::_,[],h=>by cases h.1
  |p::kvs,q::vs,h=>by
    obtain⟨h1,i,h2⟩:=BW.mp h
    by_cases e:p.1=k
    · have a:bT (p::kvs) k=some p.2:=by simp[bT,xbY,e]
      rw[a];exact⟨q.2,Ly (h1.trans e),i⟩
    · have a:bT (p::kvs) k=bT kvs k:=by simp[bT,xbY,e]
      rw[a,Lx fun z=>e (h1.symm.trans z)];exact BX h2
theorem Tv {k:List Key}:∀{kvs:List (List Key×D)} {vs:List (List Key×V)},vs.map (·.1)=kvs.map (·.1)->(vs.any fun kv=>decide (kv.1=k))=(kvs.any fun kv=>decide (kv.1=k))
  | [],[],_=>rfl
  | [],_::_,h=>by cases h
  |_::_,[],h=>by cases h
  |p::kvs,q::vs,h=>by
    simp only[xak,xcZ]at h;rw[xbN,xbN,h.1,Tv h.2]
theorem Tz {k:List Key}{d:D}{v:V}(i:Is K P H d v):∀{kvs:List (List Key×D)} {vs:List (List Key×V)},cN K P H kvs vs->cN K P H (kvs.map fun kv=>if kv.1=k then(kv.1,d) else kv) (vs.map fun kv=>if kv.1=k then(kv.1,v) else kv)
  | [],[],h=>h
  | [],_::_,h=>by cases h.1
  |_::_,[],h=>by cases h.1
  |p::kvs,q::vs,h=>by
    obtain⟨h1,i1,h2⟩:=BW.mp h;rw[xak,xak];refine BW.mpr ⟨?_,?_,Tz i h2⟩
    · split<;>split<;>exact h1
    · rw[h1]
      split
      · exact i
      · exact i1
theorem TF {k:List Key}{d:D}{v:V}{kvs:List (List Key×D)}{vs:List (List Key×V)}(i:Is K P H d v)(h:cN K P H kvs vs):cN K P H (bY kvs k d) (putK vs k v):=by
 unfold bY putK;rw[Tv h.1]
 split
 ·exact Tz i h
 ·refine⟨by rw[xaM,xaM,h.1];rfl,?_⟩;rw[xaM,xaM];exact aA.append h.2 (aA.one i)
theorem Lp {kvs:List (List Key×D)}{vs:List (List Key×V)}(h:cN K P H kvs vs):vs.length=kvs.length:=by simpa using congrArg List.length h.1
theorem yp {vs:List (List Key×V)}:¬ Fx (.dT vs):=fun z=>by rcases z with⟨_,z⟩ |⟨_,_,z⟩ |⟨_,z⟩ |⟨_,z⟩<;>cases z
end
section
variable {X:Cx}{Wx:XW}{m:Mode}{pos:Pos}
noncomputable def g8 (M:Mm) (d:D):Option (Nat×List (List Key×D)):=match d with
  | .ref k => (match M[k]? with
    |some (.dtc kvs)=>some (k,kvs)
    |_=>none)
  |_=>none
theorem rY {M:Mm}{d:D}{k:Nat}{kvs:List (List Key×D)}(h:g8 M d=some (k,kvs)):d=.ref k/\M[k]? =some (.dtc kvs):=by
 unfold g8 at h;split at h
 ·split at h
  ·cases h;rename_i e;exact⟨rfl,e⟩
  ·cases h
 ·cases h
noncomputable def pI (M:Mm) (d:D):Option (Nat×List (List Key×D)):=match d with
  | .ref k => (match M[k]? with
    |some (.dtf kvs)=>some (k,kvs)
    |_=>none)
  |_=>none
theorem Df {M:Mm}{d:D}{k:Nat}{kvs:List (List Key×D)}(h:pI M d=some (k,kvs)):d=.ref k/\M[k]? =some (.dtf kvs):=by
 unfold pI at h;split at h
 ·split at h
  ·cases h;rename_i e;exact⟨rfl,e⟩
  ·cases h
 ·cases h
def Bh:E:=fun _ M=>some (.v (.ref M.length),M ++ [.dtc []])
theorem RX:SE X Wx m (.Dict [] [] pos) Bh:=by
 refine bR ZG ?_;rintro st H Q ⟨P0,H0,P,Os,env,M,r,M',k,e,q⟩;cases e;intro p hp;obtain⟨l1,h1,nc⟩:=Mt (o:=.dT []) k.hk hp;obtain⟨P2,l2,h2,i2⟩:=M9 (o':=.dT []) (c:=.dtc []) l1 h1 hp (.inr rfl) nc bJ yp fun P' _=>⟨[],bJ,rfl,rfl⟩;rw[Lw]at l2 h2 i2;exact q P2 _ _ l2 h2 (cB.of h2 i2)
noncomputable def sI (f:E):E:=fun env M=>bnd (f env M) fun d M1=>match g8 M1 d with
 |some (j,kvs)=>some (.v d,M1.set j (.dtf kvs))
 |none=>none
theorem R0 {e:Expr}{f:E}(h:SE X Wx .val e f):SE X Wx m e (sI f):=by
 refine bR (ZR h) ?_;rintro st H Q ⟨P0,H0,P,Os,env,M,r,M',k,e,q⟩;unfold sI at e;rcases bN e with⟨d,M1,e1,e⟩ |⟨c,n,e1,rfl⟩
 ·refine aQ k e1 fun P1 v1 H1 l1 h1 i1=>?_;split at e
  ·rename_i j kvs ed;cases e;obtain⟨rfl,em⟩:=rY ed;obtain⟨jl,rfl⟩:j<P1.n/\v1=.ref (P1.io j):=i1;obtain⟨vs,ev,en,is⟩:=h1.cell j _ em;refine⟨P1.io j,vs,ev,fun ob es ep hd=>?_⟩;have lc:Lt P1 H1 P1 (upd H1 (P1.io j) (.frz ob (.dT vs))):=mR (h1.bd j jl) ev yp;obtain⟨l2,l2e,h2⟩:=h1.set (c':=.dtf kvs) (o':=.frz ob (.dT vs)) em ⟨vs,ob,es,ep,bJ,hd,en,aA.lt lc is⟩;exact q P1 _ _ (l1.trans l2e) h2 (cB.of h2 (show Is _ _ _ (.ref j) _ from⟨jl,rfl⟩))
  ·cases e
 ·exact aQ k e1 q
noncomputable def h_ (f:E):EA:=fun env M=>match f env M with
  | some (.v d, M1) => (match pI M1 d with
    |some p=>some (.v (p.2.map fun p=>dR p.1),M1)
    |none=>none)
  |some (.x c n,M1)=>some (.x c n,M1)
  |none=>none
theorem zaX {tg e:Expr}{f:E}(h:SE X Wx .val e f):SI X Wx tg e (h_ f):=by
 refine JB (Z9 h) ?_;rintro st H R ⟨P0,H0,P,Os,env,M,r,M',k,e,q⟩;unfold h_ at e;split at e
 ·rename_i d M1 ef;split at e
  ·rename_i p ed;cases e;refine⟨P0,H0,P,Os,env,M,_,_,k,ef,fun P1 v1 H1 l1 h1 i1=>?_⟩;obtain⟨rfl,em⟩:=Df (k:=p.1) (kvs:=p.2) ed;obtain⟨jl,rfl⟩:p.1<P1.n/\v1=.ref (P1.io p.1):=i1;obtain⟨vs,ob,es,ep,ev,hd,en,is⟩:=h1.cell p.1 _ em;have hl:vs.length=p.2.length:=by simpa using congrArg List.length en
   refine⟨P1.io p.1,ob,vs,es,ep,rfl,ev,hd,q P1 H1 _ l1 h1 fun P2 H2 l2=>?_⟩;have e2:H2 (P1.io p.1)=some (.frz ob (.dT vs)):=l2.keep _ _ ev (.inl (.inr (.inl ⟨_,_,rfl⟩)));refine⟨fun j hj=>⟨by rw[xae, <-hl]at hj;exact hj,e2⟩,fun j h1 h2=>⟨by rw[xae, <-hl]at h1 h2;exact xaV h2 h1,e2⟩,fun j x H' y hj=>⟨y.1,?_⟩⟩;obtain⟨u,b,eu,rfl,eb⟩:=y.2;have ek:(p.2.map (·.1))[j]? =some u.1:=by rw[<-en,xaw,eu];rfl
   refine⟨dR u.1,?_,b,u.1.map kV,rfl,.inl (.inl eb),Ds _⟩;rw[xaw,xah]at ek ⊢;obtain⟨w,ew,e3⟩:=ek;exact⟨w,ew,by rw[e3]⟩
  ·cases e
 ·rename_i c n M1 ef;cases e;exact⟨P0,H0,P,Os,env,M,_,_,k,ef,q⟩
 ·cases e
theorem I_ {pins:Pnx}{s:Shared}{σ:L2.St}{H:Hp}{b:Addr}{k:List Key}(I:Inv X pins σ H s)(e:cZ X.K H b (k.map kV)):(tupleKind (eX X.prog X.w)).is s.heap k b:=by
 obtain⟨its,r,⟨o,h1,h2,n,h3⟩,_⟩:=I.tuple e;exact⟨o,its.toArray,n,h1,h2,h3,by simpa using Iz r⟩
theorem ZF {o i:Expr}{td ty:TE}(hu:X.A.units + 1<cLine)(ho:PE X o td)(hi:PE X i ty)(hs:tZ i):PE X (.Subscript o i pos) (fun σ H Q=>td σ H fun x H1=>ty σ H1 fun y H2=>∃a b kvs k v,x=.ref a/\y=.ref b/\Rd H2 a (.dT kvs)/\cZ X.K H2 b (List.map kV k)/\bx kvs k=some v/\Q v H2):=by
 intro pins s σ H Q I h;refine zbA PySem.F.slot_dict_getitem.lookup hs (aN (ho pins s σ H _ I h) fun u s1 ⟨x,H1,I1,rx,q1⟩=>aN (hi pins s1 σ H1 _ I1 q1) fun iv s2 ⟨y,H2,I2,ry,a,b,kvs,k,v,ex,ey,ha,hb,hv,q2⟩=>?_);subst ex ey;obtain rfl:u=Value.ref a:=rx;obtain rfl:iv=Value.ref b:=ry;obtain⟨z,hd,xs,rel,dd⟩:=HF I2.hok ha;obtain⟨w',hw,rw'⟩:=cI.some_of (v:=v) (o:=(atKey xs k).map (·.2)) (by rw[<-hv];exact KT.val rel k);obtain⟨p,hp,hp2⟩:=xah.mp hw;refine⟨dd.typeIs,wpAny_getItem_heap (xcB hu) (I_ I2 hb) dd hp ?_⟩;rw[hp2];exact⟨v,H2,I2.tok _,rw',q2⟩
noncomputable def cU (M:Mm) (d:D):Option (Nat×List (List Key×D)):=match g8 M d with
 |some p=>some p
 |none=>pI M d
theorem Hz {K:Fgx}{mg:Mgx}{P:Pl}{H:Hp}{M:Mm}{d:D}{j:Nat}{kvs:List (List Key×D)}(h:cU M d=some (j,kvs))(hk:Hk K mg P H M):d=.ref j/\∃vs,Rd H (P.io j) (.dT vs)/\cN K P H kvs vs:=by
 unfold cU at h;split at h
 ·rename_i p ep;cases h;obtain⟨rfl,em⟩:=rY ep;obtain⟨vs,ev,en,is⟩:=hk.cell j _ em;exact⟨rfl,vs,.inl ev,en,is⟩
 ·obtain⟨rfl,em⟩:=Df h;obtain⟨vs,ob,es,ep,ev,_,en,is⟩:=hk.cell j _ em;exact⟨rfl,vs,.inr ⟨ob,ev⟩,en,is⟩
noncomputable def tupK (M:Mm) (d:D):Option (List Key):=match d with
  |.tup ds=>pU ds
  | .ref n => (match M[n]? with
    |some (.tpc ds)=>pU ds
    |_=>none)
  |_=>none
theorem Lq {K:Fgx}{mg:Mgx}{P:Pl}{H:Hp}{M:Mm}{d:D}{k:List Key}{v:V}(h:tupK M d=some k)(hk:Hk K mg P H M)(i:Is K P H d v):∃b,v=.ref b/\cZ K H b (k.map kV):=by
 unfold tupK at h;split at h
 ·obtain⟨b,ws,rfl,sq,is⟩:=i;rw[zT h is]at sq;exact⟨b,rfl,sq⟩
 ·split at h
  ·rename_i e;obtain⟨vs,e1,is⟩:=hk.cell _ _ e;obtain⟨_,rfl⟩:=i;rw[zT h is]at e1;exact⟨_,rfl,.inl (.inl e1)⟩
  ·cases h
 ·cases h
noncomputable def gJ (f g:E):E:=fun env M=>bnd (f env M) fun d M1=>bnd (g env M1) fun y M2=>match cU M2 d,tupK M2 y with
 |some (_,kvs),some k=>(bT kvs k).map fun z=>(.v z,M2)
 |_,_=>none
theorem Ks {o i:Expr}{f g:E}(hu:X.A.units + 60<cLine)(ho:SE X Wx .val o f)(hi:SE X Wx .val i g)(hs:tZ i:=by exact fun _ _=>rfl):SE X Wx m (.Subscript o i pos) (gJ f g):=by
 refine bR (ZF (xbk (xb5 (by decide) _) hu) ho hi hs) ?_;rintro st H Q ⟨P0,H0,P,Os,env,M,r,M',k,e,q⟩;unfold gJ at e;rcases bN e with⟨d,M1,e1,e⟩ |⟨c,n,e1,rfl⟩
 ·refine aQ k e1 fun P1 v1 H1 l1 h1 i1=>?_;have k1:=k.next l1 h1
  rcases bN e with⟨y,M2,e2,e⟩ |⟨c,n,e2,rfl⟩
  ·refine aQ k1 e2 fun P2 v2 H2 l2 h2 i2=>?_;split at e
   ·rename_i j kvs key ed ek;rw[xah]at e;obtain⟨z,ez,e⟩:=e;cases e;obtain⟨rfl,vs,ev,tu⟩:=Hz ed h2;obtain⟨jl,rfl⟩:j<P1.n/\v1=.ref (P1.io j):=i1;obtain⟨b,rfl,sq⟩:=Lq ek h2 i2;have g:=BX (k:=key) tu;rw[ez]at g;obtain⟨v,gv,iv⟩:=g;rw[l2.io j jl]at ev;exact⟨_,b,vs,key,v,rfl,rfl,ev,sq,gv,q P2 v H2 (l1.trans l2) h2 (cB.of h2 iv)⟩
   ·cases e
  ·exact aQ k1 e2 q
 ·exact aQ k e1 q
noncomputable def Fy (d x:D) (key:Option (List Key)) (M:Mm):O:=match g8 M d,key with
  | some (j, kvs), some k => if kvs.length < sizeLine then (match bT kvs k with
    |some z=>some (.v z,M)
    |none=>some (.v x,M.set j (.dtc (bY kvs k x)))) else none
  |_,_=>none
noncomputable def rD (f:E) (fs:EA) (h:E):E:=fun env M=>bnd (f env M) fun d M1=>match g8 M1 d with
 |some _=>cA (fs env M1) fun ds M2=>if ds.length<=sizeLine then bnd (h env M2) fun x M3=>Fy d x (pU ds) M3 else none
 |none=>none
theorem zau {o e':Expr}{es:List Expr}{x1:Nat}{tpos:Pos}{f h:E}{fs:EA}{p:Pos}(hu:X.A.units + 60<cLine)(ho:SE X Wx .val o f)(ha:SA X Wx .val es fs)(he':SE X Wx .val e' h)
    (hbase:attributeBase o "setdefault" X.env (eval o X.env)=eval o X.env:=by rfl)
    (hfew:((backTo pos (starEach [.Tuple es x1 tpos,e'] X.env)).all (fun x=> !x.1) && (backToKw pos (keywordEach [] X.env)).all (fun x=>x.1.isSome) && decide ([Expr.Tuple es x1 tpos,e'].length + ([]:List Keyword).length + (if ([]:List Keyword).isEmpty then 0 else 1)<30))=true:=by rfl)
    (hline:(p.endLine==pos.line)=true:=by rfl) (hs:starEach [.Tuple es x1 tpos,e'] X.env=(false,eval (.Tuple es x1 tpos) X.env)::starEach [e'] X.env:=by rfl) (hs':starEach [e'] X.env=(false,eval e' X.env)::starEach [] X.env:=by rfl):
    SE X Wx m (.Call (.Attribute o "setdefault" p) [.Tuple es x1 tpos,e'] [] pos) (rD f fs h):=by
  refine bR (Az xcA xdK PySem.F.type_dict_setdefault (Yb (xbk (xb5 (by decide) _) hu)) ho (lF (Jx ha) (lF he' nJ hs') hs) hbase hfew hline hs (by rw[hs'];rfl)) ?_;rintro st H Q ⟨P0,H0,P,Os,env,M,r,M',k,ee,q⟩;unfold rD at ee;rcases bN ee with⟨d,N1,e1,ea⟩ |⟨c,n,e1,rfl⟩
  · split at ea
    · rename_i pr ed;obtain⟨j,kvs0⟩:=pr;obtain⟨rfl,em0⟩:=rY ed;refine aQ k e1 fun P1 v1 H1 l1 h1 i1=>?_;have k1:=k.next l1 h1
      obtain⟨jl,rfl⟩:j<P1.n/\v1=.ref (P1.io j):=i1;obtain⟨vs0,ev0,_,_⟩:=h1.cell j _ em0;refine⟨.inr (.inr (.inl ⟨rfl,.inr ⟨vs0,ev0⟩⟩)),?_⟩;rcases mq ea with⟨ds,N2,e2,eb⟩ |⟨c,n,e2,rfl⟩
      · split at eb
        · rename_i hl0;refine⟨P0,H0,P1,Os,env,N1,_,_,k1,e2,fun P2 ws H2 l2 h2 i2=>⟨by rw[i2.iss.len];exact hl0,fun b hb=>?_⟩⟩;have s:=mY (o:=.tup ws) hb;have h2':=h2.same s;have l2':=l2.trans (LtE.same s);have k2:=k1.next l2' h2'
          rcases bN eb with⟨x,N3,e3,ec⟩ |⟨c,n,e3,rfl⟩
          · refine aQ k2 e3 fun P3 v3 H3 l3 h3 i3=>?_;unfold Fy at ec;split at ec
            · rename_i j' kvs key ek et;split at ec
              · rename_i hl;obtain⟨ej,em⟩:=rY ek;cases ej;obtain⟨vs,ev,en,is⟩:=h3.cell j _ em;have g:=BX (k:=key) (kvs:=kvs) (vs:=vs) ⟨en,is⟩;have jl3:j<P3.n:=xap jl (xay l2'.n l3.n);have eio:P3.io j=P1.io j:=(l3.io j (xap jl l2'.n)).trans (l2'.io j jl);have ew:ws=key.map kV:=zT et i2.iss;have eb3:H3 b=some (.tup (key.map kV)):=by rw[<-ew];exact l3.keep b _ bJ (.inl (.inl ⟨_,rfl⟩))
                have hl':vs.length<sizeLine:=by rw[Lp ⟨en,is⟩];exact hl
                have lc:Lt P3 H3 P3 (upd H3 (P3.io j) (.dT (putK vs key v3))):=mR (h3.bd j jl3) ev yp
                cases hd:bT kvs key with
                |some z=>
                  rw[hd]at g ec;cases ec;obtain⟨v,gv,iv⟩:=g;refine⟨P1.io j,b,vs,key,v3,rfl,rfl,eb3,by rw[<-eio];exact ev,hl',fun y' hy=>?_,fun hn=>(by rw[gv]at hn;cases hn)⟩;rw[gv]at hy;cases hy;exact q P3 _ H3 (l1.trans (l2'.trans l3)) h3 (cB.of h3 iv)
                |none=>
                  rw[hd]at g ec;cases ec;have g':bx vs key=none:=g;have tp:=TF (k:=key) i3 (⟨en,is⟩:cN X.K P3 H3 kvs vs);obtain⟨l4,l4e,h4⟩:=h3.set (c':=.dtc (bY kvs key x)) (o':=.dT (putK vs key v3)) em ⟨_,bJ,tp.1,aA.lt lc tp.2⟩;refine⟨P1.io j,b,vs,key,v3,rfl,rfl,eb3,by rw[<-eio];exact ev,hl',fun y' hy=>(by rw[g']at hy;cases hy),fun _=>?_⟩;rw[<-eio];exact q P3 _ _ (l1.trans (l2'.trans (l3.trans l4e))) h4 (cB.of h4 (Is.lt lc i3))
              · cases ec
            · cases ec
          · exact aQ k2 e3 q
        · cases eb
      · exact⟨P0,H0,P1,Os,env,N1,_,_,k1,e2,q⟩
    · cases ea
  · exact aQ k e1 q
noncomputable def q_ (f:E):E:=fun env M=>bnd (f env M) fun d M1=>match vw M1 d with
 |.lst ds=>some (.v (.lst ds.reverse),M1)
 |_=>none
theorem zcg {e:Expr}{f:E}{p p1 pos1:Pos}(hc:X.calm=true)(hgl:Gl X "list")(hml:X.mg "list"=none)(hg:Gl X "reversed")(hm:X.mg "reversed"=none)(he:SE X Wx .bor e f)(hs:starEach [e] X.env=[(false,eval e X.env)]:=by rfl):
  SN X Wx (.Call (.Name "list" p1) [.Call (.Name "reversed" p) [e] [] pos] [] pos1) (q_ f):=by
 refine bR (ZS hc hgl hml hg hm he hs) ?_;rintro st H Q ⟨P0,H0,P,Os,env,M,r,M',k,e,q⟩;unfold q_ at e;rcases bN e with⟨d,M1,e1,e⟩ |⟨c,n,e1,rfl⟩
 ·split at e
  ·rename_i ds ev;cases e;refine aQ k e1 fun P1 v1 H1 l1 h1 i1=>?_;obtain⟨ds',e',q⟩:=q;cases e';have i:=cY.vw h1 i1;rw[ev]at i;obtain⟨a,vs,rfl,sq,is⟩:=i;refine⟨a,vs,rfl,sq,fun p hp=>?_⟩;obtain⟨l2,h2,nc⟩:=pF (vs:=vs.reverse) h1 hp;exact q (P1.bar p) p vs.reverse _ (l1.trans l2) h2 (l1.sure p hp) (.inr rfl) nc bJ (aA.lt (l2.lt h1) (aA.rev is))
  ·cases e
 ·exact aQ k e1 q
theorem XF {f:E}:∀env M r M',q_ f env M=some (.v r,M')->∃ds,r=.lst ds:=fun env M r M' e=>by
 unfold q_ at e;rcases bN e with⟨d,M1,_,e⟩ |⟨c,n,_,h⟩
 ·split at e
  ·cases e;exact⟨_,rfl⟩
  ·cases e
 ·cases h
noncomputable def mV (i:Nat) (sg:Bool) (f:E):S:=fun env M=>match env[i]? with
  |some (.val (.int a))=>bC (f env M) fun d M1=>match d with
    |.int b=>if i<env.length then some (.nx (env.set i (.val (.int (if sg then a + b else a - b)))),M1) else none
    |_=>none
  |_=>none
theorem zcG {i:Nat}{x:Str}{e:Expr}{f:E}{sg:Bool}{op:Operator}{pos':Pos}(ho:Gx X op (O4 fun a b=>if sg then a + b else a - b))(hN:X.N.Nodup)(hi:X.N[i]? =some x)(hx:Loc X.env.scope x)(he:SE X Wx .val e f)
  (hf:X.fn x=true\/X.env.scope.names.lookup x=some .local:=by first |exact .inl rfl |exact .inr rfl):SS X Wx (.AugAssign (.Name x pos') op e pos) (mV i sg f):=by
 refine fQ (zde hN hi hx he ho hf) ?_;rintro D st H ⟨P0,H0,P,Os,env,M,out,M',k,e,q⟩;unfold mV at e;split at e
 ·rename_i a hs;obtain⟨v,e1,i1⟩:=k.slot i _ hs;cases i1;refine⟨.int a,nA e1,?_⟩;rcases eE e with⟨d,M1,e2,e⟩ |⟨c,n,e2,rfl⟩
  ·refine⟨P0,H0,P,Os,env,M,_,_,k,e2,fun P1 v1 H1 l1 h1 i2=>?_⟩;split at e
   ·rename_i b;split at e
    ·rename_i hl;cases e;cases i2;exact⟨a,b,rfl,rfl,q _ _ _ _ (l1.lt k.hk) ((k.next l1 h1).asg hl (show Is _ _ _ (.int _) _ from rfl))⟩
    ·cases e
   ·cases e
  ·exact⟨P0,H0,P,Os,env,M,_,_,k,e2,q⟩
 ·cases e
section
variable {f g h:E}{fs:EA}{env:Env}{M M1 M2 M3:Mm}
theorem zdn:Bh env M=some (.v (.ref M.length),M ++ [.dtc []]):=rfl
theorem mD {k:Nat}{kvs:List (List Key×D)}(h:M[k]? =some (.dtc kvs)):g8 M (.ref k)=some (k,kvs):=by unfold g8;simp only[h]
theorem HJ {k:Nat}{kvs:List (List Key×D)}(h:M[k]? =some (.dtf kvs)):pI M (.ref k)=some (k,kvs):=by unfold pI;simp only[h]
theorem Pu {k:Nat}{kvs:List (List Key×D)}(h1:f env M=some (.v (.ref k),M1))(h2:M1[k]? =some (.dtc kvs)):sI f env M=some (.v (.ref k),M1.set k (.dtf kvs)):=by
 simp only[sI,bnd,h1,mD h2]
theorem Wv {k:Nat}{kvs:List (List Key×D)}(h1:f env M=some (.v (.ref k),M1))(h2:M1[k]? =some (.dtf kvs)):h_ f env M=some (.v (kvs.map fun p=>dR p.1),M1):=by
 simp only[h_,h1,HJ h2]
theorem zcY {k:Nat}{kvs0 kvs:List (List Key×D)}{ds:List D}{x z:D}{key:List Key}(h1:f env M=some (.v (.ref k),M1))(h2:M1[k]? =some (.dtc kvs0))(h3:fs env M1=some (.v ds,M2))(h4:h env M2=some (.v x,M3))(h5:M3[k]? =some (.dtc kvs))(h6:pU ds=some key)(hl:kvs.length<sizeLine)(hd:ds.length<=sizeLine)(h7:bT kvs key=some z):rD f fs h env M=some (.v z,M3):=by
 simp only[rD,bnd,cA,h1,mD h2,h3,xac hd,h4,Fy,mD h5,h6,xac hl,h7]
theorem zdj {k:Nat}{kvs0 kvs:List (List Key×D)}{ds:List D}{x:D}{key:List Key}(h1:f env M=some (.v (.ref k),M1))(h2:M1[k]? =some (.dtc kvs0))(h3:fs env M1=some (.v ds,M2))(h4:h env M2=some (.v x,M3))(h5:M3[k]? =some (.dtc kvs))(h6:pU ds=some key)(hl:kvs.length<sizeLine)(hd:ds.length<=sizeLine)(h7:bT kvs key=none):rD f fs h env M=some (.v x,M3.set k (.dtc (bY kvs key x))):=by
 simp only[rD,bnd,cA,h1,mD h2,h3,xac hd,h4,Fy,mD h5,h6,xac hl,h7]
theorem zcM {ds:List D}{d:D}(h1:f env M=some (.v d,M1))(h2:vw M1 d=.lst ds):q_ f env M=some (.v (.lst ds.reverse),M1):=by
 simp only[q_,bnd,h1,h2]
end
end
end E3
namespace L2
open PySem PySem.Spec PyProof.Rows
section
variable {prog:Program}{w:World}{A:Around}{E:Value->Shared->Prop}{s:Shared}{K:Type}[DecidableEq K]{knd:HeapKind prog w K}
theorem N8 {α β:Type}[DecidableEq α]:∀{xs:List (α×β)} {j:Nat} {q:α×β},(xs.map (·.1)).Nodup->xs[j]? =some q->xs.eraseIdx j=xs.filter fun x=>decide (x.1≠q.1)
  | [],_,_,_,h=>by cases h
  |x::xs,0,q,hn,h=>by
    rw[xak,xa6]at hn;cases h;rw[List.eraseIdx_cons_zero,xaW (by simp),xeT.mpr fun y hy=>?_];refine xaK fun e=>hn.1 ?_;rw[<-e];exact xaj.mpr ⟨y,hy,rfl⟩
  |x::xs,j + 1,q,hn,h=>by
    rw[xak,xa6]at hn;rw[xba]at h;have ne:x.1≠q.1:=fun e=>hn.1 (by rw[e];exact xaj.mpr ⟨q,xaP h,rfl⟩);rw[xdh,N8 hn.2 h,xaX (by simpa using ne)]
theorem N_ {α β:Type}{f:α->β}:∀(xs:List α) (j:Nat),(xs.map f).eraseIdx j=(xs.eraseIdx j).map f
 | [],_=>rfl
 |_::_,0=>rfl
 |x::xs,j + 1=>by rw[xak,xdh,xdh,xak,N_ xs j]
theorem zb2 {d a:Addr}{xs:List (K×Addr×Value)}{k:K}{p:Addr×Value}{Q:Option DictEntry->Shared->Prop}(hu:knd.room A)(hkey:knd.is s.heap k a)(hm:s.heap.DictOfH knd d xs)(hp:atKey xs k=some p)
  (h:∀e h',e.val=p.2->h'.DictOfH knd d (xs.filter fun x=>decide (x.1≠k))->Heap.SameBut d s.heap h'->Q (some e) {s with heap:=h',toks:=s.toks + knd.draws k}) (hsz:xs.length<=sizeLine):
  wpAny (model prog w) A (Builtin.Dict.takeOut d (.ref a)) Q E s:=by
 obtain⟨o,es,ep,ho,hc,hd,he,his,hn⟩:=hm;unfold Builtin.Dict.takeOut;refine xbs (xaa (knd.pyHash hu hkey (xaa (wpAny_dictFind_heap (s:={s with toks:=s.toks + knd.draws k}) hu hkey ho hd he his hn (fun hno=>?_) fun j p' hj=>?_))))
 ·rw[xd5 hno]at hp;cases hp
 ·have hp':=atKey_of_get hn hj;rw[hp]at hp';cases hp';refine xaa (xbq (s:={s with toks:=s.toks + knd.draws k}) ho hd ?_);rw[xeN he j,hj];refine xaa (wpAny_updateDictKeys (hz:=by have e:=xbQ he;lia) (s:={s with toks:=s.toks + knd.draws k}) ho hd (xab (h _ _ rfl ⟨_,_,ep + 1,xbH _ ho (Obj.isFreed_of_dict (xcW hd _)),hc.mapDictKeys _,xcW hd _,?_,fun x hx=>?_,?_⟩ (xbn ..))))
  ·rw[<-N8 hn hj]
   simp[he,N_]
  ·exact knd.keeps (his x (xaU.mp hx).1) ho hd (xbn ..)
  ·exact xda (xcY.map _) hn
theorem zaG (knd : HeapKind prog w K) (d a : Addr) : MeetsIn prog w (Builtin.«dict.pop» ⟨[.ref d, .ref a], []⟩) (fun A R s=>knd.room A.in1/\∃k xs p,knd.is s.heap k a/\s.heap.DictOfH knd d xs/\xs.length<=sizeLine/\atKey xs k=some p/\
    ∀h',h'.DictOfH knd d (xs.filter fun x=>decide (x.1≠k))->Heap.SameBut d s.heap h'->R (.ok (.ret p.2)) {s with heap:=h',toks:=s.toks + knd.draws k}):=
  .of_wp fun A R s ⟨hu,k,xs,p,hk,hm,hz,hp,h⟩=>by
    have hm0:=hm;obtain⟨o,es,ep,ho,hc,hd,he,his,hn⟩:=hm;unfold Builtin.«dict.pop» Builtin.Dict.keyAndDefault;refine xaa (xaa (xcg hm0.typeIs ?_));show wpAny _ _ (pure (d,Value.ref a,none)) _ _ s;refine xab ?_;have hk0:(keyPart (Value.ref a)).isSome=false:=rfl;have ne:es.isEmpty=false:=by
      cases hx:xs with
      |nil=>rw[hx]at hp;cases hp
      |cons x xs=>
        rw[hx]at he;rw[Array.isEmpty_eq_false_iff];intro z;rw[z]at he;cases he
    simp only[hk0,xa3,xbt];refine xaa (xbq ho hd (xaa (xab ?_)));simp only[ne,xa3,xbt];refine xaa (zb2 hu hk hm0 hp (fun e h' ee dd hs=>?_) hz);simp only[Option.isNone_some,xa3,xbt];exact xaa (wpAny_letGo (xab ⟨e.val,rfl,by rw[ee];exact h h' dd hs⟩))
end
end L2
namespace E3
open PySem PySem.Spec PyProof.Rows L2
section
variable {X:Cx}{Wx:XW}{m:Mode}{pos:Pos}
noncomputable def K6 (K:Fgx) (y0:Bool) (ty td:TE):TE:=fun σ H Q=>ty σ H fun y H1=>td σ H1 fun x H2=>∃a b kvs k,x=.ref a/\y=.ref b/\Rd H2 a (.dT kvs)/\cZ K H2 b (List.map kV k)/\Q (.bl (if y0 then(bx kvs k).isSome else !(bx kvs k).isSome)) H2
theorem Zw {i o:Expr}{ty td:TE}(hu:X.A.units + 1<cLine)(hi:PE X i ty)(ho:PE X o td):PC X .In i o (K6 X.K true ty td):=by
 intro pins s σ H Q I h;refine aN (hi pins s σ H _ I h) fun iv s1 ⟨y,H1,I1,ry,q1⟩=>aN (ho pins s1 σ H1 _ I1 q1) fun u s2 ⟨x,H2,I2,rx,a,b,kvs,k,ex,ey,ha,hb,q2⟩=>?_;subst ex ey;obtain rfl:u=Value.ref a:=rx;obtain rfl:iv=Value.ref b:=ry;obtain⟨z,hd,xs,rel,dd⟩:=HF I2.hok ha;refine wpAny_in_heap (xcB hu) (I_ I2 hb) hd dd ?_;have q:=(rel.val k).isSome_eq;rw[xd4]at q;rw[<-q];exact⟨.bl (bx kvs k).isSome,H2,I2.tok _,rfl,q2⟩
noncomputable def sH (b:Bool) (g f:E):E:=fun env M=>bnd (g env M) fun y M1=>bnd (f env M1) fun d M2=>match cU M2 d,tupK M2 y with
 |some (_,kvs),some k=>some (.v (.bl (if b then(bT kvs k).isSome else !(bT kvs k).isSome)),M2)
 |_,_=>none
theorem Vo {b:Bool}{f g:E}{st:L2.St}{H:Hp}{Q:VK}(w:tE X.K X.mg Wx m (sH b g f) st H Q):K6 X.K b (tE X.K X.mg Wx .val g) (tE X.K X.mg Wx .val f) st H Q:=by
  obtain⟨P0,H0,P,Os,env,M,r,M',k,e,q⟩:=w;unfold sH at e;unfold K6;rcases bN e with⟨y,M1,e1,e⟩ |⟨c,n,e1,rfl⟩
  · refine aQ k e1 fun P1 v1 H1 l1 h1 i1=>?_;have k1:=k.next l1 h1
    rcases bN e with⟨d,M2,e2,e⟩ |⟨c,n,e2,rfl⟩
    · refine aQ k1 e2 fun P2 v2 H2 l2 h2 i2=>?_;split at e
      · rename_i j kvs key ed ek;cases e;obtain⟨rfl,vs,ev,tu⟩:=Hz ed h2;obtain⟨jl,rfl⟩:j<P2.n/\v2=.ref (P2.io j):=i2;obtain⟨b',rfl,sq⟩:=Lq ek h2 (Is.lt (l2.lt h1) i1);have g:=BX (k:=key) tu;have eo:(bx vs key).isSome=(bT kvs key).isSome:=by
          cases hd:bT kvs key with
          |none=>rw[hd]at g;have g':bx vs key=none:=g;rw[g'];rfl
          |some d=>rw[hd]at g;obtain⟨v,gv,_⟩:=g;rw[gv];rfl
        refine⟨_,b',vs,key,rfl,rfl,ev,sq,?_⟩;rw[eo];exact q P2 _ H2 (l1.trans l2) h2 (cB.of h2 (show Is _ _ _ (.bl _) _ from rfl))
      · cases e
    · exact aQ k1 e2 q
  · exact aQ k e1 q
theorem zbG {o i:Expr}{f g:E}(hu:X.A.units + 60<cLine)(hi:SE X Wx .val i g)(ho:SE X Wx .val o f)(hm:behindInMarks .In o=false:=by rfl):ST X Wx (.Compare i [.In] [o] pos) (sH true g f):=
 Em (zdq (Zw (xbk (xb5 (by decide) _) hu) hi ho) hm) fun _ _ _ w=>Vo (b:=true) (Tt w)
noncomputable def pH (kvs:List (List Key×V)) (k:List Key):List (List Key×V):=kvs.filter fun kv=>decide (kv.1≠k)
theorem Pr {H:Hp}{k:List Key}:∀{kvs:List (List Key×V)} {xs:List (List Key×Addr×Value)},KT H kvs xs->KT H (pH kvs k) (xs.filter fun x=>decide (x.1≠k))
  |_,_,.nil=>.nil
  |p::kvs,q::xs,.cons h r=>by
    have ih:=Pr (k:=k) r;unfold pH at ih ⊢
    by_cases e:p.1=k
    · rw[xaW (by simpa using e),xaW (by rw[<-h.1];simpa using e)];exact ih
    · rw[xaX (by simpa using e),xaX (by rw[<-h.1];simpa using e)];exact .cons h ih
theorem X_ (hu:X.A.units + 1<cLine):yL X "dict.pop" (fun x xs H Q=>∃a b kvs k v,x=.ref a/\xs=[.ref b]/\cZ X.K H b (List.map kV k)/\H a=some (.dT kvs)/\bx kvs k=some v/\Q v (upd H a (.dT (pH kvs k)))):=by
 intro pins s σ H x xs v us Q I rx r h;obtain⟨a,b,kvs,k,w,rfl,rfl,eb,e,hv,q⟩:=h;cases rx;obtain⟨u1,rfl,r1⟩:=vals1 r;cases (show u1=Value.ref b from r1);obtain⟨z,hd,ys,rel,dd⟩:=HD I.hok e;have hz:ys.length<=sizeLine:=by rw[<-xbr rel];exact z
 obtain⟨w',hw,rw'⟩:=cI.some_of (v:=w) (o:=(atKey ys k).map (·.2)) (by rw[<-hv];exact KT.val rel k);obtain⟨p,hp,hp2⟩:=xah.mp hw;refine xel xeI dd.typeIs PySem.F.entry_dict_pop (PySem.F.args_dict_pop_2 _ _) (zaG (tupleKind (eX X.prog X.w)) a b) ⟨xcB hu,k,ys,p,I_ I eb,dd,hz,hp,fun h' dd' hs=>?_⟩;have hl:(pH kvs k).length<=sizeLine:=xay (xbu _ _) z;obtain⟨o,es,ep,hq,g2,g3,g4,_,g5⟩:=dd';refine⟨w,upd H a (.dT (pH kvs k)),Dc I (by rw[e];exact True.intro) hs ⟨o,hq⟩ ⟨hl,hd,_,(Pr rel).keeps fun c ys ec=>?_,o,es,ep,hq,g2,g3,g4,g5⟩,by rw[hp2];exact rw',q⟩;rw[aW (D_ ec e (fun z=>nomatch z))]
 exact ec
noncomputable def xR (kvs:List (List Key×D)) (k:List Key):List (List Key×D):=kvs.filter fun kv=>decide (kv.1≠k)
theorem Tw {K:Fgx}{P:Pl}{H:Hp}{k:List Key}:∀{kvs:List (List Key×D)} {vs:List (List Key×V)},cN K P H kvs vs->cN K P H (xR kvs k) (pH vs k)
  | [],[],h=>h
  | [],_::_,h=>by cases h.1
  |_::_,[],h=>by cases h.1
  |p::kvs,q::vs,h=>by
    obtain⟨h1,i1,h2⟩:=BW.mp h;have ih:=Tw (k:=k) h2;unfold xR pH at ih ⊢
    by_cases e:p.1=k
    · rw[xaW (by simpa using e),xaW (by rw[h1];simpa using e)];exact ih
    · rw[xaX (by simpa using e),xaX (by rw[h1];simpa using e)];exact BW.mpr ⟨h1,i1,ih⟩
noncomputable def yw (f g:E):E:=fun env M=>bnd (f env M) fun d M1=>match g8 M1 d with
  | some _ => bnd (g env M1) fun y M2 => (match g8 M2 d,tupK M2 y with
    |some (j,kvs),some k=>(bT kvs k).map fun z=>(.v z,M2.set j (.dtc (xR kvs k)))
    |_,_=>none)
  |none=>none
theorem zbC {o i:Expr}{f g:E}{p:Pos}(hu:X.A.units + 60<cLine)(ho:SE X Wx .val o f)(hi:SE X Wx .val i g)
  (hbase:attributeBase o "pop" X.env (eval o X.env)=eval o X.env:=by rfl)
  (hfew:((backTo pos (starEach [i] X.env)).all (fun x=> !x.1) && (backToKw pos (keywordEach [] X.env)).all (fun x=>x.1.isSome) && decide ([i].length + ([]:List Keyword).length + (if ([]:List Keyword).isEmpty then 0 else 1)<30))=true:=by rfl)
  (hline:(p.endLine==pos.line)=true:=by rfl) (hs:starEach [i] X.env=(false,eval i X.env)::starEach [] X.env:=by rfl):
  SE X Wx m (.Call (.Attribute o "pop" p) [i] [] pos) (yw f g):=by
 refine bR (Az xcA xeI PySem.F.type_dict_pop (X_ (xbk (xb5 (by decide) _) hu)) ho (lF hi nJ hs) hbase hfew hline hs rfl) ?_;rintro st H Q ⟨P0,H0,P,Os,env,M,r,M',k,ee,q⟩;unfold yw at ee;rcases bN ee with⟨d,N1,e1,ea⟩ |⟨c,n,e1,rfl⟩
 ·split at ea
  ·rename_i pr ed;obtain⟨j,kvs0⟩:=pr;obtain⟨rfl,em0⟩:=rY ed;refine aQ k e1 fun P1 v1 H1 l1 h1 i1=>?_;have k1:=k.next l1 h1
   obtain⟨jl,rfl⟩:j<P1.n/\v1=.ref (P1.io j):=i1;obtain⟨vs0,ev0,_,_⟩:=h1.cell j _ em0;refine⟨.inr (.inr (.inl ⟨rfl,.inr ⟨vs0,ev0⟩⟩)),?_⟩;rcases bN ea with⟨y,N2,e2,eb⟩ |⟨c,n,e2,rfl⟩
   ·refine aQ k1 e2 fun P2 v2 H2 l2 h2 i2=>?_;have k2:=k1.next l2 h2
    split at eb
    ·rename_i j' kvs key ek et;rw[xah]at eb;obtain⟨z,ez,eb⟩:=eb;cases eb;obtain⟨ej,em⟩:=rY ek;cases ej
     ·obtain⟨b,rfl,sq⟩:=Lq et h2 i2;obtain⟨vs,ev,en,is⟩:=h2.cell j _ em;have g:=BX (k:=key) (kvs:=kvs) (vs:=vs) ⟨en,is⟩;rw[ez]at g;obtain⟨v,gv,iv⟩:=g;have jl2:j<P2.n:=xap jl l2.n;have eio:P2.io j=P1.io j:=l2.io j jl;have lc:Lt P2 H2 P2 (upd H2 (P2.io j) (.dT (pH vs key))):=mR (h2.bd j jl2) ev yp;have tp:=Tw (k:=key) (⟨en,is⟩:cN X.K P2 H2 kvs vs);obtain⟨l4,l4e,h4⟩:=h2.set (c':=.dtc (xR kvs key)) (o':=.dT (pH vs key)) em ⟨_,bJ,tp.1,aA.lt lc tp.2⟩;rw[eio]at l4 l4e h4 ev lc;exact⟨P1.io j,b,vs,key,v,rfl,rfl,sq,ev,gv,q P2 v _ (l1.trans (l2.trans l4e)) h4 (cB.of h4 (Is.lt lc iv))⟩
    ·cases eb
   ·exact aQ k1 e2 q
  ·cases ea
 ·exact aQ k e1 q
end
end E3
namespace L2
open PySem PySem.Spec PyProof.Rows
section
variable {prog:Program}{w:World}{A:Around}{E:Value->Shared->Prop}{s:Shared}
theorem Yh {it d:Addr}{i n ep:Nat}{od:Obj}{es:Array DictEntry}{ok ov:Value}{Q:Option Value->Shared->Prop}(hit:IsItemIter s.heap it d i n ep ok ov)(hod:s.heap.get? d=some od)(hdd:od.data=.dict es ep)(hn:es.size=n)(hl:i<es.size)
  (hQ:∀h',IsItemIterOut h' it d (i + 1) n ep es[i].key es[i].val s.heap.objs.size->h'.get? s.heap.objs.size=some {cls:=.type "tuple",data:=.seq #[es[i].key,es[i].val]}->(∀b o,b≠it->s.heap.get? b=some o->h'.get? b=some o)->Q (some (.ref s.heap.objs.size)) {s with heap:=h'}):
  wpAny (model prog w) A (pyNext (.ref it)) Q E s:=by
 obtain⟨hp,g,dr,tk,os⟩:=s;have tt:Shared.TypeIs ⟨hp,g,dr,tk,os⟩ (.ref it) "dict_itemiterator":=⟨_,hit,rfl⟩;have ow:Builtin.Dict_items.ownsTuple "dict_itemiterator"=true:=by decide
 unfold pyNext;refine xaa (xdr (xb4 (name:=Str.ofString "__next__") tt xa8 (xbl xa8 tt xdb (xaa (xab (xaa (xaa ?_)))) (xc2 _))))
 first |refine xaa (xb0 tt (xab (xaa (xca hit rfl ?_)))) |refine xaa (xco tt (xab (xaa (xca hit rfl ?_))))
 simp only[ow,xbG];show wpAny _ _ (if (Value.ref d==Value.none)=true then _ else _) _ _ _
 rw[xad (show ¬ ((Value.ref d==Value.none)=true) from xas)];refine xaa (xab (xaa (xbq hod hdd ?_)));rw[xad (by rw[hn];simp)];refine xaa (xab (xaa (xch hod hdd ?_)));rw[xad (by simp)];refine xab ?_;simp only[show ¬ ((i:Int)<0) by lia,xbt,xcM,xbd hl];refine xaa ?_
 first |refine xaa (xb0 tt (xab (xaa (xcI tt ?_)))) |refine xaa (xco tt (xab (xaa (xcI tt ?_))))
 show wpAny _ _ (setField (.ref it) 3 (rawInt ((i:Int) + 1)) >>=_) _ _ ⟨hp,g,dr,tk,os⟩;refine xaa (xcD hit (by simp) fun h1 e1 s1=>?_)
 replace s1:Heap.SameBut it hp h1:=s1
 replace e1:IsItemIter h1 it d (i + 1) n ep ok ov:=by
  have e:((i + 1:Nat):Int)=(i:Int) + 1:=by lia
  unfold IsItemIter;rw[e];simpa [rawInt] using e1
 have t1:Shared.TypeIs ⟨h1,g,dr,tk,os⟩ (.ref it) "dict_itemiterator":=⟨_,e1,rfl⟩;refine xaa (xbs (xaa (xcI t1 (xaa (xcI t1 ?_)))));show wpAny _ _ (Builtin.Dict_items.pairFromOwner (.ref it) 6 es[i].key es[i].val) _ _ ⟨h1,g,dr,tk,os⟩;unfold Builtin.Dict_items.pairFromOwner;refine xaa (xeE ?_);have e2:IsItemIter (h1.push {cls:=.type "tuple",data:=.seq #[es[i].key,es[i].val]}) it d (i + 1) n ep ok ov:=xag _ e1;generalize q2:h1.push {cls:=.type "tuple",data:=.seq #[es[i].key,es[i].val]}=h2 at e2;have z1:h1.objs.size=hp.objs.size:=s1.1;have il:hp.objs.size≠it:=xcN (xao hit);have t2:h2.get? hp.objs.size=some {cls:=.type "tuple",data:=.seq #[es[i].key,es[i].val]}:=by rw[<-q2, <-z1];exact xau _ rfl
 have k2:∀b o,b≠it->hp.get? b=some o->h2.get? b=some o:=fun b o hb e=>by rw[<-q2];exact xag _ (s1.extBut b o hb e)
 show wpAny _ _ (Builtin.Dict_items.ownedTupleIsFree (.ref it) >>=_) _ _ ⟨h2,g,dr,tk,os⟩;rw[z1];clear q2 e1 s1 t1 z1 h1;refine xaa ?_;unfold Builtin.Dict_items.ownedTupleIsFree;refine xaa (xbW e2 rfl (x:=.none) rfl (xab ?_));simp only[xbG];refine xaa (xbW e2 rfl (x:=ok) rfl (xaa (xbW e2 rfl (x:=ov) rfl (xaa (xcD e2 (by simp) fun h3 e3 s3=>?_)))))
 replace s3:Heap.SameBut it h2 h3:=s3
 replace e3:IsItemIter h3 it d (i + 1) n ep es[i].key ov:=e3
 refine xaa (xcD e3 (by simp) fun h4 e4 s4=>?_)
 replace s4:Heap.SameBut it h3 h4:=s4
 replace e4:IsItemIter h4 it d (i + 1) n ep es[i].key es[i].val:=e4
 refine xaa (xcD e4 (by simp) fun h5 e5 s5=>?_)
 replace s5:Heap.SameBut it h4 h5:=s5
 replace e5:IsItemIterOut h5 it d (i + 1) n ep es[i].key es[i].val hp.objs.size:=e5
 refine xaa (xcD e5 (by simp) fun h6 e6 s6=>?_)
 replace s6:Heap.SameBut it h5 h6:=s6
 have kk:∀b o,b≠it->h2.get? b=some o->h6.get? b=some o:=fun b o hb e=>s6.extBut b o hb (s5.extBut b o hb (s4.extBut b o hb (s3.extBut b o hb e)));exact xaa (wpAny_letGo (xab (xab ⟨_,rfl,xab (hQ h6 e6 (kk _ _ il t2) fun b o hb e=>kk b o hb (k2 b o hb e))⟩)))
theorem Yg {it d:Addr}{n ep:Nat}{od:Obj}{es:Array DictEntry}{ok ov:Value}{Q:Option Value->Shared->Prop}(hh:A.handled=none)(hit:IsItemIter s.heap it d n n ep ok ov)(hod:s.heap.get? d=some od)(hdd:od.data=.dict es ep)(hn:es.size=n)
  (hQ:∀h',Heap.ExtBut it s.heap h'->Q none {s with heap:=h'}):wpAny (model prog w) A (pyNext (.ref it)) Q E s:=by
 have tt:s.TypeIs (.ref it) "dict_itemiterator":=⟨_,hit,rfl⟩;have ow:Builtin.Dict_items.ownsTuple "dict_itemiterator"=true:=by decide
 unfold pyNext;refine xaa (xdr (xb4 (name:=Str.ofString "__next__") tt xa8 (xbl xa8 tt xdb (xaa (xab (xaa (xaa ?_)))) (xc2 _))))
 first |refine xaa (xb0 tt (xab (xaa (xca hit rfl ?_)))) |refine xaa (xco tt (xab (xaa (xca hit rfl ?_))))
 simp only[ow,xbG];show wpAny _ _ (if (Value.ref d==Value.none)=true then _ else _) _ _ s
 rw[xad (show ¬ ((Value.ref d==Value.none)=true) from xas)];refine xaa (xab (xaa (xbq hod hdd ?_)));rw[xad (by rw[hn];simp)];refine xaa (xab (xaa (xch hod hdd ?_)));rw[xad (by simp)];refine xab ?_;simp only[show ¬ ((n:Int)<0) by lia,xbt,xcM,xew (show es.size<=n by lia)];refine xaa ?_
 first |refine xaa (xb0 tt (xab ?_)) |refine xaa (xco tt (xab ?_))
 show wpAny _ _ (setField (.ref it) 2 .none >>=_) _ _ s;refine xaa (xcO hit rfl (by simp) ?_);show wpAny _ _ (newExc (.type "StopIteration") [] >>=_) _ _ _;refine xaa ?_;simp only[newExc,newTuple];refine xaa (xaN (xaa (m:=firstArgMember _ _) (wpAny_of_eq (a:=Value.none) (by first |rfl |(simp only[firstArgMember];rfl)) (xaN ?_ (by size_fits)))) (by size_fits))
 simp only[raiseNew];refine xaa (wpAny_handled ?_);rw[show A.in1.handled=none from hh];refine xaa (xab (wpAny_throw ?_));exact xaa (xed (T:="StopIteration") (b:=true) ⟨_,xau _ rfl,rfl⟩ isSubtype_stop (xab (hQ _ (((xbn ..).extBut.push _).push _))))
theorem zbe (d:Addr)(hd:(d==sysModules)=false):MeetsIn prog w (Builtin.«dict.items» ⟨[.ref d],[]⟩) (fun _ R s=>s.TypeIs (.ref d) "dict"/\R (.ok (.ret (.ref s.heap.objs.size))) {s with heap:=s.heap.push {cls:=.type "dict_items",data:=.fields #[.ref d]}}):=
 .of_wp fun A R s ⟨hm,h⟩=>by
  unfold Builtin.«dict.items»;refine xaa ?_;unfold Builtin.Dict.noArgs;refine xaa (xcg hm ?_);show wpAny _ _ (pure d) _ _ s;refine xab ?_;show wpAny _ _ (Builtin.Dict.showsAll d >>=_) _ _ s;unfold Builtin.Dict.showsAll;rw[xad (by rw[hd];exact xas)];exact xaa (xab (xaa (xaN (xab ⟨_,rfl,h⟩))))
theorem zb9 (d:Addr)(hd:(d==sysModules)=false):MeetsIn prog w (Builtin.«dict.keys» ⟨[.ref d],[]⟩) (fun _ R s=>s.TypeIs (.ref d) "dict"/\R (.ok (.ret (.ref s.heap.objs.size))) {s with heap:=s.heap.push {cls:=.type "dict_keys",data:=.fields #[.ref d]}}):=
 .of_wp fun A R s ⟨hm,h⟩=>by
  unfold Builtin.«dict.keys»;refine xaa ?_;unfold Builtin.Dict.noArgs;refine xaa (xcg hm ?_);show wpAny _ _ (pure d) _ _ s;refine xab ?_;show wpAny _ _ (Builtin.Dict.showsAll d >>=_) _ _ s;unfold Builtin.Dict.showsAll;rw[xad (by rw[hd];exact xas)];exact xaa (xab (xaa (xaN (xab ⟨_,rfl,h⟩))))
theorem W5 {v d:Addr}{n ep:Nat}{od:Obj}{es:Array DictEntry}{Q:Value->Shared->Prop}(hv:s.heap.IsItemsView v d)(hod:s.heap.get? d=some od)(hdd:od.data=.dict es ep)(hn:es.size=n)
  (hQ:Q (.ref s.heap.objs.size) {s with heap:=s.heap.push {cls:=.type "dict_itemiterator",data:=.fields #[.none,.bool false,.ref d,.int 0 0,.int n 0,.int ep 0,.none,.none]}}):wpAny (model prog w) A (pyIter (.ref v)) Q E s:=by
 obtain⟨ov,hov,hcv,hdv⟩:=id hv;have ow:Builtin.Dict_items.ownsTuple "dict_itemiterator"=true:=by decide
 refine xdk hv.typeIs xdL (xbl xdL hv.typeIs PySem.F.entry_dict_items_iter ?_ (PySem.F.args_dict_items_iter_1 _));unfold Builtin.«dict_items.__iter__»;refine xaa (xab (xaa ?_));unfold Builtin.Dict_items.dictOf;refine xaa (xbW hov hdv (x:=.ref d) rfl (xab (xaa ?_)));unfold Builtin.Dict_items.newIterator;refine xaa (xbq hod hdd (xaa (xch hod hdd ?_)));simp only[ow,xbG];refine xaN (xab ⟨_,rfl,"dict_itemiterator",_,⟨_,xau _ rfl,rfl⟩,xa8.lookup,?_⟩) (by simp only[sizeOk,Builtin.Dict_items.ownedTupleFields,xan,xam,xav,xbE,xaO];lia)
 simpa [rawInt,hn,Builtin.Dict_items.ownedTupleFields] using hQ
theorem W6 {v d:Addr}{n ep:Nat}{od:Obj}{es:Array DictEntry}{Q:Value->Shared->Prop}(hv:PySem.W.KdlKeysView s.heap v d)(hod:s.heap.get? d=some od)(hdd:od.data=.dict es ep)(hn:es.size=n)
  (hQ:Q (.ref s.heap.objs.size) {s with heap:=s.heap.push {cls:=.type "dict_keyiterator",data:=.fields #[.ref d,.int 0 0,.int n 0,.int ep 0]}}):wpAny (model prog w) A (pyIter (.ref v)) Q E s:=by
 obtain⟨ov,hov,hcv,hdv⟩:=id hv;have ow:Builtin.Dict_items.ownsTuple "dict_keyiterator"=false:=by decide
 refine xdk hv.typeIs xd1 (xbl xd1 hv.typeIs PySem.W.kdl_entry_keys_iter ?_ (PySem.W.kdl_args_keys_iter _));unfold Builtin.«dict_keys.__iter__»;refine xaa (xab (xaa ?_));unfold Builtin.Dict_items.dictOf;refine xaa (xbW hov hdv (x:=.ref d) rfl (xab (xaa ?_)));unfold Builtin.Dict_items.newIterator;refine xaa (xbq hod hdd (xaa (xch hod hdd ?_)));simp only[ow,xa3,xbt];refine xaN (xab ⟨_,rfl,"dict_keyiterator",_,⟨_,xau _ rfl,rfl⟩,xbb.lookup,?_⟩)
 simpa [rawInt,hn] using hQ
theorem zbF (hh:A.handled=none)(I d:Addr)(hne:d≠I){n ep:Nat}{od:Obj}{es:Array DictEntry}(hdd:od.data=.dict es ep)(hn:es.size=n):
  Walks prog w A I [I,d] [I] n (fun i v=>∃e,es[i]? =some e/\v=e.key) (fun i h=>h.IsKeyIter I d i n ep/\h.get? d=some od) where
 sub:=fun b hb=>by simp at hb;simp[hb]
 frame:=fun _ _ _ st hk=>⟨st.1.at fun o e=>hk I (by simp) o e,hk d (by simp) _ st.2⟩
 item:=fun i s Q E hi st hQ=>Ql st.1 st.2 hdd hn (by lia) fun h' it' sb=>hQ _ h' s.toks ⟨es[i]'(by lia),xbd _,rfl⟩ ⟨it',sb.extBut _ _ hne st.2⟩ fun b o hb e=>sb.extBut b o (fun z=>hb (by simp[z])) e
 done:=fun s Q E st hQ=>Qk hh st.1 st.2 hdd hn fun h' eb=>hQ h' s.toks fun b o hb e=>eb b o (fun z=>hb (by simp[z])) e
 self:=fun _ _ _ _ st hQ=>wpAny_pyIter_keyiter st.1 hQ
theorem za2 {r d:Addr}{n ep:Nat}{od:Obj}{es:Array DictEntry}(hdd:od.data=.dict es ep)(hn:es.size=n):PySem.W.KdlSrc prog w "dict_keys" r d n (fun i v=>∃e,es[i]? =some e/\v=e.key) (fun h=>PySem.W.KdlKeysView h r d/\h.get? d=some od) where
 type:=fun _ hm=>hm.1.typeIs
 there:=fun _ hm=>⟨let ⟨_,ho,_⟩:=hm.1;xao ho,xao hm.2⟩
 keep:=fun _ _ hm hk=>⟨let ⟨o,ho,x⟩:=hm.1;⟨o,hk r (.inl rfl) o ho,x⟩,hk d (.inr rfl) _ hm.2⟩
 notList:=by decide
 notTuple:=by decide
 hint:=fun _ _ _ _ hm hq=>PySem.W.kdl_hint_keys hm.1.typeIs hq
 iter:=fun _ _ hh hm=>⟨_,_,(fun _ _ hq=>W6 hm.1 hm.2 hdd hn hq),zbF hh _ d (xaI (xao hm.2)) hdd hn,⟨⟨_,xau _ rfl,rfl,rfl⟩,xag _ hm.2⟩⟩
end
noncomputable def Gu (a:Addr) (ob:Obj) (kvs:List (List Key×V)):It:=
 ⟨fun i H=>i<kvs.length/\H a=some (.frz ob (.dT kvs)),fun i H x H'=>∃(T b:Addr) (p:List Key×V),H T=none/\x=.ref T/\kvs[i]? =some p/\H b=some (.tup (p.1.map kV))/\H'=upd H T (.tup [.ref b,p.2]),fun i H=>i=kvs.length/\H a=some (.frz ob (.dT kvs))⟩
theorem zar {P:Program}{w:World}{K:Fgx}{ts:List Expr}{k:Nat}{pos:Pos}(a it:Addr)(ob:Obj)(kvs:List (List Key×V)){es:Array DictEntry}{ep:Nat}(hd:ob.data=.dict es ep):
  Turn P w K (.Tuple ts k pos) (Gu a ob kvs) [it] it (fun i h=>∃ok ov,IsItemIter h it a i kvs.length ep ok ov) where
 mem:=by simp
 obj:=fun i h st b hb=>by
  have e:b=it:=by simpa using hb
  subst e;obtain⟨ok,ov,e⟩:=st;exact⟨_,e,fun v z=>by cases z⟩
 keep:=fun i h h' st k=>by
  obtain⟨ok,ov,e⟩:=st;exact⟨ok,ov,k it (by simp) _ e⟩
 item:=by
  intro X hP hw hK hc i pins s σ H E I hf st hg;subst hP hw hK;obtain⟨hi,hq⟩:=hg;obtain⟨xs,rv,g,hx,he,sa⟩:=xO I.hok hq hd;have hk:kvs[i]? =some (kvs[i]'hi):=xar hi;obtain⟨q,hu,ru,hb,rr⟩:=kt_at rv hk;have sz:es.size=kvs.length:=by rw[xbr rv];exact xbQ he
  have il:i<es.size:=by lia
  have ee:es[i]=entryOfKey (tupleKind (eX X.prog X.w)) q:=by
   have:=xeN he i;rw[hu,xbd il]at this;exact xaA this
  obtain⟨ok,ov,st⟩:=st;refine Yh st g hd sz il fun h' so t1 kp=>?_;rw[ee]at so t1;refine⟨_,rfl,wpAny_letOwnedTupleGo_items so fun h2 s2 sb=>?_⟩;have its:it<s.heap.objs.size:=xao st;have kk:∀c o,c∉ [it]->s.heap.get? c=some o->h2.get? c=some o:=fun c o hc e=>by
   have hc':c≠it:=by simpa using hc
   exact sb.extBut _ _ hc' (kp c o hc' e)
  have I2:Inv X pins σ (upd H s.heap.objs.size (.tup [.ref q.2.1,(kvs[i]'hi).2])) {s with heap:=h2,toks:=s.toks}:=I.turnLaid kk hf (xaf _) ⟨by show 2<=sizeLine;decide,[.ref q.2.1,q.2.2],.cons rfl (.cons rr .nil),⟨_,sb.extBut _ _ (xcN its) t1,rfl,_,rfl⟩⟩;refine⟨.ref s.heap.objs.size,_,I2,rfl,⟨s.heap.objs.size,q.2.1,_,I.hok.fresh (xaf _),rfl,hk,hb,rfl⟩,⟨_,_,s2⟩,fun c hc=>?_⟩;have ec:c=it:=by simpa using hc
  rw[aW (by rw[ec];exact xaI its)];exact(hf c hc).1
 done:=by
  intro X hP hw hK hc i pins s σ H E I hf st hg;subst hP hw hK;obtain⟨rfl,hq⟩:=hg;obtain⟨xs,rv,g,hx,he,sa⟩:=xO I.hok hq hd;have sz:es.size=kvs.length:=by rw[xbr rv];exact xbQ he
  obtain⟨f0,f1,f2,f3,f4,f5⟩:=hf it (by simp);obtain⟨ok,ov,st⟩:=st;exact Yg (I.ok.hd hc) st g hd sz fun h' eb=>⟨rfl,I.turned (t':=s.toks) (fun b o hb e=>eb b o hb e) f0 f1 f3 f4 f5⟩
 self:=fun _ _ _ _ _ st h=>by
  obtain⟨ok,ov,st⟩:=st;exact W8 st h
section
variable {X:Cx}{ts:List Expr}{k:Nat}{tp:Pos}
noncomputable def Wt (td:TE):TI:=fun σ H R=>td σ H fun v H1=>∃a ob kvs es ep,v=.ref a/\H1 a=some (.frz ob (.dT kvs))/\ob.data=.dict es ep/\R (Gu a ob kvs) H1
theorem Z8 {o:Expr}{td:TE}{p q:Pos}(ho:PE X o td)(hbase:attributeBase o "items" X.env (eval o X.env)=eval o X.env:=by rfl)(hline:(p.endLine==q.line)=true:=by rfl):PI X (.Tuple ts k tp) (.Call (.Attribute o "items" p) [] [] q) (Wt td):=by
 intro pins s σ H R I h;refine xeo hbase hline (aN (ho pins s σ H _ I h) fun v s1 ⟨x,H1,I1,r1,a,ob,kvs,es,ep,ex,ha,hd,q1⟩=>?_);subst ex;obtain rfl:v=Value.ref a:=r1;obtain⟨xs,rv,g,hx,he,sa⟩:=xO I1.hok ha hd;have sz:es.size=kvs.length:=by rw[xbr rv];exact xbQ he
 have ty:s1.TypeIs (.ref a) "dict":=⟨ob,g,hx.1⟩;refine⟨"dict","dict.items",xcA,xep,PySem.F.type_dict_items,ty,fun b e=>by cases e;exact⟨ob,g,hx.2.1⟩,xdn rfl (xeU ?_)⟩;refine xel xep ty PySem.F.entry_dict_items (PySem.F.args_dict_items_1 _) (zbe a sa) ⟨ty,?_⟩;have I2:Inv X pins σ H1 {s1 with heap:=s1.heap.push {cls:=.type "dict_items",data:=.fields #[.ref a]}}:=I1.kept (t':=s1.toks) fun b o e=>xag _ e;refine W5 (s:={s1 with heap:=s1.heap.push {cls:=.type "dict_items",data:=.fields #[.ref a]}}) (v:=s1.heap.objs.size) ⟨_,xau _ rfl,rfl,rfl⟩ (xag _ g) hd sz ?_;have I3:Inv X pins σ H1 {s1 with heap:=(s1.heap.push {cls:=.type "dict_items",data:=.fields #[.ref a]}).push {cls:=.type "dict_itemiterator",data:=.fields #[.none,.bool false,.ref a,.int 0 0,.int kvs.length 0,.int ep 0,.none,.none]}}:=I2.kept (t':=s1.toks) fun b o e=>xag _ e;refine⟨_,[(s1.heap.push {cls:=.type "dict_items",data:=.fields #[.ref a]}).objs.size],_,Gu a ob kvs,_,rfl,I3,zar a _ ob kvs hd,⟨.none,.none,xau _ rfl⟩,fun c hc=>?_,q1⟩;have e:c=(s1.heap.push {cls:=.type "dict_items",data:=.fields #[.ref a]}).objs.size:=by simpa using hc
 subst e;exact I2.fpOk (xaf _) (I2.hok.fresh (xaf _))
noncomputable def Cj (a:Addr):Obj:={cls:=.type "dict_keys",data:=.fields #[.ref a]}
theorem ZQ {o:Expr}{td:TE}{p q:Pos}(ho:PE X o td)(hbase:attributeBase o "keys" X.env (eval o X.env)=eval o X.env:=by rfl)(hline:(p.endLine==q.line)=true:=by rfl):
  PE X (.Call (.Attribute o "keys" p) [] [] q) (fun σ H Q=>td σ H fun v H1=>∃a kvs,v=.ref a/\Rd H1 a (.dT kvs)/\∀r,H1 r=none->Q (.ref r) (upd H1 r (.frz (Cj a) (.own r)))):=by
 intro pins s σ H Q I h;refine xeo hbase hline (aN (ho pins s σ H _ I h) fun v s1 ⟨x,H1,I1,r1,a,kvs,ex,ha,q1⟩=>?_);subst ex;obtain rfl:v=Value.ref a:=r1;obtain⟨_,sa,xs,rel,ob,es,ep,g,hx,_⟩:=ha.ok I1.hok;have ty:s1.TypeIs (.ref a) "dict":=⟨ob,g,hx.1⟩;refine⟨"dict","dict.keys",xcA,xey,PySem.F.type_dict_keys,ty,fun b e=>by cases e;exact⟨ob,g,hx.2.1⟩,xdn rfl (xeU ?_)⟩;refine xel xey ty PySem.F.entry_dict_keys (PySem.F.args_dict_keys_1 _) (zb9 a sa) ⟨ty,?_⟩;exact⟨.ref s1.heap.objs.size,_,I1.laid (a:=s1.heap.objs.size) (o:=.frz (Cj a) (.own s1.heap.objs.size)) (t':=s1.toks) (fun _ _ q=>xag _ q) (xaf _) ⟨xau _ rfl,_,xau _ rfl⟩,rfl,q1 _ (I1.hok.fresh (xaf _))⟩
end
end L2
namespace E3
open PySem PySem.Spec PyProof.Rows L2
section
variable {X:Cx}{Wx:XW}{m:Mode}{pos:Pos}
noncomputable def mC (e:E) (env:Env):List D->List D->Mm->Option (List D×Mm)
  | [],acc,M=>some (acc,M)
  |d::ds,acc,M=>match d with
    | .tup [a, b] => (match e (.val a::.val b::env) M with
      |some (.v y,M2)=>if acc.length + 1<sizeLine then mC e env ds (acc ++ [y]) M2 else none
      |_=>none)
    |_=>none
noncomputable def p8 (cs:List (Str×Nat)) (fs:EA) (e:E):E:=fun env M=>match fs env M with
  | some (.v ds, M1) => (match mC e (bL cs env) ds [] M1 with
    |some (ys,M2)=>some (.v (.lst ys),M2)
    |none=>none)
  |some (.x c n,M1)=>some (.x c n,M1)
  |none=>none
theorem Vd {cs:List (Str×Nat)}{fs:EA}{e:E}:∀env M r M',p8 cs fs e env M=some (.v r,M')->∃ds,r=.lst ds:=fun env M r M' h=>by
 unfold p8 at h;split at h
 ·split at h
  ·cases h;exact⟨_,rfl⟩
  ·cases h
 ·cases h
 ·cases h
theorem Nh {cs:List (Str×Nat)}{e:E}{P0 P1:Pl}{H0 H1:Hp}{Os:List (Option Addr)}{st:L2.St}{env:Env}{M1 M':Mm}{ds ys:List D}{J:It}{R:Addr->Hp->Prop}(nd:(cs.map (·.2)).Nodup)(k:Ok X.K X.mg P0 H0 P1 Os H1 M1 st env)
  (hJ:∀P2 H2 M2,LtE P1 H1 P2 H2->Hk X.K X.mg P2 H2 M2->(∀i,i<ds.length->J.go i H2)/\J.stop ds.length H2/\∀i v H3 d,J.yld i H2 v H3->ds[i]? =some d->LtE P2 H2 P2 H3/\Hk X.K X.mg P2 H3 M2/\Is X.K P2 H3 d v)
  (ec:mC e (bL cs env) ds [] M1=some (ys,M'))
  (w:∀P2 D vs H2,LtE P1 H1 P2 H2->Hk X.K X.mg P2 H2 M'->H1 D=none->P2.bd D->(∀k,k<P2.n->P2.io k≠D)->H2 D=some (.lst vs)->aA X.K P2 H2 ys vs->R D H2):
  Gm J (vq X.K 2 (zG (pN 0) (zG (pN 1) vp))) d9 (tE X.K X.mg W0 .val e) 2 cs st H1 R:=by
 intro D hD;obtain⟨l2,h2,nc⟩:=pF (vs:=[]) k.hk hD
 let W:Nat->List V->Hp->Prop:=fun i vs H2=>∃P2 M3 acc,LtE P1 H1 P2 H2/\Hk X.K X.mg P2 H2 M3/\P2.bd D/\(∀k,k<P2.n->P2.io k≠D)/\H2 D=some (.lst vs)/\aA X.K P2 H2 acc vs/\acc.length<sizeLine/\mC e (bL cs env) (ds.drop i) acc M3=some (ys,M')
 refine⟨fun i m vs H2=>m=ds.length - i/\i<=ds.length/\W i vs H2,⟨ds.length,rfl,xa0 _,P1.bar D,M1,[],l2,h2,.inr rfl,nc,bJ,rfl,by x_go,ec⟩,?_⟩;rintro i m vs H2 ⟨rfl,hi,P2,M3,acc,l3,h3,bD,nD,eD,is,hz,ec⟩;refine⟨eD,?_⟩;obtain⟨w1,w2,w3⟩:=hJ P2 H2 M3 l3 h3;rcases Nat.lt_or_eq_of_le hi with hlt |rfl
 ·refine .inr ⟨w1 i hlt,by rw[is.len];exact hz,W (i + 1),fun vs' H' z=>⟨ds.length - (i + 1),xeR hlt (xbg i),rfl,hlt,z⟩,fun x H' y vl hvl=>?_⟩;obtain⟨l4,h4,iv⟩:=w3 i x H' _ y (xar hlt);rw[xaZ hlt]at ec;generalize ds[i]=d at ec iv;obtain⟨va,vb,rfl⟩:∃va vb,vl=[va,vb]:=by
   match vl,hvl with
   | [a,b],_=>exact⟨a,b,rfl⟩
  simp only[mC]at ec;split at ec
  rotate_left
  ·cases ec
  split at ec
  rotate_left
  ·cases ec
  rename_i y' M5 e5;split at ec
  rotate_left
  ·cases ec
  rename_i hz';obtain⟨T,us,rfl,sq,isd⟩:=iv;obtain⟨ua,r1,rfl,ia,ub,r2,rfl,ib,rfl⟩:=isd;have kk:=(((k.next l3 h3).next l4 h4).cap (cs:=cs) nd ib).consV ia
  refine⟨T,[ua,ub],rfl,sq,rfl,_,_,rfl,_,_,rfl,rfl,[some ua,some ub],rfl,rfl,?_⟩;unfold d9;dsimp only;rw[xac rfl];refine aQ kk e5 fun P5 v5 H5 l5 h5 i5=>?_;have l45:=l4.trans l5;have eD5:H5 D=some (.lst vs):=l45.keep D _ eD (.inr nD);have nD5:∀k,k<P5.n->P5.io k≠D:=l45.nc eD nD;obtain⟨g1,g2,g3⟩:=Il (vs':=vs ++ [v5]) (l3.trans l45) h5 hD (l45.bm D bD) nD5 eD5;exact⟨eD5,P5,M5,acc ++ [y'],g2,g3,l45.bm D bD,nD5,bJ,aA.append (aA.lt ((l45.lt h3).trans g1) is) (aA.one (Is.lt g1 i5)),by rw[xam];exact hz',ec⟩
 ·rw[xds]at ec;cases ec;exact .inl ⟨w2,w P2 D vs H2 l3 h3 hD bD nD eD is⟩
theorem Qy {x y:Str}{cs:List (Str×Nat)}{px py tp:Pos}{n:Nat}{scope:Scope}(hc:X.calm=true)(ok:CompOkT X.N X.env.scope [x,y] cs scope)(cl:List (Str×Addr))(C:Addr)(s₀:Shared)(H₀:Hp)(ex:List Addr)(pn:Pnx):
  PG (cJ X ([x,y] ++ cs.map (·.1)) scope cl C s₀ H₀ ex pn) (.Tuple [.Name x px,.Name y py] n tp) (vq X.K 2 (zG (pN 0) (zG (pN 1) vp))):=by
 have ox:=xcU (env:=X.env) (ok.own x (by simp));have oy:=xcU (env:=X.env) (ok.own y (by simp));exact Qx (X:=cJ X ([x,y] ++ cs.map (·.1)) scope cl C s₀ H₀ ex pn) hc (Jz (yu (i:=0) ok.nd rfl (.inl ox) (.inr ox)) (Jz (yu (i:=1) ok.nd rfl (.inl oy) (.inr oy)) Qz))
theorem zbk (x y:Str)(cs:List (Str×Nat)){px py tp:Pos}{n:Nat}{iter elt:Expr}{scope:Scope}{fs:EA}{e:E}(hc:X.calm=true)(nd:(cs.map (·.2)).Nodup)(hi:SI X Wx (.Tuple [.Name x px,.Name y py] n tp) iter fs)
  (he:∀(cl:List (Str×Addr)) (C:Addr) (s₀:Shared) (H₀:Hp) (ex:List Addr) (pn:Pnx),SE (cJ X ([x,y] ++ cs.map (·.1)) scope cl C s₀ H₀ ex pn) W0 .val elt e)
  (ok:xQ X.N X.env.scope [x,y] cs scope=true:=by kernel_rfl) (hs:∀x,foldedSetIterable iter X.env x=pure x:=by intro _;rfl):
  SN X Wx (.ListComp elt [⟨.Tuple [.Name x px,.Name y py] n tp,iter,[],0⟩] scope pos) (p8 cs fs e):=by
 refine bR (Jw (tq:=d9) (te:=tE X.K X.mg W0 .val e) [x,y] cs hc hi (Qy hc (CompOkT.of ok)) (fun _ _ _ _ _ _=>El) he ok hs) ?_;rintro st H Q ⟨P0,H0,P,Os,env,M,r,M',k,h,w⟩;unfold p8 at h;split at h
 ·rename_i ds M1 ef;split at h
  rotate_left
  ·cases h
  rename_i ys M2 ec;cases h;obtain⟨ds',e',w⟩:=w;cases e';refine⟨P0,H0,P,Os,env,M,_,_,k,ef,fun P1 H1 J l1 h1 wk=>Nh nd (k.next l1 h1) (fun P2 H2 M2 l3 h3=>?_) ec fun P2 D vs H2 l3 h3 hD=>w P2 D vs H2 (l1.trans l3) h3 (l1.sure D hD)⟩
  obtain⟨w1,w2,w3⟩:=wk P2 H2 (l3.lt h1);refine⟨w1,w2 _ (xaf _) (xaf _),fun i v H3 d y ed=>?_⟩;obtain⟨rfl,d',ed',iv⟩:=w3 i v H3 y (xai.mp ed).1;rw[ed]at ed';cases ed';exact⟨LtE.same fun _ _ e=>e,h3,iv⟩
 ·rename_i c n M1 ef;cases h;exact⟨P0,H0,P,Os,env,M,_,_,k,ef,w⟩
 ·cases h
theorem Ni {e:E}{env:Env}{M:Mm}(F:D->D):∀(ds acc:List D),(∀d∈ds,∃a b,d=.tup [a,b]/\e (.val a::.val b::env) M=some (.v (F d),M))->acc.length + ds.length<sizeLine->mC e env ds acc M=some (acc ++ ds.map F,M)
  | [],acc,_,_=>by simp[mC]
  |d::ds,acc,h,hl=>by
    obtain⟨a,b,rfl,ee⟩:=h d (by simp);rw[xav]at hl;simp only[mC,ee];rw[xac (by lia),Ni F ds _ (fun d hd=>h d (by simp[hd])) (by rw[xam,xaF];lia)]
    simp
theorem zch {e:E}{env:Env}{M M1:Mm}{cs:List (Str×Nat)}{fs:EA}{ds:List D}(F:D->D)(h1:fs env M=some (.v ds,M1))(h:∀d∈ds,∃a b,d=.tup [a,b]/\e (.val a::.val b::bL cs env) M1=some (.v (F d),M1))(hl:ds.length<sizeLine):p8 cs fs e env M=some (.v (.lst (ds.map F)),M1):=by
 simp only[p8,h1,Ni F ds [] h (by simpa using hl),xbD]
end
section
variable {X:Cx}{Wx:XW}{m:Mode}{pos:Pos}
noncomputable def kJ (fs:EA):E:=fun env M=>cA (fs env M) fun ds M1=>if ds.length<=sizeLine then some (.v (.ref M1.length),M1 ++ [.tpc ds]) else none
theorem zcL {es:List Expr}{x1:Nat}{fs:EA}(ha:SA X Wx .val es fs):SE X Wx m (.Tuple es x1 pos) (kJ fs):=by
 refine bR (Jx ha) ?_;rintro st H Q ⟨P0,H0,P,Os,env,M,r,M',k,e,q⟩;unfold kJ at e;rcases mq e with⟨ds,M1,e1,e⟩ |⟨c,n,e1,rfl⟩
 ·split at e
  ·rename_i hl;cases e;refine⟨P0,H0,P,Os,env,M,_,_,k,e1,fun P1 vs H1 l1 h1 i1=>⟨by rw[i1.iss.len];exact hl,fun p hp=>?_⟩⟩;obtain⟨l2,h2,nc⟩:=Mt (o:=.lst []) h1 hp;obtain⟨P2,l3,h3,i3⟩:=M9 (o':=.tup vs) (c:=.tpc ds) (l1.trans l2) h2 (l1.sure p hp) (.inr rfl) nc bJ Ea fun P' lt=>⟨vs,bJ,aA.lt ((l2.lt h1).trans lt) i1.iss⟩;rw[Lw]at l3 h3 i3;exact q P2 _ _ l3 h3 (cB.of h3 i3)
  ·cases e
 ·exact⟨P0,H0,P,Os,env,M,_,_,k,e1,q⟩
noncomputable def Ge (M:Mm) (d:D):Option (List Key):=match d with
  | .ref n => (match M[n]? with
    |some (.tpc ds)=>pU ds
    |_=>none)
  |_=>none
noncomputable def nP (f g v:E):S:=fun env M=>bC (v env M) fun x M1=>bC (f env M1) fun d M2=>bC (g env M2) fun y M3=>match g8 M3 d,Ge M3 y with
 |some (j,kvs),some k=>if kvs.length<sizeLine then some (.nx env,M3.set j (.dtc (bY kvs k x))) else none
 |_,_=>none
theorem Sw {o i e:Expr}{f g v:E}{pos':Pos}(hu:X.A.units + 60<cLine)(ho:SE X Wx .val o f)(hi:SE X Wx .val i g)(he:SE X Wx .val e v)(hs:swapsWith e (some (.Subscript o i pos')) pos.line X.env=pure false:=by rfl):
  SS X Wx (.Assign [.Subscript o i pos'] e pos) (nP f g v):=by
 refine fQ (zb5 (xbk (xb5 (by decide) _) hu) ho hi he hs) ?_;rintro D st H ⟨P0,H0,P,Os,env,M,out,M',k,e,q⟩;unfold nP at e;rcases eE e with⟨x,M1,e1,e⟩ |⟨c,n,e1,rfl⟩
 ·refine aQ k e1 fun P1 v1 H1 l1 h1 i1=>?_;have k1:=k.next l1 h1
  rcases eE e with⟨d,M2,e2,e⟩ |⟨c,n,e2,rfl⟩
  ·refine aQ k1 e2 fun P2 v2 H2 l2 h2 i2=>?_;have k2:=k1.next l2 h2
   rcases eE e with⟨y,M3,e3,e⟩ |⟨c,n,e3,rfl⟩
   ·refine aQ k2 e3 fun P3 v3 H3 l3 h3 i3=>?_;split at e
    ·rename_i j kvs key ed ek;split at e
     ·rename_i hl;cases e;obtain⟨rfl,em⟩:=rY ed;obtain⟨jl,rfl⟩:j<P2.n/\v2=.ref (P2.io j):=i2;obtain⟨vs,ev,en,is⟩:=h3.cell j _ em;obtain⟨b,rfl,eb⟩:∃b,v3=.ref b/\H3 b=some (.tup (key.map kV)):=by
       unfold Ge at ek;split at ek
       ·split at ek
        ·rename_i et;obtain⟨ws,e1,iw⟩:=h3.cell _ _ et;obtain⟨_,rfl⟩:=i3;rw[zT ek iw]at e1;exact⟨_,rfl,e1⟩
        ·cases ek
       ·cases ek
      have jl3:j<P3.n:=xap jl l3.n;have eio:P3.io j=P2.io j:=l3.io j jl;have ix:=Is.lt ((l2.lt h1).trans (l3.lt h2)) i1;have lc:Lt P3 H3 P3 (upd H3 (P3.io j) (.dT (putK vs key v1))):=mR (h3.bd j jl3) ev yp;have tp:=TF (k:=key) ix (⟨en,is⟩:cN X.K P3 H3 kvs vs);obtain⟨l4,l4e,h4⟩:=h3.set (c':=.dtc (bY kvs key x)) (o':=.dT (putK vs key v1)) em ⟨_,bJ,tp.1,aA.lt lc tp.2⟩;rw[eio]at l4 l4e h4 ev;exact⟨_,_,rfl,lU.t ev eb (by rw[Lp ⟨en,is⟩];exact hl),q _ _ _ _ ((l1.lt k.hk).trans ((l2.lt h1).trans ((l3.lt h2).trans l4))) ((k2.next l3 h3).next l4e h4)⟩
     ·cases e
    ·cases e
   ·exact aQ k2 e3 q
  ·exact aQ k1 e2 q
 ·exact aQ k e1 q
noncomputable def lJ (f F:E):E:=fun env M=>match f env M with
  | some (.v d, _) => (match g8 M d with
    | some (j, _) => bnd (F env M) fun r M2 => (match pI M2 (.ref j) with
      |some (_,kvs)=>some (.v r,M2.set j (.dtc kvs))
      |none=>none)
    |none=>none)
  |_=>none
theorem Tp {f F:E}(h:∀env M r M',F env M=some (.v r,M')->∃ds,r=.lst ds):∀env M r M',lJ f F env M=some (.v r,M')->∃ds,r=.lst ds:=fun env M r M' e=>by
 unfold lJ at e;split at e
 ·split at e
  ·rcases bN e with⟨d,M2,e1,e⟩ |⟨c,n,_,z⟩
   ·split at e
    ·cases e;exact h _ _ _ _ e1
    ·cases e
   ·cases z
  ·cases e
 ·cases e
theorem R_ (f:E){e:Expr}{F:E}(h:SN X Wx e F):SN X Wx e (lJ f F):=by
  intro pins s σ H Q I w;obtain⟨P0,H0,P,Os,env,M,r,M',k,e,q⟩:=w;unfold lJ at e;split at e
  · split at e
    · rename_i j kvs0 ed;obtain⟨-,em⟩:=rY ed;obtain⟨vs0,ev0,_⟩:=k.hk.cell j _ em;have jl:j<P.n:=by rw[k.hk.n];exact(xai.mp em).1
      rcases bN e with⟨d,M2,e1,e⟩ |⟨c,n,e1,rfl⟩
      · split at e
        · rename_i j' kvs ef;obtain⟨ej,em2⟩:=Df ef;cases ej;cases e;obtain⟨ds,rfl,q⟩:=q;have nf:∀o u,X.H₀ (P.io j)≠some (.frz o u):=fun o u e=>by
            have:=I.base.frzs _ o u e;rw[ev0]at this;cases this
          refine aN (h pins s σ H (fun v H1=>∃P1 a vs,v=.ref a/\LtE P H P1 H1/\Hk X.K X.mg P1 H1 M2/\H a=none/\P1.bd a/\(∀k,k<P1.n->P1.io k≠a)/\H1 a=some (.lst vs)/\aA X.K P1 H1 ds vs) I
            ⟨P0,H0,P,Os,env,M,_,_,k,e1,ds,rfl,fun P1 a vs H1 l1 h1 ha ba nc ea is=>⟨P1,a,vs,rfl,l1,h1,ha,ba,nc,ea,is⟩⟩) fun v s1 ⟨x,H1,I1,r1,P1,a,vs,ex,l1,h1,ha,ba,nc,ea,is⟩=>?_
          subst ex;obtain⟨ws,ob,es,ep,ev,hd,en,iw⟩:=h1.cell j _ em2;have ne:a≠P1.io j:=fun z=>nc j (xap jl l1.n) z.symm;have eio:P1.io j=P.io j:=l1.io j jl;have mv:∀b o,H1 b=some o->o≠ .frz ob (.dT ws)->(upd H1 (P1.io j) (.dT ws)) b=some o:=fun b o e n=>by
            rw[aW]
            · exact e
            · intro z;rw[z,ev]at e;exact n (xaA e).symm
          have iq:∀ds vs,aA X.K P1 H1 ds vs->aA X.K P1 (upd H1 (P1.io j) (.dT ws)) ds vs:=fun _ _=>aA.rd (fun _ _=>xdT (fun q=>mv _ _ q fun z=>nomatch z) fun⟨o,q⟩=>⟨o,mv _ _ q fun z=>nomatch z⟩) (fun _ _=>xdT (fun q=>mv _ _ q fun z=>nomatch z) fun⟨o,q⟩=>⟨o,mv _ _ q fun z=>nomatch z⟩)
          obtain⟨g,sz,sa,xs,rv,rest⟩:=I1.hok _ _ ev;have I2:=I1.swap (u':=.dT ws) ev (fun _ z=>by cases z) (fun _ z=>by cases z) (fun _ z=>by cases z) (by rw[eio];exact nf) (N5 (I1.hok _ _ ev).2) ⟨sz,sa,xs,KT.keeps rv (fun b ys eb=>mv _ _ eb fun z=>nomatch z),rest⟩
          refine⟨_,_,I2,r1,q P1 a vs _ ⟨l1.n,l1.io,l1.bd,l1.bm,fun b o eb z=>?_,fun b z=>?_,l1.nw⟩ ⟨by rw[xaR];exact h1.n,fun i c ei=>?_,h1.inj,h1.bd,fun b z y=>?_⟩ ha ba nc (mv _ _ ea fun z=>nomatch z) (iq _ _ is)⟩
          · by_cases y:b=P1.io j
            · rw[y,eio,ev0]at eb;cases eb;exact(z.elim yp fun z=>z j jl (by rw[y,eio])).elim
            · rw[aW y];exact l1.keep b o eb z
          · by_cases y:b=P1.io j
            · rw[y,bJ]at z;cases z
            · rw[aW y]at z;exact l1.sure b z
          · by_cases y:j=i
            · subst y;rw[xcF (xai.mp em2).1]at ei;cases ei;exact⟨ws,bJ,en,iq _ _ iw⟩
            · rw[xcS y]at ei;have il:i<P1.n:=by rw[h1.n];exact(xai.mp ei).1
              refine(h1.cell i c ei).up (fun o eo _=>?_) (fun b o u eo=>mv _ _ eo fun z=>nomatch z) iq
              rw[aW fun z=>y (h1.inj j i (xap jl l1.n) il z.symm)];exact eo
          · by_cases y':b=P1.io j
            · rw[y',bJ]at y;cases y
            · rw[aW y']at y;exact h1.here b z y
        · cases e
      · exact h pins s σ H Q I ⟨P0,H0,P,Os,env,M,_,_,k,e1,q⟩
    · cases e
  · cases e
noncomputable def CZ (e:E) (env:Env) (ps:List (List Key×D)) (acc:List D) (M:Mm):Option (List D×Mm):=mC e env (ps.map fun p=>.tup [dR p.1,p.2]) acc M
noncomputable def wQ (cs:List (Str×Nat)) (f e:E):E:=fun env M=>bnd (f env M) fun d M1=>match pI M1 d with
  | some p => (match CZ e (bL cs env) p.2 [] M1 with
    |some (ys,M2)=>some (.v (.lst ys),M2)
    |none=>none)
  |none=>none
theorem Vg {cs:List (Str×Nat)}{f e:E}:∀env M r M',wQ cs f e env M=some (.v r,M')->∃ds,r=.lst ds:=fun env M r M' h=>by
 unfold wQ at h;rcases bN h with⟨d,M1,e1,h⟩ |⟨c,n,e1,h⟩
 ·split at h
  ·split at h
   ·cases h;exact⟨_,rfl⟩
   ·cases h
  ·cases h
 ·cases h
theorem zbs (x y:Str)(cs:List (Str×Nat)){px py p q tp:Pos}{n:Nat}{o elt:Expr}{scope:Scope}{f e:E}(hc:X.calm=true)(nd:(cs.map (·.2)).Nodup)(ho:SE X Wx .val o f)
  (he:∀(cl:List (Str×Addr)) (C:Addr) (s₀:Shared) (H₀:Hp) (ex:List Addr) (pn:Pnx),SE (cJ X ([x,y] ++ cs.map (·.1)) scope cl C s₀ H₀ ex pn) W0 .val elt e)
  (ok:xQ X.N X.env.scope [x,y] cs scope=true:=by kernel_rfl) (hs:∀x,foldedSetIterable (.Call (.Attribute o "items" p) [] [] q) X.env x=pure x:=by intro _;rfl)
  (hbase:attributeBase o "items" X.env (eval o X.env)=eval o X.env:=by rfl) (hline:(p.endLine==q.line)=true:=by rfl):
  SN X Wx (.ListComp elt [⟨.Tuple [.Name x px,.Name y py] n tp,.Call (.Attribute o "items" p) [] [] q,[],0⟩] scope pos) (wQ cs f e):=by
 refine bR (Jw (tq:=d9) (te:=tE X.K X.mg W0 .val e) [x,y] cs hc (Z8 ho hbase hline) (Qy hc (CompOkT.of ok)) (fun _ _ _ _ _ _=>El) he ok hs) ?_;rintro st H Q ⟨P0,H0,P,Os,env,M,r,M',k,ee,w⟩;unfold wQ at ee;rcases bN ee with⟨d,M1,e1,ea⟩ |⟨c,n,e1,rfl⟩
 ·split at ea
  ·rename_i pr ed;obtain⟨j,kvs⟩:=pr;split at ea
   ·rename_i ys M2 ec;cases ea;obtain⟨rfl,em⟩:=Df ed;obtain⟨ds',e',w⟩:=w;cases e';refine aQ k e1 fun P1 v1 H1 l1 h1 i1=>?_;obtain⟨jl,rfl⟩:j<P1.n/\v1=.ref (P1.io j):=i1;obtain⟨vs,ob,es,ep,ev,hd,en,is0⟩:=h1.cell j _ em;have hl:vs.length=kvs.length:=by simpa using congrArg List.length en
    refine⟨P1.io j,ob,vs,es,ep,rfl,ev,hd,Nh nd (k.next l1 h1) (fun P2 H2 M2 l3 h3=>?_) ec fun P2 D vs H2 l3 h3 hD=>w P2 D vs H2 (l1.trans l3) h3 (l1.sure D hD)⟩
    have ef:H2 (P1.io j)=some (.frz ob (.dT vs)):=l3.keep _ _ ev (.inl (.inr (.inl ⟨_,_,rfl⟩)));rw[xae];refine⟨fun i hi=>⟨by rw[hl];exact hi,ef⟩,⟨hl.symm,ef⟩,?_⟩;rintro i v H3 d ⟨T,b,pv,hT,rfl,epv,eb,rfl⟩ ed;rw[xaw]at ed;obtain⟨kv,hg,rfl⟩:=xah.mp ed;have sm:Same H2 (upd H2 T (.tup [.ref b,pv.2])):=mY hT;have l4:LtE P2 H2 P2 (upd H2 T (.tup [.ref b,pv.2])):=LtE.same sm;have ek:pv.1=kv.1:=by
     have e2:(vs.map (·.1))[i]? =some pv.1:=by rw[xaw,epv];rfl
     rw[en,xaw,hg]at e2;exact(xaA e2).symm
    obtain⟨v',ev',iv'⟩:=aA.get is0 (i:=i) (d:=kv.2) (by rw[xaw,hg];rfl);rw[xaw,epv]at ev';cases ev';exact⟨l4,h3.same sm,T,[.ref b,pv.2],rfl,.inl (.inl bJ),_,_,rfl,by rw[<-ek];exact⟨b,_,rfl,.inl (.inl (sm _ _ eb)),Ds _⟩,_,_,rfl,Is.lt ((l3.lt h1).trans (l4.lt h3)) iv',rfl⟩
   ·cases ea
  ·cases ea
 ·exact aQ k e1 w
end
section
variable {prog:Program}{w:World}{A:Around}{E:Value->Shared->Prop}{s:Shared}{T:String}{r d:Addr}{n:Nat}{P:Nat->Value->Prop}{OK:Heap->Prop}
theorem Vc {R:List Value->Shared->Prop}(src:PySem.W.KdlSrc prog w T r d n P OK)(hh:A.handled=none)(ok:OK s.heap)(hn:n<=sizeLine)
    (q:∀(h1:Heap) (tk:Nat) (acc:Array Value),Grows s.heap h1->s.heap.objs.size<=h1.objs.size->ItemsOf P acc n->R acc.toList {s with heap:=h1,toks:=tk}):wpAny (model prog w) A (collect (.ref r)) R E s:=by
  have lt := src.there _ ok;unfold collect;refine xaa (wpAny_runValue (codeAny_builtin entry_proto_collect' ?_));rw [Around.under_plainId PySem.F.plain_proto_collect _];show wpAny _ A.in1 (newList [] >>= fun l => again (.builtin "list.__iadd__" ⟨[l, .ref r], []⟩)) _ _ s;refine xaa (xaN (xab ⟨plainId_quiet xeq _, codeAny_builtin entry_list_iadd' ?_⟩));rw [Around.under_plainId xeq _];show wpAny _ A.in1 (Builtin.List.listExtendWith (.ref s.heap.objs.size) (.ref r) (.ref s.heap.objs.size)) _ _ _;refine xa4 (PySem.W.kdl_extend (A:=A) (s:={s with heap:=s.heap.push {cls:=.type "list",data:=.seq ([]:List Value).toArray}})
    (R:=fun x s'=>∃h1 tk acc c,x=.ok (.ret (.ref s.heap.objs.size))/\s'={s with heap:=h1,toks:=tk}/\Grows s.heap h1/\h1.get? s.heap.objs.size=some {cls:=.type "list",dict:=none,data:=.seq acc c,slots:= #[]}/\ItemsOf P acc n)
    src hh (src.keep _ _ ok fun b _ o e=>xag _ e) s.heap.objs.size (xcN lt.1) (xcN lt.2) (.ref s.heap.objs.size) 0 (xau _ rfl)
    (fun h1 tk acc c hk e i=>⟨h1,tk,acc,c,rfl,rfl,fun b o eb=>hk b o (xaI (xao eb)) (xag _ eb),e,i⟩) hn) (fun f s' x=>?_) fun e s' x=>?_
  · cases f with
    |done f=>
      obtain⟨h1,tk,acc,c,e,rfl,g,e1,i⟩:=x;cases e;exact xaa (wpAny_load e1 (xab (q h1 tk acc g (xbf (xao e1)) i)))
    |again c0=>
      refine⟨x.1,xc4 x.2 fun y s2 z=>?_⟩;obtain⟨h1,tk,acc,c,rfl,rfl,g,e1,i⟩:=z;exact xaa (wpAny_load e1 (xab (q h1 tk acc g (xbf (xao e1)) i)))
  · obtain⟨_,_,_,_,e',_⟩:=x;cases e'
end
section
variable {X:Cx}{Wx:XW}{m:Mode}{pos:Pos}
def zdL (K:Fgx):List V->Hp->VK->Prop:=fun xs H Q=>∃(P:Pl) (r a:Addr) (kvs:List (List Key×V)),xs=[.ref r]/\H r=some (.frz (Cj a) (.own r))/\Rd H a (.dT kvs)/\(2<=kvs.length->lD (kvs.map fun p=>dR p.1))/\
 ∀l es vs',es.Perm (kvs.map fun p=>dR p.1)->(kvs.length<2/\es=(kvs.map fun p=>dR p.1)\/2<=kvs.length/\es.Pairwise lA)->aA K P H es vs'->H l=none->Q (.ref l) (upd H l (.lst vs'))
theorem Jb {K:Fgx}{P:Pl}{H:Hp}:∀{kvs:List (List Key×V)} {xs:List (List Key×Addr×Value)},KT H kvs xs->Vals (xs.map fun x=>V.ref x.2.1) (xs.map fun x=>Value.ref x.2.1)/\aA K P H (kvs.map fun p=>dR p.1) (xs.map fun x=>V.ref x.2.1)
 |_,_,.nil=>⟨.nil,rfl⟩
 |_::_,_::_,.cons h r=>⟨.cons rfl (Jb (K:=K) (P:=P) r).1,_,_,rfl,⟨_,_,rfl,.inl (.inl h.2.1),Ds _⟩,(Jb r).2⟩
theorem UL (hc:X.calm=true):c7 X (.builtin "sorted") (zdL X.K):=by
  intro pins s σ H xs us Q I r h;obtain⟨P,v,a,kvs,rfl,hv,ha,ok,q⟩:=h;obtain⟨u,rfl,rx⟩:=vals1 r;cases rx;obtain⟨sz,sa,xs,rel,ob,es,ep,g,hx,hd,he,_⟩:=ha.ok I.hok;have gv:=(I.hok v _ hv).1;obtain⟨rv,is⟩:=Jb (K:=X.K) (P:=P) rel;have lx:xs.length=kvs.length:=(xbr rel).symm;have es0:es.size=xs.length:=xbQ he;have cl:Coll X.prog X.w X.A s (.ref v) (xs.map fun x=>Value.ref x.2.1):=fun E' R h=>Vc (A:=X.A.in1) (za2 hd rfl) (I.ok.hd hc) ⟨⟨_,gv,rfl,rfl⟩,g⟩ (by rw[es0,lx];exact sz) fun h1 tk acc gr le i=>by
    have:acc.toList=xs.map fun x=>Value.ref x.2.1:=by
      refine xdi fun j=>?_;rw[xbi,xaw]
      cases e:acc[j]? with
      |none=>
        have:acc.size<=j:=Array.getElem?_eq_none_iff.mp e;rw[i.1,es0]at this;rw[xbV this];rfl
      |some v=>
        obtain⟨en,e1,rfl⟩:=i.2 j v e;rw[xeN he j]at e1;obtain⟨x,ex,rfl⟩:=xah.mp e1;rw[ex];rfl
    rw[this];exact h h1 tk gr le
  have hz:(xs.map fun x=>V.ref x.2.1).length<=sizeLine:=by rw[xae,lx];exact sz
  by_cases h2:kvs.length<2
  · refine Sq cl (by rw[xae,lx];exact h2) fun h' tk c D g hD eD=>?_;exact⟨.ref D,_,I.laid (t':=tk) (o:=.lst (xs.map fun x=>V.ref x.2.1)) g hD ⟨hz,_,c,rv,eD⟩,rfl,q D _ _ (.refl _) (.inl ⟨h2,rfl⟩) is (I.hok.fresh hD)⟩
  · exact Ss I cl rv hz is (by rw[xae];lia) (ok (by lia)) fun l es vs' p' s' i' hl=>q l es vs' p' (.inr ⟨by lia,s'⟩) i' hl
noncomputable def sO (f:E):E:=fun env M=>bnd (f env M) fun d M1=>match cU M1 d with
 |some (_,kvs)=>(fH (kvs.map fun p=>dR p.1)).map fun es=>(.v (.lst es),M1)
 |none=>none
theorem zb6 {o:Expr}{f:E}{p p1 q pos1:Pos}(hc:X.calm=true)(hg:Gl X "sorted")(hm:X.mg "sorted"=none)(ho:SE X Wx .val o f)(hbase:attributeBase o "keys" X.env (eval o X.env)=eval o X.env:=by rfl)(hline:(p.endLine==q.line)=true:=by rfl)
    (hs:starEach [.Call (.Attribute o "keys" p) [] [] q] X.env=(false,eval (.Call (.Attribute o "keys" p) [] [] q) X.env)::starEach [] X.env:=by rfl):SN X Wx (.Call (.Name "sorted" p1) [.Call (.Attribute o "keys" p) [] [] q] [] pos1) (sO f):=by
  refine bR (Ej (UL hc) hg hm boot_sorted (lF (ZQ ho hbase hline) nJ hs) (by x_go) (by x_go) hs rfl) ?_;rintro st H Q ⟨P0,H0,P,Os,env,M,r,M',k,e,q⟩;unfold sO at e;rcases bN e with⟨d,M1,e1,e⟩ |⟨c,n,e1,rfl⟩
  · refine aQ k e1 fun P1 v1 H1 l1 h1 i1=>?_;split at e
    · rename_i j kvs ed;rw[xah]at e;obtain⟨es,ez,e⟩:=e;cases e;obtain⟨ds',e',q⟩:=q;cases e';obtain⟨rfl,vs,ev,tu⟩:=Hz ed h1;obtain⟨jl,rfl⟩:j<P1.n/\v1=.ref (P1.io j):=i1;have em:(vs.map fun p=>dR p.1)=kvs.map fun p=>dR p.1:=by
        have:=congrArg (List.map dR) tu.1
        rwa [xbc,xbc]at this
      have ln:=Lp tu;refine⟨P1.io j,vs,rfl,ev,fun v hv=>?_⟩;have s1:=mY (o:=.frz (Cj (P1.io j)) (.own v)) hv;have h2:=h1.same s1;have l2:=l1.trans (LtE.same s1);have ev2:Rd (upd H1 v (.frz (Cj (P1.io j)) (.own v))) (P1.io j) (.dT vs):=ev.imp (fun z=>s1 _ _ z) fun⟨o,z⟩=>⟨o,s1 _ _ z⟩;unfold fH at ez;rw[xae]at ez;refine⟨P1,v,P1.io j,vs,rfl,bJ,ev2,fun g2=>?_,fun l es' vs' p' o' i' hl=>?_⟩
      · rw[em];rw[xad (by lia)]at ez;split at ez
        · rename_i h3;exact h3.1
        · cases ez
      · have ee:es'=es:=by
          rw[em]at p' o';split at ez
          · rcases o' with⟨_,rfl⟩ |⟨z,_⟩
            · exact xaA ez
            · lia
          · split at ez
            · rename_i h3;have sp:=xcQ h3.2;rw[xaA ez]at sp;rcases o' with⟨z,_⟩ |⟨_,s'⟩
              · lia
              · exact xbL (fun a b _ _=>z8) s' sp.2 (p'.trans sp.1.symm)
            · cases ez
        subst ee;obtain⟨l3,h3,nc⟩:=pF (vs:=vs') h2 hl;exact q (P1.bar l) l vs' _ (l2.trans l3) h3 (l2.sure l hl) (.inr rfl) nc bJ (aA.lt (l3.lt h2) i')
    · cases e
  · exact aQ k e1 q
theorem zb0 {f:E}:∀env M r M',sO f env M=some (.v r,M')->∃ds,r=.lst ds:=fun env M r M' e=>by
 unfold sO at e;rcases bN e with⟨d,M1,_,e⟩ |⟨c,n,_,h⟩
 ·split at e
  ·rw[xah]at e;obtain⟨es, -,e⟩:=e;cases e;exact⟨_,rfl⟩
  ·cases e
 ·cases h
end
section
variable {X:Cx}{Wx:XW}{pos:Pos}
noncomputable def mQ (is:List Nat) (j:Nat) (body:S):Nat->Nat->Env->Mm->OS
  |0,_,_,_=>none
  |n + 1,t,env,M=>match M[j]? with
    | some (.lst ds) => (match ds[t]? with
      |none=>some (.nx env,M)
      | some d => (match xq is d env with
        | some env1 => (match body env1 M with
          |some (.nx e,M1)=>mQ is j body n (t + 1) e M1
          |some (.ct e,M1)=>mQ is j body n (t + 1) e M1
          |some (.bk e,M1)=>some (.nx e,M1)
          |some (.rt d,M1)=>some (.rt d,M1)
          |some (.ex c k,M1)=>some (.ex c k,M1)
          |none=>none)
        |none=>none))
    |_=>none
noncomputable def Bk (n:Nat) (is:List Nat) (f:E) (body:S):S:=fun env M=>bC (f env M) fun d M1=>match d with
 |.ref j=>mQ is j body n 0 env M1
 |_=>none
theorem zbb (n:Nat){ts:List Expr}{is:List Nat}{e:Expr}{body:List Stmt}{f:E}{b:S}{k0:Nat}{tp:Pos}(hp:PassesOwn (model X.prog X.w) X.A X.env X.xe)(hc:X.calm=true)(hG:SG X ts is)(he:SE X Wx .val e f)(hb:SB X Wx body b)
    (hn:(assignEach ts X.env).length=is.length:=by rfl) (hst:(assignEach ts X.env).findIdx? (·.1)=none:=by rfl)
    (hs:∀x,foldedSetIterable e X.env x=pure x:=by intro _;rfl):SS X Wx (.For (.Tuple ts k0 tp) e body [] pos) (Bk n is f b):=by
  obtain⟨t,hpg,ht⟩:=hG;refine fQ (QC hp hc (JC he) (Qx (n:=is.length) hc hpg hn hst) hb hs) ?_;rintro D st H ⟨P0,H0,P,Os,env,M,out,M',k,e,q⟩;unfold Bk at e;rcases eE e with⟨d,M1,e1,e⟩ |⟨c,n,e1,rfl⟩
  · cases d<;>simp only[reduceCtorEq]at e
    rename_i j;refine⟨P0,H0,P,Os,env,M,_,_,k,e1,fun P1 v1 H1 l1 h1 i1=>?_⟩;obtain⟨jl,rfl⟩:j<P1.n/\v1=.ref (P1.io j):=i1;have k1:=k.next l1 h1
    have q1:=q.lt (l1.lt k.hk);have hl:∃vs,bI X.K H1 (P1.io j) vs:=by
      cases n with
      |zero=>cases e
      |succ n=>
        simp only[mQ]at e;split at e
        · rename_i ds em;obtain⟨vs,ev,is⟩:=h1.cell j _ em;exact⟨vs,.inl (.inl ev)⟩
        · cases e
    refine⟨P1.io j,rfl,hl,fun t m σ H=>∃P Os' M1 env',Lt P1 H1 P H/\Ok X.K X.mg P0 H0 P Os' H M1 σ env'/\mQ is j b m t env' M1=some (out,M'),⟨n,P1,Os,M1,env,Lt.refl _ _,k1,e⟩,?_⟩;rintro t m σ H ⟨P,Os',M1,env',lt,k',h'⟩
    cases m with
    |zero=>cases h'
    |succ m=>
      simp only[mQ]at h';split at h'
      · rename_i ds em;obtain⟨vs,ev,iss⟩:=k'.hk.cell j _ em;rw[lt.io j jl]at ev;have sq:bI X.K H (P1.io j) vs:=.inl (.inl ev);split at h'
        · rename_i et;cases h';refine .inl ⟨⟨vs,sq,by rw[iss.len];exact xea.mp et⟩,q1 P Os' H σ lt k'⟩
        · rename_i d et;obtain⟨v,evt,iv⟩:=iss.get et;refine .inr ⟨⟨vs,v,sq,evt⟩,fun σ' H'=>∃P Os' M1 env',Lt P1 H1 P H'/\Ok X.K X.mg P0 H0 P Os' H' M1 σ' env'/\mQ is j b m (t + 1) env' M1=some (out,M'),fun σ' H' z=>⟨m,xbg m,z⟩,fun x H' y=>?_⟩;obtain⟨rfl,y⟩:=y;have ex:=y vs sq;rw[evt]at ex;cases ex;split at h'
          · rename_i env1 ee;unfold xq at ee;split at ee
            · rename_i es;split at ee
              · rename_i hl;obtain⟨a,us,rfl,sq',is'⟩:=iv;refine⟨a,us,rfl,sq',by rw[is'.len];exact hl,ht _ _ _ _ _ _ _ _ _ _ _ _ k' is' ee fun Os2 st2 k4=>?_⟩;split at h'
                · rename_i e4 M4 eb;exact⟨P0,H0,P,_,_,M1,_,_,k4,eb,fun P' Os2 H2 st2 l2 k5=>⟨P',Os2,_,e4,lt.trans l2,k5,h'⟩⟩
                · rename_i e4 M4 eb;exact⟨P0,H0,P,_,_,M1,_,_,k4,eb,fun P' Os2 H2 st2 l2 k5=>⟨P',Os2,_,e4,lt.trans l2,k5,h'⟩⟩
                · rename_i e4 M4 eb;cases h';exact⟨P0,H0,P,_,_,M1,_,_,k4,eb,fun P' Os2 H2 st2 l2 k5=>q1 P' Os2 H2 st2 (lt.trans l2) k5⟩
                · rename_i d4 M4 eb;cases h';exact⟨P0,H0,P,_,_,M1,_,_,k4,eb,q1⟩
                · rename_i c4 n4 M4 eb;cases h';exact⟨P0,H0,P,_,_,M1,_,_,k4,eb,q1⟩
                · cases h'
              · cases ee
            · cases ee
          · cases h'
      · cases h'
  · exact⟨P0,H0,P,Os,env,M,_,_,k,e1,q⟩
end
section
variable {P:Program}{w:World}{K:Fgx}{base:Heap}{mg:Mgx}{k:Nat}{C:Addr}{x q:Str}{st:Stmt}{N ps:List Str}{b:S}
inductive MAt (K:Fgx)(C:Addr)(x q:Str)(st:Stmt):Prop
 |mk {f:Addr} {oc kV dc pm cd ct:Value} {od an:Option Addr} {sl:Array (Option Value)} (a:PySem.W.findIn K (.ref C) x=some (some (.ref f))) (l:K.lookup f=some ⟨oc,od,.func (PySem.W.fnOf x q (b_ st) (bO st) (aM st) .none kV dc pm an cd ct),sl⟩) (c:PySem.W.codeIn K cd q=true) (k:PySem.W.keepIn K (.ref f)=true) (n:PySem.W.isFn K (.ref f)=true):MAt K C x q st
abbrev HM (x q:Str)(st:Stmt)(ps:List Str):Prop:=∀(kV doc pm:Value) (an:Option Addr) (cdv ct:Value) (us:List Value),us.length=ps.length->bindArgs (PySem.W.fnOf x q (b_ st) (bO st) (aM st) .none kV doc pm an cdv ct) ⟨us,[]⟩=pure (ps.zip us)
end
end E3
namespace My
open PySem PySem.Spec PyProof.Rows L2 E3
noncomputable def zaF:List (Str×D):=[("+",(.tup [(.str "number"),(.str "number"),(.int 2)])),("-",(.tup [(.str "number"),(.str "number"),(.int 2)])),("*",(.tup [(.str "number"),(.str "number"),(.int 2)])),("least",(.tup [(.str "number"),(.str "number"),(.int 2)])),("most",(.tup [(.str "number"),(.str "number"),(.int 2)])),("<",(.tup [(.str "truth"),(.str "number"),(.int 2)])),("=",(.tup [(.str "truth"),(.str "number"),(.int 2)])),("not",(.tup [(.str "truth"),(.str "truth"),(.int 1)])),("and",(.tup [(.str "truth"),(.str "truth"),(.int 2)])),("or",(.tup [(.str "truth"),(.str "truth"),(.int 2)]))]
noncomputable def top (i:Nat):Stmt:=PySem.Challenge.pw_rowdam_k43_windows.main.body.getD i (.Pass ⟨0,0,0,0⟩)
noncomputable def yZ:List Str:=["int","min","max","list","reversed","isinstance","bool","len","str","sum","sorted","tuple","range","all"]
noncomputable def nq (s:Stmt) (j:Nat):Stmt:=match s with
 |.ClassDef _ _ _ body _ _ _ _ _ _ _=>body.getD j s
 |_=>s
structure Ad where
 Station:Addr
 WindowStation:Addr
 DamError:Addr
 NoExpr:Addr
structure Txt (K:Fgx)(mg:Mgx)(C:Ad)(w:World):Prop where
 blt:∀b∈yZ,mg b=none
 cl_Station:ClsOk K mg "Station" C.Station
 cl_WindowStation:ClsOk K mg "WindowStation" C.WindowStation
 na_WindowStation_fold:gQ K C.WindowStation "fold"
 na_WindowStation_kept:gQ K C.WindowStation "kept"
 na_WindowStation_marks:gQ K C.WindowStation "marks"
 na_WindowStation_step:gQ K C.WindowStation "step"
 na_WindowStation_width:gQ K C.WindowStation "width"
 xm_DamError:mg "DamError"=some (.ref C.DamError)
 xc_DamError:kY K C.DamError=true
 xm_NoExpr:mg "NoExpr"=some (.ref C.NoExpr)
 xc_NoExpr:kY K C.NoExpr=true
 xn_NoExpr:T_ K C.NoExpr=true
 xk_NoExpr:PySem.W.keepIn K (.ref C.NoExpr)=true
 xs_NoExpr:Gk K C.NoExpr=true
 k_ALL_LETTERS:∃a,mg "ALL_LETTERS"=some (.ref a)/\∀P H,Is K P H (.tup [(.str "t"),(.str "v"),(.str "w")]) (.ref a)
 k_NEEDS:∃a,mg "NEEDS"=some (.ref a)/\KTab K w a zaF
 k_FIGURES:∃t,mg "FIGURES"=some (.str "0123456789" t)
 k_MOST_FIGURES:∃t,mg "MOST_FIGURES"=some (.int 20 t)
 k_MOST_VALUE:∃t,mg "MOST_VALUE"=some (.int 1000000000000000000000000000000000000000000000000000000000000 t)
 k_LAST:∃t,mg "LAST"=some (.int 1000000000000000 t)
 k_LETTERS:∃t,mg "LETTERS"=some (.str "abcdefghijklmnopqrstuvwxyz" t)
 k_COND_LETTERS:∃t,mg "COND_LETTERS"=some (.str "tv" t)
structure MetAt (K:Fgx)(C:Addr)(x q:Str)(st:Stmt)(ps:List Str)(f:Addr)(fd:FuncData):Prop where
 M:Meth K C x f
 F:FunD K x q st f fd
 b:Binds K fd ps []
structure IniAt (K:Fgx)(C:Addr)(q:Str)(st:Stmt)(ps:List Str)(f:Addr)(fd:FuncData):Prop where
 M:Mk K C f
 F:FunD K "__init__" q st f fd
 b:Binds K fd ps []
structure MetAtD (K:Fgx)(C:Addr)(x q:Str)(st:Stmt)(ps:List Str)(dd:List D)(f:Addr)(fd:FuncData):Prop where
 M:Meth K C x f
 F:FunD K x q st f fd
 b:Binds K fd ps []
 bd:∃(dv:List V) (du:List Value),Binds K fd ps du/\Vals dv du/\(∀P H,aA K P H dd dv)/\dv.length=dd.length
noncomputable def Io (t:String):Option Bool:=if t="int" then some false else if t="bool" then some true else if t="str" then some false else if t="list" then some false else if t="tuple" then some false else if t="NoneType" then some false else if t="dict" then some false else none
theorem WX {K:Fgx}:∀t b,Io t=some b->PySem.W.kitOne K (.type t) (.type "bool")=some b:=by
 intro t b h;unfold Io at h;split at h
 ·rename_i e;subst e;cases h;kernel_rfl
 split at h
 ·rename_i e;subst e;cases h;kernel_rfl
 split at h
 ·rename_i e;subst e;cases h;kernel_rfl
 split at h
 ·rename_i e;subst e;cases h;kernel_rfl
 split at h
 ·rename_i e;subst e;cases h;kernel_rfl
 split at h
 ·rename_i e;subst e;cases h;kernel_rfl
 split at h
 ·rename_i e;subst e;cases h;kernel_rfl
 cases h
noncomputable def Ip (t:String):Option Bool:=if t="int" then some true else if t="bool" then some true else if t="str" then some false else if t="list" then some false else if t="tuple" then some false else if t="NoneType" then some false else if t="dict" then some false else none
theorem WY {K:Fgx}:∀t b,Ip t=some b->PySem.W.kitOne K (.type t) (.type "int")=some b:=by
 intro t b h;unfold Ip at h;split at h
 ·rename_i e;subst e;cases h;kernel_rfl
 split at h
 ·rename_i e;subst e;cases h;kernel_rfl
 split at h
 ·rename_i e;subst e;cases h;kernel_rfl
 split at h
 ·rename_i e;subst e;cases h;kernel_rfl
 split at h
 ·rename_i e;subst e;cases h;kernel_rfl
 split at h
 ·rename_i e;subst e;cases h;kernel_rfl
 split at h
 ·rename_i e;subst e;cases h;kernel_rfl
 cases h
noncomputable def Ir (t:String):Option Bool:=if t="int" then some false else if t="bool" then some false else if t="str" then some false else if t="list" then some true else if t="tuple" then some false else if t="NoneType" then some false else if t="dict" then some false else none
theorem W2 {K:Fgx}:∀t b,Ir t=some b->PySem.W.kitOne K (.type t) (.type "list")=some b:=by
 intro t b h;unfold Ir at h;split at h
 ·rename_i e;subst e;cases h;kernel_rfl
 split at h
 ·rename_i e;subst e;cases h;kernel_rfl
 split at h
 ·rename_i e;subst e;cases h;kernel_rfl
 split at h
 ·rename_i e;subst e;cases h;kernel_rfl
 split at h
 ·rename_i e;subst e;cases h;kernel_rfl
 split at h
 ·rename_i e;subst e;cases h;kernel_rfl
 split at h
 ·rename_i e;subst e;cases h;kernel_rfl
 cases h
noncomputable def Iu (t:String):Option Bool:=if t="int" then some false else if t="bool" then some false else if t="str" then some false else if t="list" then some false else if t="tuple" then some true else if t="NoneType" then some false else if t="dict" then some false else none
theorem W3 {K:Fgx}:∀t b,Iu t=some b->PySem.W.kitOne K (.type t) (.type "tuple")=some b:=by
 intro t b h;unfold Iu at h;split at h
 ·rename_i e;subst e;cases h;kernel_rfl
 split at h
 ·rename_i e;subst e;cases h;kernel_rfl
 split at h
 ·rename_i e;subst e;cases h;kernel_rfl
 split at h
 ·rename_i e;subst e;cases h;kernel_rfl
 split at h
 ·rename_i e;subst e;cases h;kernel_rfl
 split at h
 ·rename_i e;subst e;cases h;kernel_rfl
 split at h
 ·rename_i e;subst e;cases h;kernel_rfl
 cases h
noncomputable def aV (t T:String):Option Bool:=if T="bool" then Io t else if T="int" then Ip t else if T="list" then Ir t else if T="tuple" then Iu t else none
theorem Pa:aV "int" "bool"=some false:=by x_go
theorem Pb:aV "int" "int"=some true:=by x_go
theorem zcB:aV "int" "list"=some false:=by x_go
theorem zbY:aV "int" "tuple"=some false:=by x_go
theorem zcv:aV "bool" "bool"=some true:=by x_go
theorem zcz:aV "bool" "int"=some true:=by x_go
theorem zbH:aV "bool" "list"=some false:=by x_go
theorem zbw:aV "bool" "tuple"=some false:=by x_go
theorem zcw:aV "str" "bool"=some false:=by x_go
theorem zcC:aV "str" "int"=some false:=by x_go
theorem zcy:aV "str" "list"=some false:=by x_go
theorem zbD:aV "str" "tuple"=some false:=by x_go
theorem zce:aV "list" "bool"=some false:=by x_go
theorem zcA:aV "list" "int"=some false:=by x_go
theorem Pg:aV "list" "list"=some true:=by x_go
theorem zbt:aV "list" "tuple"=some false:=by x_go
theorem zbu:aV "tuple" "bool"=some false:=by x_go
theorem zcp:aV "tuple" "int"=some false:=by x_go
theorem zbx:aV "tuple" "list"=some false:=by x_go
theorem IK:aV "tuple" "tuple"=some true:=by x_go
theorem zaL:aV "NoneType" "bool"=some false:=by x_go
theorem zaU:aV "NoneType" "int"=some false:=by x_go
theorem zaE:aV "NoneType" "list"=some false:=by x_go
theorem zaD:aV "NoneType" "tuple"=some false:=by x_go
theorem zcq:aV "dict" "bool"=some false:=by x_go
theorem zcx:aV "dict" "int"=some false:=by x_go
theorem zbM:aV "dict" "list"=some false:=by x_go
theorem zbv:aV "dict" "tuple"=some false:=by x_go
theorem wC {K:Fgx}:∀t T b,aV t T=some b->PySem.W.kitOne K (.type t) (.type T)=some b:=by
 intro t T b h;unfold aV at h;split at h
 ·rename_i e;subst e;exact WX t b h
 split at h
 ·rename_i e;subst e;exact WY t b h
 split at h
 ·rename_i e;subst e;exact W2 t b h
 split at h
 ·rename_i e;subst e;exact W3 t b h
 cases h
abbrev Fw:Stmt:=top 33
theorem RN:FnScope ["row","width","step"] ["row"] (aM Fw):=cP
noncomputable def CV:S:=(ao (aO 1 (sN eN (au (s2 aR (s2 aR (aj 0) (ak (.int 3))) (ak (.int 0))) aq))) (ao (aO 2 (mX (s2 (aG .eq) (s2 aR (aj 0) (ak (.int 0))) (ak (.str "slide"))) (sN eN (au (s2 aR (s2 aR (aj 0) (ak (.int 3))) (ak (.int 1))) aq)) (aj 1))) (ao (aK (aX (au (aj 1) (au (aj 2) (au (s2 aR (s2 aR (aj 0) (ak (.int 3))) (s1 j_ (ak (.int 1)))) aq))))) aC)))
def mJ:G:=cg 3 CV
abbrev Fq:Stmt:=top 40
theorem RJ:FnScope ["thing"] ["thing"] (aM Fq):=cP
noncomputable def Hg:S:=(ao (aK (aX (au (ak (.str "thing")) (au (s2 aR (aj 0) (ak (.int 0))) (au (s2 aR (aj 0) (ak (.int 1))) (au (s2 aR (aj 0) (ak (.int 2))) aq)))))) aC)
def Dp:G:=cg 1 Hg
abbrev Fp:Stmt:=top 49
theorem RG:FnScope ["fold","value"] ["fold","value"] (aM Fp):=cP
noncomputable def Hf:S:=(ao (aK (mX (s2 (aG .eq) (aj 0) (ak (.str "count"))) (ak (.int 1)) (aj 1))) aC)
def zP:G:=cg 2 Hf
abbrev Ft:Stmt:=top 50
theorem RL:FnScope ["fold","one","other"] ["fold","one","other"] (aM Ft):=cP
noncomputable def Hh:S:=(ao (cM (s2 (aG .eq) (aj 0) (ak (.str "most"))) (ao (aK (sN pD (au (aj 1) (au (aj 2) aq)))) aC) aC) (ao (cM (s2 (aG .eq) (aj 0) (ak (.str "least"))) (ao (aK (sN gU (au (aj 1) (au (aj 2) aq)))) aC) aC) (ao (aK (s2 aZ (aj 1) (aj 2))) aC)))
def wB:G:=cg 3 Hh
abbrev Fo:Stmt:=top 51
theorem RD:FnScope ["width","step","time","end","ends"] ["width","step","time"] (aM Fo):=cP
def Li:E:=(s2 (aG .gt) (aj 3) (aj 2))
noncomputable def z6:S:=(ao (kj 4 (aj 3)) (ao (mV 3 false (aj 1)) aC))
noncomputable def G_:S:=(ao (aO 3 (s2 aZ (s2 dz (aj 2) (s2 oMod (aj 2) (aj 1))) (aj 0))) (ao (nQ 4 (bG aq)) (ao (sS 1000 Li z6) (ao (kE 4) (ao (aK (q_ (aj 4))) aC)))))
def zO:G:=cg 5 G_
abbrev sU:Stmt:=nq (top 41) 0
theorem Ra:FnScope ["self","row"] ["self","row"] (aM sU):=cP
noncomputable def GP:S:=(ao (lH "WindowStation" "marks" (aj 0) (mW (Ko (bG (au (ak (.int 0)) aq)) (sN eO (au (s2 aR (aj 1) (ak (.int 2))) aq))))) aC)
noncomputable def zH:G:=cg 2 GP
abbrev sV:Stmt:=nq (top 53) 0
theorem Rb:FnScope ["self","row","window"] ["self","row"] (aM sV):=cP
noncomputable def Cy:S:=(ao (Bj (cj zH (au (aj 0) (au (aj 1) aq)))) (ao (aO 2 (cj mJ (au (aj 1) aq))) (ao (lH "WindowStation" "width" (aj 0) (s2 aR (aj 2) (ak (.int 0)))) (ao (lH "WindowStation" "step" (aj 0) (s2 aR (aj 2) (ak (.int 1)))) (ao (lH "WindowStation" "fold" (aj 0) (s2 aR (aj 2) (ak (.int 2)))) (ao (lH "WindowStation" "kept" (aj 0) Bh) aC))))))
def xT:G:=cg 3 Cy
abbrev Fv:Stmt:=top 56
theorem RM:FnScope ["row"] ["row"] (aM Fv):=cP
noncomputable def Hi:S:=(ao (cM (s2 (aG .eq) (s2 aR (aj 0) (ak (.int 0))) (ak (.str "keep"))) (ao rm aC) aC) (ao (cM (s2 (aG .eq) (s2 aR (aj 0) (ak (.int 0))) (ak (.str "turn"))) (ao rm aC) aC) (ao (cM (s2 (aG .eq) (s2 aR (aj 0) (ak (.int 0))) (ak (.str "share"))) (ao rm aC) aC) (ao (cM (s2 (aG .eq) (s2 aR (aj 0) (ak (.int 0))) (ak (.str "pour"))) (ao rm aC) aC) (ao (cM (s2 (aG .isin) (s2 aR (aj 0) (ak (.int 0))) (aX (au (ak (.str "fixed")) (au (ak (.str "slide")) aq)))) (ao (aK (wR "WindowStation" xT (au (aj 0) aq))) aC) aC) (ao (cM (s2 (aG .eq) (s2 aR (aj 0) (ak (.int 0))) (ak (.str "gap"))) (ao rm aC) aC) (ao (cM (s2 (aG .eq) (s2 aR (aj 0) (ak (.int 0))) (ak (.str "join"))) (ao rm aC) aC) (ao rm aC))))))))
def zQ:G:=cg 1 Hi
abbrev Fl:Stmt:=top 58
theorem Rz:FnScope ["_law_found"] ["_law_found"] (aM Fl):=cP
noncomputable def G8:S:=(ao (aK (dJ (d8 aV "int" (aj 0)) (Ew (d8 aV "bool" (aj 0))))) aC)
def mH:G:=cg 1 G8
abbrev Ey:Stmt:=top 59
theorem Rp:FnScope ["_law_script","_law_k"] ["_law_script","_law_k"] (aM Ey):=cP
noncomputable def GQ:S:=(ao (cM (s2 (aG .lt) (aj 1) (sN eO (au (aj 0) aq))) (ao (aK (s2 aR (aj 0) (aj 1))) aC) aC) (ao (aK (ak (.int 0))) aC))
def mG:G:=cg 2 GQ
abbrev Fi:Stmt:=top 60
theorem Rx:FnScope ["_law_script","_law_cell","_law_width","_law_least"] ["_law_script"] (aM Fi):=cP
noncomputable def CQ:S:=(ao (aO 1 (cj mG (au (aj 0) (au (ak (.int 0)) aq)))) (ao (aO 2 (s2 aZ (ak (.int 1)) (s2 oMod (s2 fB (aj 1) (ak (.int 8))) (s2 aR (bG (au (ak (.int 9)) (au (ak (.int 9)) (au (ak (.int 60)) (au (s2 bW (ak (.int 10)) (ak (.int 12))) aq))))) (s2 oMod (s2 fB (aj 1) (ak (.int 2))) (ak (.int 4))))))) (ao (cM (s2 (aG .eq) (s2 oMod (aj 1) (ak (.int 2))) (ak (.int 0))) (ao (aK (aX (au (aj 2) (au (aj 2) aq)))) aC) aC) (ao (aO 3 (s2 fB (s2 aZ (aj 2) (ak (.int 7))) (ak (.int 8)))) (ao (aK (aX (au (aj 2) (au (s2 aZ (aj 3) (s2 oMod (s2 fB (cj mG (au (aj 0) (au (ak (.int 1)) aq))) (ak (.int 4))) (s2 aZ (s2 dz (aj 2) (aj 3)) (ak (.int 1))))) aq)))) aC)))))
def xX:G:=cg 4 CQ
abbrev Fg:Stmt:=top 61
theorem Rw:FnScope ["_law_script","_law_width","_law_step","_law_fold_here"] ["_law_script","_law_width","_law_step"] (aM Fg):=cP
noncomputable def G6:S:=(ao (aO 3 (s2 aR (bG (au (ak (.str "sum")) (au (ak (.str "count")) (au (ak (.str "most")) (au (ak (.str "least")) aq))))) (s2 oMod (cj mG (au (aj 0) (au (ak (.int 1)) aq))) (ak (.int 4))))) (ao (cM (s2 (aG .eq) (s2 oMod (cj mG (au (aj 0) (au (ak (.int 0)) aq))) (ak (.int 2))) (ak (.int 0))) (ao (aK (aX (au (ak (.str "fixed")) (au (ak (.str "f")) (au (aX (au (ak (.str "a")) aq)) (au (aX (au (sN gA (au (aj 1) aq)) (au (aj 3) aq))) aq)))))) aC) aC) (ao (aK (aX (au (ak (.str "slide")) (au (ak (.str "f")) (au (aX (au (ak (.str "a")) aq)) (au (aX (au (sN gA (au (aj 1) aq)) (au (sN gA (au (aj 2) aq)) (au (aj 3) aq)))) aq)))))) aC)))
def zM:G:=cg 4 G6
abbrev Ez:Stmt:=top 62
theorem Rq:FnScope ["_law_width","_law_step","_law_time","_law_found","_law_end"] ["_law_width","_law_step","_law_time"] (aM Ez):=cP
def Lh:E:=(s2 (aG .le) (aj 4) (s2 aZ (aj 2) (aj 0)))
noncomputable def zW:S:=(ao (kj 3 (aj 4)) (ao (aO 4 (s2 aZ (aj 4) (aj 1))) aC))
noncomputable def GR:S:=(ao (nQ 3 (bG aq)) (ao (aO 4 (s2 aZ (s2 aZ (aj 2) (ak (.int 1))) (s2 oMod (s2 dz (s2 dz (aj 0) (aj 2)) (ak (.int 1))) (aj 1)))) (ao (sS 1000 Lh zW) (ao (kE 3) (ao (aK (aj 3)) aC)))))
def zJ:G:=cg 5 GR
abbrev EY:Stmt:=top 63
theorem Rr:FnScope ["_law_fold_here","_law_values"] ["_law_fold_here","_law_values"] (aM EY):=cP
noncomputable def GX:S:=(ao (cM (s2 (aG .eq) (aj 0) (ak (.str "count"))) (ao (aK (sN eO (au (aj 1) aq))) aC) aC) (ao (cM (s2 (aG .eq) (aj 0) (ak (.str "most"))) (ao (aK (sN yV (au (aj 1) aq))) aC) aC) (ao (cM (s2 (aG .eq) (aj 0) (ak (.str "least"))) (ao (aK (sN u5 (au (aj 1) aq))) aC) aC) (ao (aK (sN mj (au (aj 1) aq))) aC))))
def zK:G:=cg 2 GX
abbrev Bm:Stmt:=top 64
theorem RB:FnScope ["_law_things","_law_row_here","_law_sizes_here","_law_low","_law_high","_law_known","_law_time","_law_key","_law_value","_law_end"] ["_law_things","_law_row_here","_law_sizes_here","_law_low","_law_high"] (aM Bm):=cP
theorem zak:LC Bm "_law_known":=by kernel_rfl
noncomputable def Dj:E:=(aX (au (aj 0) (au (aj 1) (au (cj zK (au (s2 aR (s2 aR (aj 3) (ak (.int 3))) (s1 j_ (ak (.int 1)))) (au (gJ (aj 2) (aX (au (aj 0) (au (aj 1) aq)))) aq))) aq))))
noncomputable def zY:S:=(ao (cM (dJ (s2 (aG .lt) (aj 3) (aj 9)) (s2 (aG .le) (aj 9) (aj 4))) (ao (fV (rD (aj 5) (au (aj 9) (au (aj 7) aq)) (mW (bG aq))) (aj 8)) aC) aC) aC)
noncomputable def zZ:S:=(ao (fW 9 (cL (cj zJ (au (s2 aR (aj 2) (ak (.int 0))) (au (s2 aR (aj 2) (ak (.int 1))) (au (aj 6) aq))))) zY) aC)
noncomputable def G9:S:=(ao (aO 5 Bh) (ao (Bk 1000 [6,7,8] (aj 0) zZ) (ao (aK (p8 [("_law_known",5),("_law_row_here",1)] (cL (sO (aj 5))) Dj)) aC)))
def wA:G:=cg 10 G9
abbrev Fe:Stmt:=top 65
theorem Rv:FnScope ["_law_found","_law_item"] ["_law_found"] (aM Fe):=cP
noncomputable def zX:S:=(ao (cM (rz (dM (dN (d8 aV "tuple" (aj 1)))) (rz (dM (dN (cj mH (au (s2 aR (aj 1) (ak (.int 1))) aq)))) (dM (dN (cj mH (au (s2 aR (aj 1) (s1 j_ (ak (.int 1)))) aq)))))) (ao (aK (ak (.bl false))) aC) aC) aC)
noncomputable def G5:S:=(ao (cM (dM (dN (d8 aV "list" (aj 0)))) (ao (aK (ak (.bl false))) aC) aC) (ao (fW 1 (cL (aj 0)) zX) (ao (aK (ak (.bl true))) aC)))
def xW:G:=cg 2 G5
abbrev Fb:Stmt:=top 66
theorem Ru:FnScope ["_law_cell","_law_size","_law_word","_law_place"] ["_law_cell"] (aM Fb):=cP
noncomputable def Di:E:=(s2 aR (ak (.str "kbzqaxmp")) (s2 oMod (s2 aZ (s2 fB (aj 1) (ak (.int 8))) (aj 0)) (ak (.int 8))))
noncomputable def G4:S:=(ao (aO 1 (s2 aZ (ak (.int 1)) (s2 oMod (aj 0) (ak (.int 8))))) (ao (aO 2 (Eu BL (ak (.str "")) (au (gH [("_law_cell",0)] (yc (au (aj 1) aq)) (ak (.bl true)) Di) aq))) (ao (aO 3 (s2 oMod (s2 fB (aj 0) (ak (.int 64))) (aj 1))) (ao (aK (bG (au (aj 2) (au (s2 aZ (s2 aZ (yx (aj 2) sE (mU (aj 3))) (ak (.str "c"))) (yx (aj 2) (mU (s2 aZ (aj 3) (ak (.int 1)))) sE)) (au (ak (.str "zebra")) aq))))) aC))))
def zL:G:=cg 4 G4
abbrev Fj:Stmt:=top 67
theorem Ry:FnScope ["_law_cell","_law_mark","_law_width","_law_keys_here","_law_time","_law_value"] ["_law_cell","_law_mark","_law_width","_law_keys_here"] (aM Fj):=cP
noncomputable def G7:S:=(ao (aO 4 (sN gU (au (s2 bW (ak (.int 10)) (ak (.int 12))) (au (s2 aZ (aj 1) (s2 oMod (s2 fB (aj 0) (ak (.int 3))) (s2 aZ (s2 fP (ak (.int 2)) (aj 2)) (ak (.int 1))))) aq)))) (ao (aO 5 (s2 dz (s2 oMod (s2 fB (aj 0) (ak (.int 17))) (s2 aZ (s2 fP (ak (.int 2)) (s2 bW (ak (.int 10)) (ak (.int 60)))) (ak (.int 1)))) (s2 bW (ak (.int 10)) (ak (.int 60))))) (ao (aK (aX (au (ak (.str "thing")) (au (aj 4) (au (s2 aR (aj 3) (s2 oMod (s2 fB (aj 0) (ak (.int 5))) (ak (.int 3)))) (au (aj 5) aq)))))) aC)))
def xY:G:=cg 6 G7
abbrev sW:Stmt:=nq (top 53) 3
theorem Rf:FnScope ["self"] ["self"] (aM sW):=cP
noncomputable def zm:E:=(aX (au (s2 aR (aj 0) (ak (.int 0))) (au (s2 aR (aj 0) (ak (.int 1))) (au (aj 1) aq))))
noncomputable def Cz:S:=(ao (aK (mW (sJ (lJ (bw "WindowStation" "kept" (aj 0)) (wQ [] (sI (bw "WindowStation" "kept" (aj 0))) zm))))) aC)
def wg:G:=cg 1 Cz
abbrev sZ:Stmt:=nq (top 41) 9
theorem Ri:FnScope ["self"] ["self"] (aM sZ):=cP
noncomputable def CK:S:=(ao (aK (aX (au (mW (Et (bw "WindowStation" "marks" (aj 0)))) (au (bH "WindowStation" "all_kept" wg (aj 0) aq) aq)))) aC)
def lu:G:=cg 1 CK
abbrev E_:Stmt:=top 68
theorem Rt:FnScope ["_law_station","_law_mark","_law_due","_law_found"] ["_law_station","_law_mark","_law_due"] (aM E_):=cP
noncomputable def HW:E:=(dJ (d8 aV "tuple" (aj 0)) (dJ (cj mH (au (s2 aR (aj 0) (ak (.int 0))) aq)) (cj mH (au (s2 aR (aj 0) (ak (.int 2))) aq))))
noncomputable def GZ:S:=(ao (aO 3 (bH "WindowStation" "state" lu (aj 0) aq)) (ao (cM (rz (dM (dN (d8 aV "tuple" (aj 3)))) (rz (s2 (aG .ne) (sN eO (au (aj 3) aq)) (ak (.int 2))) (s2 (aG .ne) (s2 aR (aj 3) (ak (.int 0))) (bG (au (aj 1) aq))))) (ao (aK (ak (.bl false))) aC) aC) (ao (cM (rz (dM (dN (d8 aV "list" (s2 aR (aj 3) (ak (.int 1)))))) (s2 (aG .ne) (s2 aR (aj 3) (ak (.int 1))) (aj 2))) (ao (aK (ak (.bl false))) aC) aC) (ao (aK (sN lZ (au (nM 1000 [] (s2 aR (aj 3) (ak (.int 1))) HW) aq))) aC))))
def xV:G:=cg 4 GZ
abbrev tM:Stmt:=nq (top 53) 1
theorem Rn:FnScope ["self","way","thing","part","end","place"] ["self","way","thing"] (aM tM):=cP
noncomputable def zV:S:=(ao (aO 5 (kJ (au (aj 4) (au (s2 aR (aj 2) (ak (.int 1))) aq)))) (ao (cM (sH true (aj 5) (bw "WindowStation" "kept" (aj 0))) (ao (nP (bw "WindowStation" "kept" (aj 0)) (aj 5) (cj wB (au (bw "WindowStation" "fold" (aj 0)) (au (gJ (bw "WindowStation" "kept" (aj 0)) (aj 5)) (au (aj 3) aq))))) aC) (ao (nP (bw "WindowStation" "kept" (aj 0)) (aj 5) (aj 3)) aC)) aC))
noncomputable def CN:S:=(ao (aO 3 (cj zP (au (bw "WindowStation" "fold" (aj 0)) (au (s2 aR (aj 2) (ak (.int 2))) aq)))) (ao (fW 4 (cL (cj zO (au (bw "WindowStation" "width" (aj 0)) (au (bw "WindowStation" "step" (aj 0)) (au (s2 aR (aj 2) (ak (.int 0))) aq))))) zV) (ao (aK (bG aq)) aC)))
def wu:G:=cg 6 CN
abbrev sY:Stmt:=nq (top 41) 1
theorem Rh:FnScope ["self"] ["self"] (aM sY):=cP
noncomputable def CJ:S:=(ao (aK (sN u5 (au (bw "WindowStation" "marks" (aj 0)) aq))) aC)
def pO:G:=cg 1 CJ
abbrev sX:Stmt:=nq (top 53) 2
theorem Rg:FnScope ["self","low","closing","told","place"] ["self","low"] (aM sX):=cP
noncomputable def zU:S:=(ao (Bj (yw (bw "WindowStation" "kept" (aj 0)) (aj 4))) aC)
noncomputable def Dg:E:=(aX (au (s2 dz (s2 aR (aj 0) (ak (.int 0))) (ak (.int 1))) (au (s2 aR (aj 0) (ak (.int 1))) (au (gJ (bw "WindowStation" "kept" (aj 1)) (aj 0)) aq))))
noncomputable def vf:E:=(s2 (aG .le) (s2 aR (aj 0) (ak (.int 0))) (aj 1))
def Dh:E:=(aj 0)
noncomputable def CG:S:=(ao (aO 2 (sJ (lJ (bw "WindowStation" "kept" (aj 0)) (gH [("low",1)] (h_ (sI (bw "WindowStation" "kept" (aj 0)))) vf Dh)))) (ao (aO 3 (gH [("self",0)] (cL (aj 2)) (ak (.bl true)) Dg)) (ao (fW 4 (cL (aj 2)) zU) (ao (aK (aj 3)) aC))))
def xU:G:=cg 5 CG
abbrev tO:Stmt:=nq (top 41) 4
theorem Ro:FnScope ["self","low"] ["self","low"] (aM tO):=cP
def HS:E:=(cj Dp (au (aj 0) aq))
noncomputable def CP:S:=(ao (aK (s2 aZ (gH [] (cL (bH "WindowStation" "close_at" xU (aj 0) (au (aj 1) aq))) (ak (.bl true)) HS) (bG (au (aX (au (ak (.str "mark")) (au (aj 1) aq))) aq)))) aC)
def wz:G:=cg 2 CP
abbrev tL:Stmt:=nq (top 41) 3
theorem Rm:FnScope ["self","way","mark","before","low"] ["self","way","mark"] (aM tL):=cP
noncomputable def yX:S:=(ao (cM (s2 (aG .le) (aj 2) (s2 aR (bw "WindowStation" "marks" (aj 0)) (aj 1))) (ao (aK (bG aq)) aC) aC) (ao (aO 3 (bH "WindowStation" "low" pO (aj 0) aq)) (ao (wU (bw "WindowStation" "marks" (aj 0)) (aj 1) (aj 2)) (ao (aO 4 (bH "WindowStation" "low" pO (aj 0) aq)) (ao (cM (s2 (aG .eq) (aj 4) (aj 3)) (ao (aK (bG aq)) aC) aC) (ao (aK (bH "WindowStation" "tell_low" wz (aj 0) (au (aj 4) aq))) aC))))))
def wj:G:=cg 5 yX
abbrev tK:Stmt:=nq (top 41) 2
theorem Rj:FnScope ["self","way","item"] ["self","way","item"] (aM tK):=cP
noncomputable def yW:S:=(ao (cM (s2 (aG .eq) (s2 aR (aj 2) (ak (.int 0))) (ak (.str "mark"))) (ao (aK (bH "WindowStation" "take_mark" wj (aj 0) (au (aj 1) (au (s2 aR (aj 2) (ak (.int 1))) aq)))) aC) aC) (ao (aK (bH "WindowStation" "take_thing" wu (aj 0) (au (aj 1) (au (kI (aj 2) (mU (ak (.int 1))) sE) aq)))) aC))
def g_:G:=cg 3 yW
abbrev lK:Stmt:=top 69
theorem RK:FnScope ["_law_script","_law_sizes_here","_law_row_here","_law_station","_law_keys_here","_law_things","_law_mark","_law_cell","_law_time","_law_due","_law_found","_law_item"] ["_law_script"] (aM lK):=cP
theorem zav:LV lK "_law_due":=by kernel_rfl
noncomputable def DQ:S:=(ao (kE 9) (ao (aK (dJ (cj xW (au (aj 10) aq)) (dJ (s2 (aG .eq) (aj 10) (s2 aZ (aj 9) (bG (au (aX (au (ak (.str "mark")) (au (ak (.int 1000000000000000)) aq))) aq)))) (cj xV (au (aj 3) (au (ak (.int 1000000000000000)) (au (bG aq) aq))))))) aC))
noncomputable def DY:S:=(ao (aO 10 (bH "WindowStation" "take_in" g_ (aj 3) (au (ak (.int 0)) (au (aX (au (ak (.str "mark")) (au (ak (.int 1000000000000000)) aq))) aq)))) DQ)
noncomputable def Dk:E:=(aX (au (ak (.str "thing")) (au (s2 dz (s2 aR (aj 0) (ak (.int 0))) (ak (.int 1))) (au (s2 aR (aj 0) (ak (.int 1))) (au (s2 aR (aj 0) (ak (.int 2))) aq)))))
noncomputable def DX:S:=(ao (nQ 9 (gH [] (cL (cj wA (au (aj 5) (au (aj 2) (au (aj 1) (au (aj 6) (au (ak (.int 1000000000000000)) aq))))))) (ak (.bl true)) Dk)) DY)
noncomputable def DW:S:=(ao (cM (dM (dN (cj xV (au (aj 3) (au (aj 6) (au (cj wA (au (aj 5) (au (aj 2) (au (aj 1) (au (aj 6) (au (ak (.int 1000000000000000)) aq)))))) aq)))))) (ao (aK (ak (.bl false))) aC) aC) DX)
noncomputable def Qd:S:=(ao (fV (s2 aR (bH "WindowStation" "state" lu (aj 3) aq) (ak (.int 1))) (ak (.int 7))) aC)
noncomputable def Dy:S:=(ao (fV (s2 aR (bH "WindowStation" "state" lu (aj 3) aq) (ak (.int 0))) (ak (.int 7))) Qd)
noncomputable def Ab:S:=(ao (cM (rz (dM (dN (cj xW (au (aj 10) aq)))) (s2 (aG .ne) (aj 10) (Bl 9))) (ao (aK (ak (.bl false))) aC) aC) Dy)
noncomputable def Dl:E:=(aX (au (ak (.str "thing")) (au (s2 dz (s2 aR (aj 0) (ak (.int 0))) (ak (.int 1))) (au (s2 aR (aj 0) (ak (.int 1))) (au (s2 aR (aj 0) (ak (.int 2))) aq)))))
noncomputable def z7:S:=(ao (cM (s2 (aG .eq) (s2 oMod (aj 7) (ak (.int 3))) (ak (.int 0))) (ao (aO 8 (sN gU (au (s2 bW (ak (.int 10)) (ak (.int 12))) (au (s2 aZ (aj 6) (s2 oMod (s2 fB (aj 7) (ak (.int 3))) (s2 aZ (s2 fP (ak (.int 2)) (s2 aR (aj 1) (ak (.int 0)))) (ak (.int 1))))) aq)))) (ao (nQ 9 (gH [] (cL (cj wA (au (aj 5) (au (aj 2) (au (aj 1) (au (aj 6) (au (aj 8) aq))))))) (ak (.bl true)) Dl)) (ao (cM (s2 (aG .gt) (aj 8) (aj 6)) (ao (kj 9 (aX (au (ak (.str "mark")) (au (aj 8) aq)))) aC) aC) (ao (aO 6 (aj 8)) (ao (aO 10 (bH "WindowStation" "take_in" g_ (aj 3) (au (ak (.int 0)) (au (aX (au (ak (.str "mark")) (au (aj 8) aq))) aq)))) aC))))) (ao (aO 11 (cj xY (au (s2 fB (aj 7) (ak (.int 3))) (au (aj 6) (au (s2 aR (aj 1) (ak (.int 0))) (au (aj 4) aq)))))) (ao (fV (aj 5) (kI (aj 11) (mU (ak (.int 1))) sE)) (ao (nQ 9 (bG aq)) (ao (aO 10 (bH "WindowStation" "take_in" g_ (aj 3) (au (ak (.int 0)) (au (aj 11) aq)))) aC))))) Ab)
noncomputable def DR:S:=(ao (fW 7 (cL (yx (aj 0) (mU (ak (.int 2))) (mU (ak (.int 60))))) z7) DW)
def Jp:S:=(ao (aO 6 (ak (.int 0))) DR)
def Jo:S:=(ao (aO 5 (mW (bG aq))) Jp)
noncomputable def Jm:S:=(ao (aO 4 (cj zL (au (s2 fB (cj mG (au (aj 0) (au (ak (.int 1)) aq))) (ak (.int 7))) aq))) Jo)
noncomputable def Jl:S:=(ao (aO 3 (cj zQ (au (aj 2) aq))) Jm)
noncomputable def Jk:S:=(ao (aO 2 (cj zM (au (aj 0) (au (s2 aR (aj 1) (ak (.int 0))) (au (s2 aR (aj 1) (ak (.int 1))) aq))))) Jl)
def CT:S:=(ao (aO 1 (cj xX (au (aj 0) aq))) Jk)
def Oz:G:=cg 12 CT
section
variable {P:Program}{w:World}{K:Fgx}{mg:Mgx}{C:Ad}{base:Heap}{k k0:Nat}{f:Addr}
theorem zap (T:Txt K mg C w):RT P w K mg base k f ["row","width","step"] "window_of" Fw CV:=fun cdv A outer s H E hr=>by
 refine cO hr fun hu=>?_;have nd:=(RN).nd;have B_int:=T.blt "int" (by x_go);refine aF (cD (i:=1) nd rfl Lv (Bp MP rfl B_int boot_int QG (aD (Ek (Ek Sv Ei) Ei) aH cG))) ?_;refine aF (cD (i:=2) nd rfl Lv (RZ (Ct hu (Ek Sv Ei) Es) (Bp MP rfl B_int boot_int QG (aD (Ek (Ek Sv Ei) Ei) aH cG)) Sv)) ?_;exact aF (bM (dB (aD Sv (aD Sv (aD (Ek (Ek Sv Ei) (Ky Lr JL Ei)) aH cG) aP) aP))) aL
theorem zaN (T:Txt K mg C w):RT P w K mg base k f ["thing"] "item_of" Fq Hg:=fun cdv A outer s H E hr=>by
 refine cO hr fun hu=>?_;have nd:=(RJ).nd;exact aF (bM (dB (aD Es (aD (Ek Sv Ei) (aD (Ek Sv Ei) (aD (Ek Sv Ei) aH cG) cG) cG) cF))) aL
theorem zaz (T:Txt K mg C w):RT P w K mg base k f ["fold","value"] "first_of" Fp Hf:=fun cdv A outer s H E hr=>by
 refine cO hr fun hu=>?_;have nd:=(RG).nd;exact aF (bM (RZ (Ct hu Sv Es) Ei Sv)) aL
theorem zbc (T:Txt K mg C w):RT P w K mg base k f ["fold","one","other"] "merged" Ft Hh:=fun cdv A outer s H E hr=>by
 refine cO hr fun hu=>?_;have nd:=(RL).nd;have B_max:=T.blt "max" (by x_go);have B_min:=T.blt "min" (by x_go);refine aF (cR (Ct hu Sv Es) (aF (bM (kO (U4 rfl) rfl B_max boot_max zds (aD Sv (aD Sv aH aP) aP))) aL) aL) ?_;refine aF (cR (Ct hu Sv Es) (aF (bM (kO (Hj rfl) rfl B_min boot_min JH (aD Sv (aD Sv aH aP) aP))) aL) aL) ?_;exact aF (bM (aY dU dW Sv Sv)) aL
theorem zaH (T:Txt K mg C w):RT P w K mg base k f ["width","step","time","end","ends"] "ends_of" Fo G_:=fun cdv A outer s H E hr=>by
 refine cO hr fun hu=>?_;have nd:=(RD).nd;have B_list:=T.blt "list" (by x_go);have B_reversed:=T.blt "reversed" (by x_go);refine aF (cD (i:=3) nd rfl Lv (aY dU dW (aY sy sG Sv (aY gb gh Sv Sv)) Sv)) ?_;refine aF (KY (i:=4) nd rfl Lv (gk aH)) ?_;refine aF (SJ 1000 xb1 (Ct hu Sv Sv) (aF (KR rfl Lu Sv) (aF (zcG (sg:=false) (i:=3) WR nd rfl Lv Sv) aL))) ?_;refine Kp ?_;exact aF (bM (SN.sem (zcg rfl rfl B_list rfl B_reversed Sv) XF)) aL
theorem zaa (T:Txt K mg C w):RT P w K mg base k f ["self","row"] "Station.__init__" sU GP:=fun cdv A outer s H E hr=>by
 refine cO hr fun hu=>?_;have nd:=(Ra).nd;have B_len:=T.blt "len" (by x_go);exact aF (Bw T.cl_WindowStation T.na_WindowStation_marks Sv (Bq (zcf (gk (aD Ei aH cF)) (kO CW rfl B_len xdM En (aD (Ek Sv Ei) aH cG))))) aL
theorem zae (T:Txt K mg C w)(a_window_of:bB P w K mg base k "window_of" 1 mJ)(a_WindowStation_Station___init__:mZ P w K mg base k "Station" "__init__" 2 zH):RT P w K mg base k f ["self","row","window"] "WindowStation.__init__" sV Cy:=fun cdv A outer s H E hr=>by
 refine cO hr fun hu=>?_;have nd:=(Rb).nd;refine aF (Sx (zbL a_WindowStation_Station___init__ hr rfl (aD Sv (aD Sv aH aP) aP) (cnt_cons (cnt_cons cnt_nil)))) ?_;refine aF (cD (i:=2) nd rfl Lv (cQ a_window_of hr rfl (aD Sv aH aP) (cnt_cons cnt_nil))) ?_;refine aF (Bw T.cl_WindowStation T.na_WindowStation_width Sv (Ek Sv Ei)) ?_;refine aF (Bw T.cl_WindowStation T.na_WindowStation_step Sv (Ek Sv Ei)) ?_;refine aF (Bw T.cl_WindowStation T.na_WindowStation_fold Sv (Ek Sv Ei)) ?_;exact aF (Bw T.cl_WindowStation T.na_WindowStation_kept Sv RX) aL
theorem zan (T:Txt K mg C w)(hk0:k0 + 1=k)(a_WindowStation___init__:m7 P w K mg base k0 C.WindowStation 2 xT):RT P w K mg base k f ["row"] "station_of" Fv Hi:=fun cdv A outer s H E hr=>by
 refine cO hr fun hu=>?_;have hr1:=hr;rw[<-hk0]at hr1;have nd:=(RM).nd;refine aF (cR (Ct hu (Ek Sv Ei) Es) (aF wZ aL) aL) ?_;refine aF (cR (Ct hu (Ek Sv Ei) Es) (aF wZ aL) aL) ?_;refine aF (cR (Ct hu (Ek Sv Ei) Es) (aF wZ aL) aL) ?_;refine aF (cR (Ct hu (Ek Sv Ei) Es) (aF wZ aL) aL) ?_;refine aF (cR (Ct hu (Ek Sv Ei) (dB (aD Es (aD Es aH cF) cF))) (aF (bM (zbE T.cl_WindowStation a_WindowStation___init__ hr1 rfl (aD Sv aH aP) (cnt_cons cnt_nil))) aL) aL) ?_;refine aF (cR (Ct hu (Ek Sv Ei) Es) (aF wZ aL) aL) ?_;refine aF (cR (Ct hu (Ek Sv Ei) Es) (aF wZ aL) aL) ?_;refine aF ?_ ?_
 ·exact wZ
 exact aL
theorem za7 (T:Txt K mg C w):RT P w K mg base k f ["_law_found"] "_law_whole" Fl G8:=fun cdv A outer s H E hr=>by
 refine cO hr fun hu=>?_;have nd:=(Rz).nd;have B_bool:=T.blt "bool" (by x_go);have B_int:=T.blt "int" (by x_go);have B_isinstance:=T.blt "isinstance" (by x_go);exact aF (bM (Bo (wV (T:="int") (fun t b h=>wC t "int" b h) Sv rfl B_isinstance rfl B_int boot_int) (Ku (zdw (wV (T:="bool") (fun t b h=>wC t "bool" b h) Sv rfl B_isinstance rfl B_bool boot_bool))))) aL
theorem zay (T:Txt K mg C w):RT P w K mg base k f ["_law_script","_law_k"] "_law_cell_at" Ey GQ:=fun cdv A outer s H E hr=>by
 refine cO hr fun hu=>?_;have nd:=(Rp).nd;have B_len:=T.blt "len" (by x_go);refine aF (cR (Ct hu Sv (kO CW rfl B_len xdM En (aD Sv aH aP))) (aF (bM (Ek Sv Sv)) aL) aL) ?_;exact aF (bM Ei) aL
theorem za0 (T:Txt K mg C w)(a__cell_at:bB P w K mg base k "_law_cell_at" 2 mG):RT P w K mg base k f ["_law_script","_law_cell","_law_width","_law_least"] "_law_sizes" Fi CQ:=fun cdv A outer s H E hr=>by
 refine cO hr fun hu=>?_;have nd:=(Rx).nd;refine aF (cD (i:=1) nd rfl Lv (cQ a__cell_at hr rfl (aD Sv (aD Ei aH cF) aP) (cnt_cons (cnt_cons cnt_nil)))) ?_;refine aF (cD (i:=2) nd rfl Lv (aY dU dW Ei (aY gb gh (aY lE lG Sv Ei) (Ek (SN.sem (gk (aD Ei (aD Ei (aD Ei (aD (aY Aw Bb Ei Ei) aH lN) cF) cF) cF)) lst_is) (aY gb gh (aY lE lG Sv Ei) Ei))))) ?_;refine aF (cR (Ct hu (aY gb gh Sv Ei) Ei) (aF (bM (dB (aD Sv (aD Sv aH aP) aP))) aL) aL) ?_;refine aF (cD (i:=3) nd rfl Lv (aY lE lG (aY dU dW Sv Ei) Ei)) ?_;exact aF (bM (dB (aD Sv (aD (aY dU dW Sv (aY gb gh (aY lE lG (cQ a__cell_at hr rfl (aD Sv (aD Ei aH cF) aP) (cnt_cons (cnt_cons cnt_nil))) Ei) (aY dU dW (aY sy sG Sv Sv) Ei))) aH lN) aP))) aL
theorem zdk (T:Txt K mg C w)(a__cell_at:bB P w K mg base k "_law_cell_at" 2 mG):RT P w K mg base k f ["_law_script","_law_width","_law_step","_law_fold_here"] "_law_row" Fg G6:=fun cdv A outer s H E hr=>by
 refine cO hr fun hu=>?_;have nd:=(Rw).nd;have B_str:=T.blt "str" (by x_go);refine aF (cD (i:=3) nd rfl Lv (Ek (SN.sem (gk (aD Es (aD Es (aD Es (aD Es aH cF) cF) cF) cF)) lst_is) (aY gb gh (cQ a__cell_at hr rfl (aD Sv (aD Ei aH cF) aP) (cnt_cons (cnt_cons cnt_nil))) Ei))) ?_;refine aF (cR (Ct hu (aY gb gh (cQ a__cell_at hr rfl (aD Sv (aD Ei aH cF) aP) (cnt_cons (cnt_cons cnt_nil))) Ei) Ei) (aF (bM (dB (aD Es (aD Es (aD (dB (aD Es aH cF)) (aD (dB (aD (Bp Hl rfl B_str boot_str JM (aD Sv aH aP)) (aD Sv aH aP) w5)) aH tQ) tQ) cF) cF))) aL) aL) ?_;exact aF (bM (dB (aD Es (aD Es (aD (dB (aD Es aH cF)) (aD (dB (aD (Bp Hl rfl B_str boot_str JM (aD Sv aH aP)) (aD (Bp Hl rfl B_str boot_str JM (aD Sv aH aP)) (aD Sv aH aP) w5) w5)) aH tQ) tQ) cF) cF))) aL
theorem zb3 (T:Txt K mg C w):RT P w K mg base k f ["_law_width","_law_step","_law_time","_law_found","_law_end"] "_law_ends" Ez GR:=fun cdv A outer s H E hr=>by
 refine cO hr fun hu=>?_;have nd:=(Rq).nd;refine aF (KY (i:=3) nd rfl Lv (gk aH)) ?_;refine aF (cD (i:=4) nd rfl Lv (aY dU dW (aY dU dW Sv Ei) (aY gb gh (aY sy sG (aY sy sG Sv Sv) Ei) Sv))) ?_;refine aF (SJ 1000 xb1 (Ct hu Sv (aY dU dW Sv Sv)) (aF (KR rfl Lu Sv) (aF (cD (i:=4) nd rfl Lv (aY dU dW Sv Sv)) aL))) ?_;refine Kp ?_;exact aF (bM Sv) aL
theorem zbJ (T:Txt K mg C w):RT P w K mg base k f ["_law_fold_here","_law_values"] "_law_fold" EY GX:=fun cdv A outer s H E hr=>by
 refine cO hr fun hu=>?_;have nd:=(Rr).nd;have B_len:=T.blt "len" (by x_go);have B_max:=T.blt "max" (by x_go);have B_min:=T.blt "min" (by x_go);have B_sum:=T.blt "sum" (by x_go);refine aF (cR (Ct hu Sv Es) (aF (bM (kO CW rfl B_len xdM En (aD Sv aH aP))) aL) aL) ?_;refine aF (cR (Ct hu Sv Es) (aF (bM (kO (U5 rfl) rfl B_max boot_max zbU (aD Sv aH aP))) aL) aL) ?_;refine aF (cR (Ct hu Sv Es) (aF (bM (kO (M6 rfl) rfl B_min boot_min QJ (aD Sv aH aP))) aL) aL) ?_;exact aF (bM (kO (U7 rfl) rfl B_sum boot_sum zcK (aD Sv aH aP))) aL
theorem zax (T:Txt K mg C w)(a__ends:bB P w K mg base k "_law_ends" 3 zJ)(a__fold:bB P w K mg base k "_law_fold" 2 zK):RT P w K mg base k f ["_law_things","_law_row_here","_law_sizes_here","_law_low","_law_high","_law_known","_law_time","_law_key","_law_value","_law_end"] "_law_windows" Bm G9:=fun cdv A outer s H E hr=>by
 refine cO hr fun hu=>?_;have nd:=(RB).nd;have B_sorted:=T.blt "sorted" (by x_go);refine aF (cD (i:=5) nd rfl (.inr zak) RX) ?_;refine aF (zbb 1000 xb1 rfl (KC (i:=6) nd rfl Lv (KC (i:=7) nd rfl Lv (KC (i:=8) nd rfl Lv zcD))) Sv (aF (Bv xb1 rfl nd rfl Lv (nT (cQ a__ends hr rfl (aD (Ek Sv Ei) (aD (Ek Sv Ei) (aD Sv aH aP) cG) cG) (cnt_cons (cnt_cons (cnt_cons cnt_nil))))) (aF (cR (SW.st (zcW (Ct hu Sv Sv) (zbP (Ct hu Sv Sv)))) (aF (FT (zau hu (cC rfl (.inr Lu)) (aD Sv (aD Sv aH aP) aP) (Bq (gk aH))) Sv) aL) aL) aL)) aL)) ?_;exact aF (bM (SN.sem (zbk "_law_end" "_law_key" [("_law_known",5),("_law_row_here",1)] rfl (by x_go) (nT (SN.sem (zb6 rfl rfl B_sorted (cC rfl (.inr Lu))) zb0)) (fun _ _ _ _ _ _=>(dB (aD (cC rfl (.inl (by kernel_rfl))) (aD (cC rfl (.inl (by kernel_rfl))) (aD (cQ a__fold hr rfl (aD (Ek (Ek (cC rfl (.inr (.inl (by kernel_rfl)))) Ei) (Ky Lr JL Ei)) (aD (Ks hu (cC rfl (.inr (.inl (by kernel_rfl)))) (dB (aD (cC rfl (.inl (by kernel_rfl))) (aD (cC rfl (.inl (by kernel_rfl))) aH aP) aP))) aH cG) cG) (cnt_cons (cnt_cons cnt_nil))) aH w5) aP) aP)))) Vd)) aL
theorem zbf (T:Txt K mg C w)(a__whole:bB P w K mg base k "_law_whole" 1 mH):RT P w K mg base k f ["_law_found","_law_item"] "_law_kinds" Fe G5:=fun cdv A outer s H E hr=>by
 refine cO hr fun hu=>?_;have nd:=(Rv).nd;have B_isinstance:=T.blt "isinstance" (by x_go);have B_list:=T.blt "list" (by x_go);have B_tuple:=T.blt "tuple" (by x_go);refine aF (cR (tR (tU (wV (T:="list") (fun t b h=>wC t "list" b h) Sv rfl B_isinstance rfl B_list boot_list))) (aF (bM Eb) aL) aL) ?_;refine aF (Bv xb1 rfl nd rfl Lv (nT Sv) (aF (cR (SW.st (yF (tR (tU (wV (T:="tuple") (fun t b h=>wC t "tuple" b h) Sv rfl B_isinstance rfl B_tuple boot_tuple))) (yF (tR (tU (cQ a__whole hr rfl (aD (Ek Sv Ei) aH cG) (cnt_cons cnt_nil)))) (FZ (tR (tU (cQ a__whole hr rfl (aD (Ek Sv (Ky Lr JL Ei)) aH cG) (cnt_cons cnt_nil)))))))) (aF (bM Eb) aL) aL) aL)) ?_;exact aF (bM Eb) aL
theorem zbX (T:Txt K mg C w):RT P w K mg base k f ["_law_cell","_law_size","_law_word","_law_place"] "_law_keys" Fb G4:=fun cdv A outer s H E hr=>by
 refine cO hr fun hu=>?_;have nd:=(Ru).nd;have B_range:=T.blt "range" (by x_go);refine aF (cD (i:=1) nd rfl Lv (aY dU dW Ei (aY gb gh (cC rfl (.inr Lu)) Ei))) ?_;refine aF (cD (i:=2) nd rfl Lv (zex PySem.F.slot_str_join PySem.F.type_str_join X8 zck Es (aD (SN.sem (KN "_law_k" [("_law_cell",0)] rfl (by x_go) (zbR rfl B_range (aD Sv aH aP)) (fun _ _ _ _ _ _=>Bu) (fun _ _ _ _ _ _=>(Ek Es (aY gb gh (aY dU dW (aY lE lG (cC rfl (.inr (.inl (by kernel_rfl)))) Ei) (cC rfl (.inl (by kernel_rfl)))) Ei)))) zc) aH SM))) ?_;refine aF (cD (i:=3) nd rfl Lv (aY gb gh (aY lE lG (cC rfl (.inr Lu)) Ei) Sv)) ?_;exact aF (bM (SN.sem (gk (aD Sv (aD (aY dU dW (aY dU dW (Kw Sv FQ (yE (Wx:=W0) Sv)) Es) (Kw Sv (yE (Wx:=W0) (aY dU dW Sv Ei)) FQ)) (aD Es aH cF) lN) aP)) lst_is)) aL
theorem zbi (T:Txt K mg C w):RT P w K mg base k f ["_law_cell","_law_mark","_law_width","_law_keys_here","_law_time","_law_value"] "_law_thing" Fj G7:=fun cdv A outer s H E hr=>by
 refine cO hr fun hu=>?_;have nd:=(Ry).nd;have B_min:=T.blt "min" (by x_go);refine aF (cD (i:=4) nd rfl Lv (kO (Hj rfl) rfl B_min boot_min JH (aD (aY Aw Bb Ei Ei) (aD (aY dU dW Sv (aY gb gh (aY lE lG Sv Ei) (aY dU dW (aY Jv JK Ei Sv) Ei))) aH lN) lN))) ?_;refine aF (cD (i:=5) nd rfl Lv (aY sy sG (aY gb gh (aY lE lG Sv Ei) (aY dU dW (aY Jv JK Ei (aY Aw Bb Ei Ei)) Ei)) (aY Aw Bb Ei Ei))) ?_;exact aF (bM (dB (aD Es (aD Sv (aD (Ek Sv (aY gb gh (aY lE lG Sv Ei) Ei)) (aD Sv aH aP) cG) aP) cF))) aL
theorem zad (T:Txt K mg C w):RT P w K mg base k f ["self"] "WindowStation.all_kept" sW Cz:=fun cdv A outer s H E hr=>by
 refine cO hr fun hu=>?_;have nd:=(Rf).nd;have B_sorted:=T.blt "sorted" (by x_go);exact aF (bM (Bq (R9 rfl B_sorted (SN.sem (R_ (bw "WindowStation" "kept" (aj 0)) (zbs "place" "part" [] rfl (by x_go) (R0 (gj T.cl_WindowStation T.na_WindowStation_kept Sv)) (fun _ _ _ _ _ _=>(dB (aD (Ek (cC rfl (.inl (by kernel_rfl))) Ei) (aD (Ek (cC rfl (.inl (by kernel_rfl))) Ei) (aD (cC rfl (.inl (by kernel_rfl))) aH aP) cG) cG))))) (Tp Vg))))) aL
theorem zai (T:Txt K mg C w)(a_WindowStation_all_kept:cX P w K mg base k C.WindowStation "all_kept" 1 wg):RT P w K mg base k f ["self"] "Station.state" sZ CK:=fun cdv A outer s H E hr=>by
 refine cO hr fun hu=>?_;have nd:=(Ri).nd;have B_list:=T.blt "list" (by x_go);exact aF (bM (dB (aD (Bq (zb8 rfl B_list (gj T.cl_WindowStation T.na_WindowStation_marks Sv))) (aD (yC T.cl_WindowStation a_WindowStation_all_kept hr Sv) aH w5) w5))) aL
theorem zbW (T:Txt K mg C w)(a__whole:bB P w K mg base k "_law_whole" 1 mH)(a_WindowStation_state:cX P w K mg base k C.WindowStation "state" 1 lu):RT P w K mg base k f ["_law_station","_law_mark","_law_due","_law_found"] "_law_kept" E_ GZ:=fun cdv A outer s H E hr=>by
 refine cO hr fun hu=>?_;have nd:=(Rt).nd;have B_all:=T.blt "all" (by x_go);have B_isinstance:=T.blt "isinstance" (by x_go);have B_len:=T.blt "len" (by x_go);have B_list:=T.blt "list" (by x_go);have B_tuple:=T.blt "tuple" (by x_go);refine aF (cD (i:=3) nd rfl Lv (yC T.cl_WindowStation a_WindowStation_state hr Sv)) ?_;refine aF (cR (SW.st (yF (tR (tU (wV (T:="tuple") (fun t b h=>wC t "tuple" b h) Sv rfl B_isinstance rfl B_tuple boot_tuple))) (yF (Ct hu (kO CW rfl B_len xdM En (aD Sv aH aP)) Ei) (FZ (Ct hu (Ek Sv Ei) (SN.sem (gk (aD Sv aH aP)) lst_is)))))) (aF (bM Eb) aL) aL) ?_;refine aF (cR (SW.st (yF (tR (tU (wV (T:="list") (fun t b h=>wC t "list" b h) (Ek Sv Ei) rfl B_isinstance rfl B_list boot_list))) (FZ (Ct hu (Ek Sv Ei) Sv)))) (aF (bM Eb) aL) aL) ?_;exact aF (bM (kO (Uy rfl) rfl B_all boot_all zcN (aD (SN.sem (za9 1000 "_law_one" [] rfl (by x_go) (Ek Sv Ei) (fun _ _ _ _ _ _=>(Bo (wV (T:="tuple") (fun t b h=>wC t "tuple" b h) (cC rfl (.inl (by kernel_rfl))) rfl B_isinstance rfl B_tuple boot_tuple) (Bo (cQ a__whole hr rfl (aD (Ek (cC rfl (.inl (by kernel_rfl))) Ei) aH cG) (cnt_cons cnt_nil)) (Ku (cQ a__whole hr rfl (aD (Ek (cC rfl (.inl (by kernel_rfl))) Ei) aH cG) (cnt_cons cnt_nil))))))) Ve) aH SM))) aL
theorem zab (T:Txt K mg C w)(a_first_of:bB P w K mg base k "first_of" 2 zP)(a_merged:bB P w K mg base k "merged" 3 wB)(a_ends_of:bB P w K mg base k "ends_of" 3 zO):RT P w K mg base k f ["self","way","thing","part","end","place"] "WindowStation.take_thing" tM CN:=fun cdv A outer s H E hr=>by
 refine cO hr fun hu=>?_;have nd:=(Rn).nd;refine aF (cD (i:=3) nd rfl Lv (cQ a_first_of hr rfl (aD (gj T.cl_WindowStation T.na_WindowStation_fold Sv) (aD (Ek Sv Ei) aH cG) Bx) (cnt_cons (cnt_cons cnt_nil)))) ?_;refine aF (Bv xb1 rfl nd rfl Lv (nT (cQ a_ends_of hr rfl (aD (gj T.cl_WindowStation T.na_WindowStation_width Sv) (aD (gj T.cl_WindowStation T.na_WindowStation_step Sv) (aD (Ek Sv Ei) aH cG) Bx) Bx) (cnt_cons (cnt_cons (cnt_cons cnt_nil))))) (aF (cD (i:=5) nd rfl Lv (zcL (aD Sv (aD (Ek Sv Ei) aH cG) aP))) (aF (cR (zbG hu Sv (gj T.cl_WindowStation T.na_WindowStation_kept Sv)) (aF (Sw hu (gj T.cl_WindowStation T.na_WindowStation_kept Sv) Sv (cQ a_merged hr rfl (aD (gj T.cl_WindowStation T.na_WindowStation_fold Sv) (aD (Ks hu (gj T.cl_WindowStation T.na_WindowStation_kept Sv) Sv) (aD Sv aH aP) cG) Bx) (cnt_cons (cnt_cons (cnt_cons cnt_nil))))) aL) (aF (Sw hu (gj T.cl_WindowStation T.na_WindowStation_kept Sv) Sv Sv) aL)) aL))) ?_;exact aF (bM (SN.sem (gk aH) lst_is)) aL
theorem zaj (T:Txt K mg C w):RT P w K mg base k f ["self"] "Station.low" sY CJ:=fun cdv A outer s H E hr=>by
 refine cO hr fun hu=>?_;have nd:=(Rh).nd;have B_min:=T.blt "min" (by x_go);exact aF (bM (kO (M6 rfl) rfl B_min boot_min QJ (aD (gj T.cl_WindowStation T.na_WindowStation_marks Sv) aH Bx))) aL
theorem zaf (T:Txt K mg C w):RT P w K mg base k f ["self","low","closing","told","place"] "WindowStation.close_at" sX CG:=fun cdv A outer s H E hr=>by
 refine cO hr fun hu=>?_;have nd:=(Rg).nd;have B_sorted:=T.blt "sorted" (by x_go);refine aF (cD (i:=2) nd rfl Lv (SN.sem (R9 rfl B_sorted (SN.sem (R_ (bw "WindowStation" "kept" (aj 0)) (KN "place" [("low",1)] rfl (by x_go) (zaX (R0 (gj T.cl_WindowStation T.na_WindowStation_kept (cC rfl (.inr Lu))))) (fun _ _ _ _ _ _=>(zdd (S5 (Hv (X:=cJ _ _ _ _ _ _ _ _ _) hu .le) JG (Ek (cC rfl (.inl (by kernel_rfl))) Ei) (cC rfl (.inr (.inl (by kernel_rfl))))))) (fun _ _ _ _ _ _=>(cC rfl (.inl (by kernel_rfl)))))) (Tp zc))) zas)) ?_;refine aF (zcj "place" [("self",0)] (i:=3) nd rfl Lv rfl (by x_go) (nT Sv) (fun _ _ _ _ _ _=>Bu) (fun _ _ _ _ _ _=>(dB (aD (aY sy sG (Ek (cC rfl (.inl (by kernel_rfl))) Ei) Ei) (aD (Ek (cC rfl (.inl (by kernel_rfl))) Ei) (aD (Ks hu (gj T.cl_WindowStation T.na_WindowStation_kept (cC rfl (.inr (.inl (by kernel_rfl))))) (cC rfl (.inl (by kernel_rfl)))) aH cG) cG) lN)))) ?_;refine aF (Bv xb1 rfl nd rfl Lv (nT Sv) (aF (Sx (zbC hu (gj T.cl_WindowStation T.na_WindowStation_kept (cC rfl (.inr Lu))) Sv)) aL)) ?_;exact aF (bM Sv) aL
theorem zag (T:Txt K mg C w)(a_item_of:bB P w K mg base k "item_of" 1 Dp)(a_WindowStation_close_at:cX P w K mg base k C.WindowStation "close_at" 2 xU):RT P w K mg base k f ["self","low"] "Station.tell_low" tO CP:=fun cdv A outer s H E hr=>by
 refine cO hr fun hu=>?_;have nd:=(Ro).nd;exact aF (bM (aY dU dW (SN.sem (KN "thing" [] rfl (by x_go) (nT (wW T.cl_WindowStation a_WindowStation_close_at hr Sv (aD Sv aH aP) (cnt_cons cnt_nil))) (fun _ _ _ _ _ _=>Bu) (fun _ _ _ _ _ _=>(cQ a_item_of hr rfl (aD (cC rfl (.inl (by kernel_rfl))) aH aP) (cnt_cons cnt_nil)))) zc) (SN.sem (gk (aD (dB (aD Es (aD Sv aH aP) cF)) aH tQ)) lst_is))) aL
theorem zac (T:Txt K mg C w)(a_WindowStation_low:cX P w K mg base k C.WindowStation "low" 1 pO)(a_WindowStation_tell_low:cX P w K mg base k C.WindowStation "tell_low" 2 wz):RT P w K mg base k f ["self","way","mark","before","low"] "Station.take_mark" tL yX:=fun cdv A outer s H E hr=>by
 refine cO hr fun hu=>?_;have nd:=(Rm).nd;refine aF (cR (Ct hu Sv (Ek (gj T.cl_WindowStation T.na_WindowStation_marks Sv) Sv)) (aF (bM (SN.sem (gk aH) lst_is)) aL) aL) ?_;refine aF (cD (i:=3) nd rfl Lv (yC T.cl_WindowStation a_WindowStation_low hr Sv)) ?_;refine aF (zbh (gj T.cl_WindowStation T.na_WindowStation_marks Sv) Sv Sv) ?_;refine aF (cD (i:=4) nd rfl Lv (yC T.cl_WindowStation a_WindowStation_low hr Sv)) ?_;refine aF (cR (Ct hu Sv Sv) (aF (bM (SN.sem (gk aH) lst_is)) aL) aL) ?_;exact aF (bM (wW T.cl_WindowStation a_WindowStation_tell_low hr Sv (aD Sv aH aP) (cnt_cons cnt_nil))) aL
theorem zah (T:Txt K mg C w)(a_WindowStation_take_thing:cX P w K mg base k C.WindowStation "take_thing" 3 wu)(a_WindowStation_take_mark:cX P w K mg base k C.WindowStation "take_mark" 3 wj):RT P w K mg base k f ["self","way","item"] "Station.take_in" tK yW:=fun cdv A outer s H E hr=>by
 refine cO hr fun hu=>?_;have nd:=(Rj).nd;refine aF (cR (Ct hu (Ek Sv Ei) Es) (aF (bM (wW T.cl_WindowStation a_WindowStation_take_mark hr Sv (aD Sv (aD (Ek Sv Ei) aH cG) aP) (cnt_cons (cnt_cons cnt_nil)))) aL) aL) ?_;exact aF (bM (wW T.cl_WindowStation a_WindowStation_take_thing hr Sv (aD Sv (aD (R3 Sv (yE (Wx:=W0) Ei) FQ) aH cG) aP) (cnt_cons (cnt_cons cnt_nil)))) aL
theorem zdI (T:Txt K mg C w)(a_station_of:bB P w K mg base k "station_of" 1 zQ)(a__cell_at:bB P w K mg base k "_law_cell_at" 2 mG)(a__sizes:bB P w K mg base k "_law_sizes" 1 xX)(a__row:bB P w K mg base k "_law_row" 3 zM)(a__windows:bB P w K mg base k "_law_windows" 5 wA)(a__kinds:bB P w K mg base k "_law_kinds" 1 xW)(a__keys:bB P w K mg base k "_law_keys" 1 zL)(a__thing:bB P w K mg base k "_law_thing" 4 xY)(a__kept:bB P w K mg base k "_law_kept" 3 xV)(a_WindowStation_take_in:cX P w K mg base k C.WindowStation "take_in" 3 g_)(a_WindowStation_state:cX P w K mg base k C.WindowStation "state" 1 lu):RT P w K mg base k f ["_law_script","_law_sizes_here","_law_row_here","_law_station","_law_keys_here","_law_things","_law_mark","_law_cell","_law_time","_law_due","_law_found","_law_item"] "law" lK CT:=fun cdv A outer s H E hr=>by
 refine cO hr fun hu=>?_;have nd:=(RK).nd;have B_min:=T.blt "min" (by x_go);obtain⟨t_LAST,m_LAST⟩:=T.k_LAST;refine aF (cD (i:=1) nd rfl Lv (cQ a__sizes hr rfl (aD Sv aH aP) (cnt_cons cnt_nil))) ?_;refine aF (cD (i:=2) nd rfl Lv (cQ a__row hr rfl (aD Sv (aD (Ek Sv Ei) (aD (Ek Sv Ei) aH cG) cG) aP) (cnt_cons (cnt_cons (cnt_cons cnt_nil))))) ?_;refine aF (cD (i:=3) nd rfl Lv (cQ a_station_of hr rfl (aD Sv aH aP) (cnt_cons cnt_nil))) ?_;refine aF (cD (i:=4) nd rfl Lv (cQ a__keys hr rfl (aD (aY lE lG (cQ a__cell_at hr rfl (aD Sv (aD Ei aH cF) aP) (cnt_cons (cnt_cons cnt_nil))) Ei) aH lN) (cnt_cons cnt_nil))) ?_;refine aF (cD (i:=5) nd rfl Lv (Bq (gk aH))) ?_;refine aF (cD (i:=6) nd rfl Lv Ei) ?_;refine aF (Bv xb1 rfl nd rfl Lv (nT (Kw Sv (yE (Wx:=W0) Ei) (yE (Wx:=W0) Ei))) (aF (cR (Ct hu (aY gb gh Sv Ei) Ei) (aF (cD (i:=8) nd rfl Lv (kO (Hj rfl) rfl B_min boot_min JH (aD (aY Aw Bb Ei Ei) (aD (aY dU dW Sv (aY gb gh (aY lE lG Sv Ei) (aY dU dW (aY Jv JK Ei (Ek Sv Ei)) Ei))) aH lN) lN))) (aF (Sy "_law_one" [] (i:=9) nd rfl Lv rfl (by x_go) (nT (cQ a__windows hr rfl (aD Sv (aD Sv (aD Sv (aD Sv (aD Sv aH aP) aP) aP) aP) aP) (cnt_cons (cnt_cons (cnt_cons (cnt_cons (cnt_cons cnt_nil))))))) (fun _ _ _ _ _ _=>Bu) (fun _ _ _ _ _ _=>(dB (aD Es (aD (aY sy sG (Ek (cC rfl (.inl (by kernel_rfl))) Ei) Ei) (aD (Ek (cC rfl (.inl (by kernel_rfl))) Ei) (aD (Ek (cC rfl (.inl (by kernel_rfl))) Ei) aH cG) cG) lN) cF)))) (aF (cR (Ct hu Sv Sv) (aF (KR rfl Lu (dB (aD Es (aD Sv aH aP) cF))) aL) aL) (aF (cD (i:=6) nd rfl Lv Sv) (aF (cD (i:=10) nd rfl Lv (wW T.cl_WindowStation a_WindowStation_take_in hr Sv (aD Ei (aD (dB (aD Es (aD Sv aH aP) cF)) aH tQ) cF) (cnt_cons (cnt_cons cnt_nil)))) aL))))) (aF (cD (i:=11) nd rfl Lv (cQ a__thing hr rfl (aD (aY lE lG Sv Ei) (aD Sv (aD (Ek Sv Ei) (aD Sv aH aP) cG) aP) lN) (cnt_cons (cnt_cons (cnt_cons (cnt_cons cnt_nil)))))) (aF (FT Sv (R3 Sv (yE (Wx:=W0) Ei) FQ)) (aF (KY (i:=9) nd rfl Lv (gk aH)) (aF (cD (i:=10) nd rfl Lv (wW T.cl_WindowStation a_WindowStation_take_in hr Sv (aD Ei (aD Sv aH aP) cF) (cnt_cons (cnt_cons cnt_nil)))) aL))))) (aF (cR (SW.st (yF (tR (tU (cQ a__kinds hr rfl (aD Sv aH aP) (cnt_cons cnt_nil)))) (FZ (Ct hu Sv (zes rfl (zav)))))) (aF (bM Eb) aL) aL) (aF (FT (Ek (yC T.cl_WindowStation a_WindowStation_state hr Sv) Ei) Ei) (aF (FT (Ek (yC T.cl_WindowStation a_WindowStation_state hr Sv) Ei) Ei) aL))))) ?_;refine aF (cR (tR (tU (cQ a__kept hr rfl (aD Sv (aD Sv (aD (cQ a__windows hr rfl (aD Sv (aD Sv (aD Sv (aD Sv (aD (kW (A_ (v:=(.int 1000000000000000)) rfl m_LAST ⟨t_LAST,rfl⟩)) aH aP) aP) aP) aP) aP) (cnt_cons (cnt_cons (cnt_cons (cnt_cons (cnt_cons cnt_nil)))))) aH w5) aP) aP) (cnt_cons (cnt_cons (cnt_cons cnt_nil)))))) (aF (bM Eb) aL) aL) ?_;refine aF (Sy "_law_one" [] (i:=9) nd rfl Lv rfl (by x_go) (nT (cQ a__windows hr rfl (aD Sv (aD Sv (aD Sv (aD Sv (aD (kW (A_ (v:=(.int 1000000000000000)) rfl m_LAST ⟨t_LAST,rfl⟩)) aH aP) aP) aP) aP) aP) (cnt_cons (cnt_cons (cnt_cons (cnt_cons (cnt_cons cnt_nil))))))) (fun _ _ _ _ _ _=>Bu) (fun _ _ _ _ _ _=>(dB (aD Es (aD (aY sy sG (Ek (cC rfl (.inl (by kernel_rfl))) Ei) Ei) (aD (Ek (cC rfl (.inl (by kernel_rfl))) Ei) (aD (Ek (cC rfl (.inl (by kernel_rfl))) Ei) aH cG) cG) lN) cF)))) ?_;refine aF (cD (i:=10) nd rfl Lv (wW T.cl_WindowStation a_WindowStation_take_in hr Sv (aD Ei (aD (dB (aD Es (aD (kW (A_ (v:=(.int 1000000000000000)) rfl m_LAST ⟨t_LAST,rfl⟩)) aH aP) cF)) aH tQ) cF) (cnt_cons (cnt_cons cnt_nil)))) ?_;refine Kp ?_;exact aF (bM (Bo (cQ a__kinds hr rfl (aD Sv aH aP) (cnt_cons cnt_nil)) (Bo (Cm hu Sv (aY dU dW Sv (SN.sem (gk (aD (dB (aD Es (aD (kW (A_ (v:=(.int 1000000000000000)) rfl m_LAST ⟨t_LAST,rfl⟩)) aH aP) cF)) aH tQ)) lst_is))) (Ku (cQ a__kept hr rfl (aD Sv (aD (kW (A_ (v:=(.int 1000000000000000)) rfl m_LAST ⟨t_LAST,rfl⟩)) (aD (SN.sem (gk aH) lst_is) aH zcb) aP) aP) (cnt_cons (cnt_cons (cnt_cons cnt_nil)))))))) aL
end
noncomputable def wF:Nat:=5
def mO:G:=Oz
abbrev wNs:String:="zdJ Bd Kd zdP wJ JW wO Ke zep zey q_1 r_1 q_2 r_2 J_ zez zd5 LR zei zea zdV zc1 zd9 zdN zed JT zdZ zdX zeo zc5 zdA zdE q_n r_n zcT zej zd8 zbB zdh zc4 zb7 zc9 zco zcU JV zdQ zd3 zdF zer zdG zc7 zew zc0 zdu zdW zcF Ka JQ zeC zec zdT zeh zeb zd1 zcE zdo zdB JN zdD zdc Yp Yq YQ Yv YF YK YJ Jt Js Jr Ys YH Yw Yy Yz YB YD YC YS YM YL sizeLine_eq Option.map_some Option.map_none List.getElem?_cons_zero List.getElem?_cons_succ List.set_cons_zero List.set_cons_succ List.map_cons List.map_nil List.length_cons List.length_nil List.length_map List.replicate List.cons_append List.nil_append List.append_nil reduceCtorEq if_true if_false reduceIte Bool.not_true Bool.not_false Nat.reduceSub Nat.reduceAdd Nat.reduceLeDiff Nat.reduceLT Int.reduceLT Int.reduceLE Int.reduceAdd Int.reduceSub Int.reduceMul Int.reduceNeg Int.reduceAbs Int.reduceEq Int.reducePow Int.reduceMod Int.reduceDiv Int.reduceToNat Nat.zero_le and_true true_and and_self or_true true_or Bool.false_eq_true decide_eq_true_eq decide_true decide_false Bool.not_eq_true' decide_eq_false_iff_not not_true_eq_false not_false_eq_true eq_self QT QW QX zdb zdC Option.getD_some zdO zem ty_int zcV zcI zd2 zdK zen YG List.isEmpty_cons List.isEmpty_nil Bool.true_eq_false Bool.and_self Bool.and_true Bool.true_and Bool.and_false Bool.false_and Kc JR Yr Yx Am Ak Yu Bool.true_or Bool.false_or Bool.or_true Bool.or_false at0 at1 at2 Uo Q0 zcX"
local macro_rules | `(tactic| z_go)=>do
 let l <-(wNs.splitOn " ").toArray.mapM fun n=> `(Lean.Parser.Tactic.simpLemma| $(Lean.mkIdent n.toName):term)
 `(tactic| try simp only[$l,*])
variable {M:Mm}
noncomputable def dl (e s:Int) (n:Nat):List Int:=(List.range n).map fun(k:Nat)=>e - (k:Int) * s
theorem Vt {e s:Int}{n:Nat}:dl e s (n + 1)=dl e s n ++ [e - (n:Int) * s]:=by
 unfold dl;rw[xdA,xaM];rfl
theorem Hx {e s:Int}{n:Nat}:(dl e s n).length=n:=by
 unfold dl;rw[xae,xcL]
noncomputable def e0 (w s t:Int):Int:=t - t % s + w
def nE (w s t:Int):Nat:=((e0 w s t - t - 1) / s + 1).toNat
def eL (w s t:Int):List Int:=(dl (e0 w s t) s (nE w s t)).reverse
section
variable {w s t:Int}
theorem DP (s0:0<s)(h:s<=w)(j:Nat):t<e0 w s t - (j:Int) * s ↔ j<nE w s t:=by
 have a0:=xbw t (show s≠0 by lia);have a1:=xbM t s0;have q:=xez (a:=(j:Int)) (b:=e0 w s t - t - 1) s0;have p:0<=(e0 w s t - t - 1) / s:=Int.ediv_nonneg (by unfold e0;lia) (by lia);unfold nE;generalize (j:Int) * s=js at q ⊢
 constructor
 ·intro h;have:=q.mpr (by lia);lia
 ·intro h;have:=q.mp (by lia);lia
theorem Yc {c:Int}(s0:0<s)(h:s<=w)(hc:w<=c * s)(c0:0<=c):(nE w s t:Int)<=c:=by
 rcases xem c (nE w s t) with q |q
 ·have:=(DP (t:=t) s0 h c.toNat).mpr (by lia);rw[show((c.toNat:Nat):Int)=c by lia]at this;have a0:=xbw t (show s≠0 by lia);unfold e0 at this;lia
 ·exact q
theorem VG (s0:0<s)(h:s<=w)(hn:nE w s t<=900):zO [.int w,.int s,.int t] M=some (.v (.lst ((eL w s t).map .int)),M):=by
 have wh:∃x,sS 1000 Li z6 [.val (.int w),.val (.int s),.val (.int t),.val (.int (e0 w s t)),.own []] M=some (.nx [.val (.int w),.val (.int s),.val (.int t),x,.own ((dl (e0 w s t) s (nE w s t)).map .int)],M):=by
  refine L_ (fun o=>∃x,o=some (.nx [.val (.int w),.val (.int s),.val (.int t),x,.own ((dl (e0 w s t) s (nE w s t)).map .int)],M)) (fun m env N=>∃j:Nat,j + m=nE w s t/\N=M/\env=[.val (.int w),.val (.int s),.val (.int t),.val (.int (e0 w s t - (j:Int) * s)),.own ((dl (e0 w s t) s j).map .int)]) ⟨nE w s t,by lia,0,by lia,rfl,by rw[show((0:Nat):Int) * s=0 by lia,Int.sub_zero];rfl⟩ ?_;rintro m env N ⟨j,hj,rfl,rfl⟩;have q:=DP (t:=t) s0 h j;have es:((j + 1:Nat):Int) * s=(j:Int) * s + s:=by rw[Int.natCast_add,xe8];show _ + 1 * s=_;lia
  have dj:=Vt (e:=e0 w s t) (s:=s) (n:=j);have ln:=Hx (e:=e0 w s t) (s:=s) (n:=j);refine⟨decide (t<e0 w s t - (j:Int) * s),N,rfl,?_⟩
  by_cases hlt:j<nE w s t
  ·have:=q.mpr hlt;rw[xaK this,xac rfl];have e:z6 [.val (.int w),.val (.int s),.val (.int t),.val (.int (e0 w s t - (j:Int) * s)),.own ((dl (e0 w s t) s j).map .int)] N=some (.nx [.val (.int w),.val (.int s),.val (.int t),.val (.int (e0 w s t - ((j + 1:Nat):Int) * s)),.own ((dl (e0 w s t) s (j + 1)).map .int)],N):=by
    have ag:mV 3 false (aj 1) [.val (.int w),.val (.int s),.val (.int t),.val (.int (e0 w s t - (j:Int) * s)),.own ((dl (e0 w s t) s (j + 1)).map .int)] N=some (.nx [.val (.int w),.val (.int s),.val (.int t),.val (.int (e0 w s t - (j:Int) * s - s)),.own ((dl (e0 w s t) s (j + 1)).map .int)],N):=rfl;rw[es,show e0 w s t - ((j:Int) * s + s)=e0 w s t - (j:Int) * s - s by lia];unfold z6;generalize mV 3 false (aj 1)=F at ag ⊢;rw[dj,xaM]at ag ⊢;have ll:((dl (e0 w s t) s j).map D.int).length<=1000:=by rw[xae];lia
    z_go;rw[xac (by lia)];z_go;rw[show [D.int (e0 w s t - (j:Int) * s)]=[e0 w s t - (j:Int) * s].map D.int from rfl,ag];z_go
   rw[e];exact⟨m - 1,by lia,j + 1,by lia,rfl,rfl⟩
  ·have:¬ t<e0 w s t - (j:Int) * s:=fun z=>hlt (q.mp z);rw[xaH this,xad (by decide)];exact⟨_,by rw[show j=nE w s t by lia]⟩
 obtain⟨x,e⟩:=wh;have lr:q_ (aj 4) [.val (.int w),.val (.int s),.val (.int t),x,.val (.lst ((dl (e0 w s t) s (nE w s t)).map .int))] M=some (.v (.lst ((eL w s t).map .int)),M):=by
  rw[zcM (ds:=(dl (e0 w s t) s (nE w s t)).map .int) (M1:=M) rfl rfl];unfold eL;rw[List.map_reverse]
 unfold zO G_;generalize sS 1000 Li z6=F at e ⊢;generalize q_ (aj 4)=F2 at lr ⊢;unfold e0 at e;z_go;rw[xac s0];z_go;rw[e];z_go;rw[<-show e0 w s t=t - t % s + w from rfl,lr];z_go
theorem HN (s0:0<s)(h:s<=w){e:Int}:e∈eL w s t ↔ (e - w) % s=0/\t<e/\e<=t + w:=by
 have a0:=xbw t (show s≠0 by lia);have a1:=xbM t s0;have dm:=xeJ t s;unfold eL dl;rw[xbz,xaj]
 constructor
 ·rintro⟨k,hk,rfl⟩;have:=(DP (t:=t) s0 h k).mpr (xbO.mp hk);have kp:0<=(k:Int) * s:=Int.mul_nonneg (by lia) (by lia);refine⟨?_,this,by unfold e0;lia⟩;have:e0 w s t - (k:Int) * s - w=s * (t / s - k):=by
   rw[Int.mul_sub,xdc s (k:Int)];unfold e0;lia
  rw[this];exact xeZ _ _
 ·rintro⟨hm,h1,h2⟩;obtain⟨c,hc⟩:=xer hm;have e1:e=w + s * c:=by lia
  have e2:e0 w s t=w + s * (t / s):=by unfold e0;lia
  have hk:0<=t / s - c:=by
   rcases xem (t / s - c) 0 with z |z
   ·exfalso
    have:s * (t / s + 1)<=s * c:=xdG (by lia) (by lia);rw[Int.mul_add,Int.mul_one]at this;lia
   ·exact z
  have ek:e0 w s t - (((t / s - c).toNat:Nat):Int) * s=e:=by
   rw[show(((t / s - c).toNat:Nat):Int)=t / s - c by lia,Int.sub_mul,xdc (t / s) s,xdc c s];lia
  exact⟨(t / s - c).toNat,xbO.mpr ((DP (t:=t) s0 h _).mp (by rw[ek];exact h1)),ek⟩
end
noncomputable def fi (f:Str) (v:Int):Int:=if f="count" then 1 else v
noncomputable def fZ (f:Str) (a b:Int):Int:=if f="most" then(if b > a then b else a) else if f="least" then(if b<a then b else a) else a + b
noncomputable def fo (f:Str):List Int->Int
 | []=>0
 |a::r=>(r.map (fi f)).foldl (fZ f) (fi f a)
noncomputable def lf (f:Str) (is:List Int):Int:=if f="sum" then is.sum else if f="count" then is.length else if f="most" then cW is else dh is
theorem fold_max:∀(r:List Int) (a:Int),(r.foldl (fun x y=>if y > x then y else x) a=a\/r.foldl (fun x y=>if y > x then y else x) a∈r)/\a<=r.foldl (fun x y=>if y > x then y else x) a/\∀y∈r,y<=r.foldl (fun x y=>if y > x then y else x) a
  | [],a=>⟨.inl rfl,xeA _,fun y h=>nomatch h⟩
  |b::r,a=>by
    obtain⟨h1,h2,h3⟩:=fold_max r (if b > a then b else a)
    rw[xcf];generalize r.foldl (fun x y=>if y > x then y else x) (if b > a then b else a)=m at *
    have hb:a<=(if b > a then b else a)/\b<=(if b > a then b else a):=by split<;>lia
    refine⟨?_,by lia,fun y hy=>?_⟩
    · rcases h1 with h1 |h1
      · rw[h1]
        split
        · exact .inr (by simp)
        · exact .inl rfl
      · exact .inr (by simp[h1])
    · rcases xaq.mp hy with rfl |hy
      · lia
      · exact h3 y hy
theorem fold_min:∀(r:List Int) (a:Int),(r.foldl (fun x y=>if y<x then y else x) a=a\/r.foldl (fun x y=>if y<x then y else x) a∈r)/\r.foldl (fun x y=>if y<x then y else x) a<=a/\∀y∈r,r.foldl (fun x y=>if y<x then y else x) a<=y
  | [],a=>⟨.inl rfl,xeA _,fun y h=>nomatch h⟩
  |b::r,a=>by
    obtain⟨h1,h2,h3⟩:=fold_min r (if b<a then b else a)
    rw[xcf];generalize r.foldl (fun x y=>if y<x then y else x) (if b<a then b else a)=m at *
    have hb:(if b<a then b else a)<=a/\(if b<a then b else a)<=b:=by split<;>lia
    refine⟨?_,by lia,fun y hy=>?_⟩
    · rcases h1 with h1 |h1
      · rw[h1]
        split
        · exact .inr (by simp)
        · exact .inl rfl
      · exact .inr (by simp[h1])
    · rcases xaq.mp hy with rfl |hy
      · lia
      · exact h3 y hy
theorem fold_add:∀(r:List Int) (a:Int),r.foldl (fun x y=>x + y) a=a + r.sum
 | [],a=>by simp
 |b::r,a=>by rw[xcf,fold_add r,xcX];lia
theorem S8:∀r:List Int,(r.map fun _=>(1:Int)).sum=r.length
 | []=>rfl
 |b::r=>by rw[xak,xcX,S8 r,xav];lia
theorem K1:∀r:List Int,r.reverse.sum=r.sum
 | []=>rfl
 |b::r=>by rw[xcK,List.sum_append,K1 r,xcX,xcX,List.sum_nil];lia
theorem Oq {f:Str}{is:List Int}(hf:f="sum"\/f="count"\/f="most"\/f="least")(hn:is≠ []):fo f is=lf f is.reverse:=by
  cases is with
  |nil=>exact absurd rfl hn
  |cons a r=>
    rcases hf with rfl |rfl |rfl |rfl
    · have e1:fi "sum"=id:=by funext v;rfl
      have e2:fZ "sum"=fun x y=>x + y:=by funext x y;rfl
      show(r.map (fi "sum")).foldl (fZ "sum") (fi "sum" a)=(a::r).reverse.sum;rw[e1,e2,xdp,fold_add,K1,xcX];rfl
    · have e1:fi "count"=fun _=>1:=by funext v;rfl
      have e2:fZ "count"=fun x y=>x + y:=by funext x y;rfl
      show(r.map (fi "count")).foldl (fZ "count") (fi "count" a)=((a::r).reverse.length:Int);rw[e1,e2,fold_add,S8,xcv,xav];show(1:Int) + r.length=_;lia
    · have e1:fi "most"=id:=by funext v;rfl
      have e2:fZ "most"=fun x y=>if y > x then y else x:=by funext x y;rfl
      show(r.map (fi "most")).foldl (fZ "most") (fi "most" a)=cW (a::r).reverse;rw[e1,e2,xdp];obtain⟨h1,h2,h3⟩:=fold_max r a;refine(BR ?_ fun y hy=>?_).symm
      · rw[xbz];rcases h1 with h1 |h1
        · exact xaq.mpr (.inl h1)
        · exact xaq.mpr (.inr h1)
      · rw[xbz]at hy;rcases xaq.mp hy with rfl |hy
        · exact h2
        · exact h3 y hy
    · have e1:fi "least"=id:=by funext v;rfl
      have e2:fZ "least"=fun x y=>if y<x then y else x:=by funext x y;rfl
      show(r.map (fi "least")).foldl (fZ "least") (fi "least" a)=dh (a::r).reverse;rw[e1,e2,xdp];obtain⟨h1,h2,h3⟩:=fold_min r a;refine(za ?_ fun y hy=>?_).symm
      · rw[xbz];rcases h1 with h1 |h1
        · exact xaq.mpr (.inl h1)
        · exact xaq.mpr (.inr h1)
      · rw[xbz]at hy;rcases xaq.mp hy with rfl |hy
        · exact h2
        · exact h3 y hy
abbrev Fd (f:Str):Prop:=f="sum"\/f="count"\/f="most"\/f="least"
variable {M:Mm}
theorem rZ {N E:Mm}{k:Nat}{c:E3.Cl}(h:N[k]? =some c):(N ++ E)[k]? =some c:=by rw[xaG (xai.mp h).1];exact h
theorem VH {f:Str}{v:Int}:zP [.str f,.int v] M=some (.v (.int (fi f v)),M):=by
 unfold zP Hf;z_go;unfold fi
 by_cases h:f="count"
 ·subst h;z_go
 ·simp only[h,xaY,xbt];z_go
theorem V0 {f:Str}{a b:Int}:wB [.str f,.int a,.int b] M=some (.v (.int (fZ f a b)),M):=by
 unfold wB Hh;z_go;unfold fZ
 by_cases h:f="most"
 ·subst h;z_go
 ·simp only[h,xaY,xbt];z_go
  by_cases h:f="least"
  ·subst h;z_go
  ·simp only[h,xaY,xbt];z_go
variable {M:Mm}
abbrev WK:=Int×Str
abbrev WG:=WK×Nat×List Int
def kK (k:WK):List Key:=[.inl k.1,.inr k.2]
def dE (g:WG):List Key×D:=(kK g.1,.ref g.2.1)
noncomputable def addW (k:WK) (v:Int) (n:Nat):List WG->List WG
 | []=>[(k,n,[v])]
 |g::r=>if g.1=k then(g.1,g.2.1,g.2.2 ++ [v])::r else g::addW k v n r
noncomputable def eG (k:WK):List WG->Option (Nat×List Int)
 | []=>none
 |g::r=>if g.1=k then some g.2 else eG k r
theorem yg {k k':WK}(h:kK k=kK k'):k=k':=by
 unfold kK at h;cases k;cases k'
 simp at h
 exact Prod.ext h.1 h.2
theorem Lz {k:WK}:∀G:List WG,bT (G.map dE) (kK k)=(eG k G).map fun p=>.ref p.1
  | []=>rfl
  |g::r=>by
    have ih:=Lz (k:=k) r;unfold bT at ih ⊢;rw[xak,xbY]
    by_cases h:g.1=k
    · have:decide ((dE g).1=kK k)=true:=xaK (by rw[<-h];rfl);rw[this];show some (D.ref g.2.1)=((if g.1=k then some g.2 else eG k r).map fun p=>D.ref p.1)
      rw[xac h];rfl
    · have:decide ((dE g).1=kK k)=false:=xaH fun z=>h (yg z);rw[this];show _=((if g.1=k then some g.2 else eG k r).map fun p=>D.ref p.1)
      rw[xad h];exact ih
theorem nG {k:WK}{p:Nat×List Int}:∀{G:List WG},eG k G=some p->(k,p)∈G
  | [],h=>by cases h
  |g::r,h=>by
    unfold eG at h;split at h
    · rename_i e;cases h;rw[<-e];exact xaz ..
    · exact xal _ (nG h)
theorem z_ {k:WK}:∀{G:List WG},eG k G=none->∀g∈G,g.1≠k
  | [],_,g,hg=>nomatch hg
  |g'::r,h,g,hg=>by
    unfold eG at h;split at h
    · cases h
    · rename_i e;rcases xaq.mp hg with rfl |hg
      · exact e
      · exact z_ h g hg
theorem pA {k:WK}{v:Int}{n:Nat}:∀{G:List WG},eG k G=none->addW k v n G=G ++ [(k,n,[v])]
  | [],_=>rfl
  |g::r,h=>by
    unfold eG at h;split at h
    · cases h
    · rename_i e;unfold addW;rw[xad e,pA h];rfl
theorem Cw {k:WK}{v:Int}{n:Nat}{p:Nat×List Int}:∀{G:List WG},eG k G=some p->(addW k v n G).map dE=G.map dE/\(addW k v n G).map (·.2.1)=G.map (·.2.1)/\(addW k v n G).map (·.1)=G.map (·.1)
  | [],h=>by cases h
  |g::r,h=>by
    unfold eG at h;unfold addW;split at h
    · rename_i e;rw[xac e];exact⟨rfl,rfl,rfl⟩
    · rename_i e;rw[xad e];obtain⟨a,b,c⟩:=Cw (v:=v) (n:=n) h;simp only[xak,a,b,c,and_self]
theorem Cv {k:WK}{v:Int}{n:Nat}{p:Nat×List Int}:∀{G:List WG},eG k G=some p->(G.map (·.1)).Nodup->∀g∈addW k v n G,g=(k,p.1,p.2 ++ [v])\/(g∈G/\g.1≠k)
  | [],h,_,_,_=>by cases h
  |g'::r,h,hn,g,hg=>by
    rw[xak,xa6]at hn;unfold eG at h;unfold addW at hg;split at h
    · rename_i e;rw[xac e]at hg;cases h;rcases xaq.mp hg with rfl |hg
      · rw[e];exact .inl rfl
      · refine .inr ⟨xal _ hg,fun z=>hn.1 ?_⟩;rw[e, <-z];exact xaj.mpr ⟨g,hg,rfl⟩
    · rename_i e;rw[xad e]at hg;rcases xaq.mp hg with rfl |hg
      · exact .inr ⟨xaz ..,e⟩
      · rcases Cv h hn.2 g hg with z |⟨z1,z2⟩
        · exact .inl z
        · exact .inr ⟨xal _ z1,z2⟩
theorem Jq {α β:Type}{f:α->β}:∀{l:List α},(l.map f).Nodup->∀a∈l,∀b∈l,f a=f b->a=b
  | [],_,a,ha,_,_,_=>nomatch ha
  |x::l,h,a,ha,b,hb,e=>by
    rw[xak,xa6]at h;rcases xaq.mp ha with ea |ha<;>rcases xaq.mp hb with eb |hb
    · rw[ea,eb]
    · exact absurd (xaj.mpr ⟨b,hb,by rw[<-e,ea]⟩) h.1
    · exact absurd (xaj.mpr ⟨a,ha,by rw[e,eb]⟩) h.1
    · exact Jq h.2 a ha b hb e
structure WI (M0:Mm)(b:Nat)(G:List WG)(M:Mm):Prop where
 d:M[b]? =some (.dtc (G.map dE))
 c:∀g∈G,M[g.2.1]? =some (.lst (g.2.2.map .int))/\g.2.1≠b
 ka:(G.map (·.2.1)).Nodup
 kk:(G.map (·.1)).Nodup
 lw:∀g∈G,M0.length<=g.2.1
 bl:M0.length<=b
 kp:∀(k:Nat) c,M0[k]? =some c->M[k]? =some c
noncomputable def dO (t:Int) (z:Str) (v:Int):D:=.tup [.int t,.str z,.int v]
theorem fG {k j:Nat}{c c':E3.Cl}(h:M[k]? =some c)(n:j≠k):(M.set j c')[k]? =some c:=by rw[xcS n];exact h
theorem rJ {j:Nat}{c c':E3.Cl}(h:M[j]? =some c):(M.set j c')[j]? =some c':=xcF (xai.mp h).1
theorem zek {b:Nat}{G:List WG}{e t v:Int}{z:Str}{a0 a1 a2 a3 a4:Slot}{M0:Mm}(I:WI M0 b G M)(hG:G.length<=1000)(hv:∀g∈G,g.2.2.length<=1000):∃M',fV (rD (aj 5) (au (aj 9) (au (aj 7) aq)) (mW (bG aq))) (aj 8) [a0,a1,a2,a3,a4,.val (.ref b),.val (.int t),.val (.str z),.val (.int v),.val (.int e)] M=some (.nx [a0,a1,a2,a3,a4,.val (.ref b),.val (.int t),.val (.str z),.val (.int v),.val (.int e)],M')/\WI M0 b (addW (e,z) v M.length G) M':=by
  have bl:=(xai.mp I.d).1;have sl:(G.map dE).length<sizeLine:=by rw[xae,xaO];lia
  have h1:aj 5 [a0,a1,a2,a3,a4,.val (.ref b),.val (.int t),.val (.str z),.val (.int v),.val (.int e)] M=some (.v (.ref b),M):=rfl;have h3:au (aj 9) (au (aj 7) aq) [a0,a1,a2,a3,a4,.val (.ref b),.val (.int t),.val (.str z),.val (.int v),.val (.int e)] M=some (.v [.int e,.str z],M):=rfl;have h4:mW (bG aq) [a0,a1,a2,a3,a4,.val (.ref b),.val (.int t),.val (.str z),.val (.int v),.val (.int e)] M=some (.v (.ref M.length),M ++ [.lst []]):=rfl;have hx:aj 8 [a0,a1,a2,a3,a4,.val (.ref b),.val (.int t),.val (.str z),.val (.int v),.val (.int e)]=fun N=>some (.v (.int v),N):=rfl;have d':(M ++ [E3.Cl.lst []])[b]? =some (.dtc (G.map dE)):=rZ I.d;have nw:(M ++ [E3.Cl.lst []])[M.length]? =some (.lst []):=by rw[xat (xaf _),xbS];rfl
  have vW:=Lz (k:=(e,z)) G
  cases hl:eG (e,z) G with
  |some p=>
    rw[hl]at vW;have mem:=nG hl;obtain⟨c1,c2⟩:=I.c _ mem;have c1':(M ++ [E3.Cl.lst []])[p.1]? =some (.lst (p.2.map .int)):=rZ c1;have sd:=zcY (env:=[a0,a1,a2,a3,a4,.val (.ref b),.val (.int t),.val (.str z),.val (.int v),.val (.int e)]) h1 I.d h3 h4 d' (key:=kK (e,z)) rfl sl (by rw[xaO,xav,xav,xbE];decide) vW;have pl:=hv _ mem;refine⟨(M ++ [E3.Cl.lst []]).set p.1 (.lst (p.2.map .int ++ [.int v])),?_,?_⟩
    · rw[yR (k:=p.1) (ds0:=p.2.map .int) (ds:=p.2.map .int) (d:=.int v) (M1:=M ++ [E3.Cl.lst []]) (M2:=M ++ [E3.Cl.lst []]) sd c1' (by rw[hx]) c1' (by rw[xae,xaO];exact xbk pl (by decide))]
    · obtain⟨o1,o2,o3⟩:=Cw (v:=v) (n:=M.length) hl;have pl0:=I.lw _ mem;refine⟨by rw[o1];exact fG d' c2,fun g hg=>?_,by rw[o2];exact I.ka,by rw[o3];exact I.kk,fun g hg=>?_,I.bl,fun k c h=>fG (rZ (I.kp k c h)) (by have:=(xai.mp h).1;show p.1≠k;dsimp only at pl0;lia)⟩;rcases Cv hl I.kk g hg with rfl |⟨g1,g2⟩
      · refine⟨?_,c2⟩;rw[xaM];exact rJ c1'
      · obtain⟨q1,q2⟩:=I.c g g1;refine⟨fG (rZ q1) fun z=>g2 ?_,q2⟩;rw[<-Jq I.ka _ mem g g1 z]
      · rcases Cv hl I.kk g hg with rfl |⟨g1,_⟩
        · exact pl0
        · exact I.lw g g1
  |none=>
    rw[hl]at vW;have no:=z_ hl;have sd:=zdj (env:=[a0,a1,a2,a3,a4,.val (.ref b),.val (.int t),.val (.str z),.val (.int v),.val (.int e)]) h1 I.d h3 h4 d' (key:=kK (e,z)) rfl sl (by rw[xaO,xav,xav,xbE];decide) vW;have bn:b≠M.length:=by lia
    have pu:bY (G.map dE) (kK (e,z)) (.ref M.length)=(addW (e,z) v M.length G).map dE:=by
      rw[pA hl,xaM];unfold bY;rw[xad]
      · rfl
      · rw[List.any_eq_true];rintro⟨x,hx,ex⟩;obtain⟨g,hg,rfl⟩:=xaj.mp hx;exact no g hg (yg (xbB ex))
    have nw':((M ++ [E3.Cl.lst []]).set b (.dtc (bY (G.map dE) (kK (e,z)) (.ref M.length))))[M.length]? =some (.lst []):=fG nw bn;refine⟨((M ++ [E3.Cl.lst []]).set b (.dtc (bY (G.map dE) (kK (e,z)) (.ref M.length)))).set M.length (.lst ([] ++ [.int v])),?_,?_⟩
    · rw[yR (k:=M.length) (ds0:=[]) (ds:=[]) (d:=.int v) (M1:=(M ++ [E3.Cl.lst []]).set b (.dtc (bY (G.map dE) (kK (e,z)) (.ref M.length)))) (M2:=(M ++ [E3.Cl.lst []]).set b (.dtc (bY (G.map dE) (kK (e,z)) (.ref M.length)))) sd nw' (by rw[hx]) nw' (by rw[xaO];decide)]
    · have lt:∀g∈G,g.2.1<M.length:=fun g hg=>(xai.mp (I.c g hg).1).1;have b0:=I.bl;refine⟨by rw[<-pu];exact fG (rJ d') (xbx bn),fun g hg=>?_,?_,?_,fun g hg=>?_,b0,fun k c h=>fG (fG (rZ (I.kp k c h)) (by have:=(xai.mp h).1;lia)) (by have:=(xai.mp h).1;lia)⟩
      · rw[pA hl]at hg;rcases xaQ.mp hg with hg |hg
        · obtain⟨q1,q2⟩:=I.c g hg;have:=lt g hg;exact⟨fG (fG (rZ q1) (xbx q2)) (by lia),q2⟩
        · cases xaB.mp hg;exact⟨rJ nw',xbx bn⟩
      · rw[pA hl,xaM,xdl];refine⟨I.ka,by simp,fun x hx y hy exy=>?_⟩;obtain⟨g,hg,rfl⟩:=xaj.mp hx;have:=lt g hg;have:y=M.length:=by simpa using hy
        lia
      · rw[pA hl,xaM,xdl];refine⟨I.kk,by simp,fun x hx y hy exy=>?_⟩;obtain⟨g,hg,rfl⟩:=xaj.mp hx;have h9:y=(e,z):=by simpa using hy
        exact no g hg (exy.trans h9)
      · rw[pA hl]at hg;rcases xaQ.mp hg with hg |hg
        · exact I.lw g hg
        · cases xaB.mp hg;show M0.length<=M.length;lia
variable {M:Mm}
noncomputable def vals (k:WK) (L:List (WK×Int)):List Int:=(L.filter fun x=>decide (x.1=k)).map (·.2)
theorem zbl {k:WK}{L:List (WK×Int)}:(vals k L).length<=L.length:=by
 unfold vals;rw[xae];exact xbu ..
theorem yH {k:WK}{L L':List (WK×Int)}:vals k (L ++ L')=vals k L ++ vals k L':=by
 unfold vals;rw[xdV,xaM]
theorem Ce {k:WK}{v:Int}:vals k [(k,v)]=[v]:=by
 unfold vals
 simp
theorem Cd {k k':WK}{v:Int}(h:k'≠k):vals k [(k',v)]=[]:=by
 unfold vals
 simp[h]
structure WJ (M0:Mm)(b:Nat)(L:List (WK×Int))(G:List WG)(M:Mm):Prop where
 i:WI M0 b G M
 v:∀g∈G,g.2.2=vals g.1 L/\g.2.2≠ []
 m:∀x∈L,∃g∈G,g.1=x.1
 n:G.length<=L.length
theorem zcP {b:Nat}{L:List (WK×Int)}{G:List WG}{e t v:Int}{z:Str}{a0 a1 a2 a3 a4:Slot}{M0:Mm}(J:WJ M0 b L G M)(hl:L.length<=1000):∃G' M',fV (rD (aj 5) (au (aj 9) (au (aj 7) aq)) (mW (bG aq))) (aj 8) [a0,a1,a2,a3,a4,.val (.ref b),.val (.int t),.val (.str z),.val (.int v),.val (.int e)] M=some (.nx [a0,a1,a2,a3,a4,.val (.ref b),.val (.int t),.val (.str z),.val (.int v),.val (.int e)],M')/\WJ M0 b (L ++ [((e,z),v)]) G' M':=by
  have lv:∀g∈G,g.2.2.length<=1000:=fun g hg=>by
    rw[(J.v g hg).1];exact xay zbl hl
  obtain⟨M',h1,h2⟩:=zek (e:=e) (t:=t) (v:=v) (z:=z) (a0:=a0) (a1:=a1) (a2:=a2) (a3:=a3) (a4:=a4) J.i (xay J.n hl) lv;refine⟨_,M',h1,h2,?_,?_,?_⟩
  · intro g hg;rw[yH]
    cases hk:eG (e,z) G with
    |some p=>
      rcases Cv hk J.i.kk g hg with rfl |⟨g1,g2⟩
      · have:=(J.v _ (nG hk)).1;refine⟨?_,by simp⟩;show p.2 ++ [v]=vals (e,z) L ++ vals (e,z) [((e,z),v)];rw[Ce, <-this]
      · rw[Cd (xbx g2),xaJ];exact J.v g g1
    |none=>
      rw[pA hk]at hg;rcases xaQ.mp hg with hg |hg
      · rw[Cd (xbx (z_ hk g hg)),xaJ];exact J.v g hg
      · cases xaB.mp hg;refine⟨?_,by simp⟩;show [v]=vals (e,z) L ++ vals (e,z) [((e,z),v)];have e0:vals (e,z) L=[]:=by
          unfold vals;rw[List.filter_eq_nil_iff.mpr fun x hx c=>?_,xcr];obtain⟨g,hg,eg⟩:=J.m x hx;exact z_ hk g hg (eg.trans (xbB c))
        rw[Ce,e0];rfl
  · intro x hx
    cases hk:eG (e,z) G with
    |some p=>
      have o3:=(Cw (v:=v) (n:=M.length) hk).2.2;have:x.1∈G.map (·.1):=by
        rcases xaQ.mp hx with hx |hx
        · obtain⟨g,hg,eg⟩:=J.m x hx;exact xaj.mpr ⟨g,hg,eg⟩
        · cases xaB.mp hx;exact xaj.mpr ⟨_,nG hk,rfl⟩
      rw[<-o3]at this;exact xaj.mp this
    |none=>
      rw[pA hk];rcases xaQ.mp hx with hx |hx
      · obtain⟨g,hg,eg⟩:=J.m x hx;exact⟨g,xcm _ hg,eg⟩
      · cases xaB.mp hx;exact⟨_,xaE _ (xaB.mpr rfl),rfl⟩
  · have:=J.n;rw[xam,xaF]
    cases hk:eG (e,z) G with
    |some p=>
      have o3:=congrArg List.length (Cw (v:=v) (n:=M.length) hk).2.2;rw[xae,xae]at o3;lia
    |none=>
      rw[pA hk,xam,xaF];lia
abbrev Th:=Int×Str×Int
def eZ (x:Th):D:=dO x.1 x.2.1 x.2.2
noncomputable def adds (w s:Int) (x:Th):List (WK×Int):=(eL w s x.1).map fun e=>((e,x.2.1),x.2.2)
theorem GJ {w s:Int}{x:Th}(s0:0<s)(h:s<=w)(hw:w<=8 * s):(eL w s x.1).length<=8:=by
 have:=Yc (t:=x.1) (c:=8) s0 h hw (by decide);unfold eL;rw[xcv,Hx];lia
variable {M:Mm}
section
variable {w s t:Int}
noncomputable def b0 (w s t:Int):Int:=t + 1 + (w - t - 1) % s
def nU (w s t:Int):Nat:=((t + w - b0 w s t) / s + 1).toNat
noncomputable def ul (b s:Int) (n:Nat):List Int:=(List.range n).map fun(k:Nat)=>b + (k:Int) * s
theorem zca {b s:Int}{n:Nat}:ul b s (n + 1)=ul b s n ++ [b + (n:Int) * s]:=by
 unfold ul;rw[xdA,xaM];rfl
theorem T4 {b s:Int}{n:Nat}:(ul b s n).length=n:=by
 unfold ul;rw[xae,xcL]
def uL (w s t:Int):List Int:=ul (b0 w s t) s (nU w s t)
theorem Jj (s0:0<s)(h:s<=w)(j:Nat):b0 w s t + (j:Int) * s<=t + w ↔ j<nU w s t:=by
 have a0:=xbw (w - t - 1) (show s≠0 by lia);have a1:=xbM (w - t - 1) s0;have q:=xez (a:=(j:Int)) (b:=t + w - b0 w s t) s0;have p:0<=(t + w - b0 w s t) / s:=Int.ediv_nonneg (by unfold b0;lia) (by lia);unfold nU;generalize (j:Int) * s=js at q ⊢
 constructor
 ·intro h;have:=q.mpr (by lia);lia
 ·intro h;have:=q.mp (by lia);lia
theorem zda (s0:0<s)(h:s<=w){e:Int}:e∈uL w s t ↔ (e - w) % s=0/\t<e/\e<=t + w:=by
 have a0:=xbw (w - t - 1) (show s≠0 by lia);have a1:=xbM (w - t - 1) s0;have dm:=xeJ (w - t - 1) s;have e2:b0 w s t=w - s * ((w - t - 1) / s):=by unfold b0;lia
 unfold uL ul;rw[xaj]
 constructor
 ·rintro⟨k,hk,rfl⟩;have:=(Jj (t:=t) s0 h k).mpr (xbO.mp hk);have kp:0<=(k:Int) * s:=Int.mul_nonneg (by lia) (by lia);refine⟨?_,by unfold b0;lia,this⟩;have:b0 w s t + (k:Int) * s - w=s * (k - (w - t - 1) / s):=by
   rw[Int.mul_sub,xdc s (k:Int)];lia
  rw[this];exact xeZ _ _
 ·rintro⟨hm,h1,h2⟩;obtain⟨c,hc⟩:=xer hm;have hk:0<=c + (w - t - 1) / s:=by
   rcases xem (c + (w - t - 1) / s) 0 with z |z
   ·exfalso
    have:s * (c + (w - t - 1) / s)<=s * (-1):=xdG (by lia) (by lia);rw[Int.mul_add]at this;unfold b0 at e2;lia
   ·exact z
  have ek:b0 w s t + (((c + (w - t - 1) / s).toNat:Nat):Int) * s=e:=by
   rw[show(((c + (w - t - 1) / s).toNat:Nat):Int)=c + (w - t - 1) / s by lia,xe8,xdc c s,xdc ((w - t - 1) / s) s];lia
  exact⟨(c + (w - t - 1) / s).toNat,xbO.mpr ((Jj (t:=t) s0 h _).mp (by rw[ek];exact h2)),ek⟩
theorem zd7 {b:Int}{n:Nat}(s0:0<s):(ul b s n).Pairwise (· < ·):=by
 unfold ul;rw[xb2];refine xdq.imp fun {a c} h=>?_;have:(a:Int) * s<(c:Int) * s:=xcR (by lia) s0;lia
theorem Vw (s0:0<s):(eL w s t).Pairwise (· < ·):=by
 unfold eL dl;rw[xeK,xb2];refine xdq.imp fun {a c} h=>?_;have:(a:Int) * s<(c:Int) * s:=xcR (by lia) s0;lia
theorem T3 (s0:0<s)(h:s<=w):uL w s t=eL w s t:=by
 have u:=zd7 (b:=b0 w s t) (n:=nU w s t) s0;have e:=Vw (w:=w) (t:=t) s0;have p:=(xck (l₁:=uL w s t) (l₂:=eL w s t) (u.imp fun h=>Int.ne_of_lt h) (e.imp fun h=>Int.ne_of_lt h)).mpr fun x=>by rw[zda s0 h,HN s0 h]
 exact xbL (fun a b _ _ h1 h2=>Int.le_antisymm h1 h2) (u.imp fun h=>Int.le_of_lt h) (e.imp fun h=>Int.le_of_lt h) p
theorem VN (s0:0<s)(h:s<=w)(hn:nU w s t<=900):zJ [.int w,.int s,.int t] M=some (.v (.lst ((eL w s t).map .int)),M):=by
 have wh:∃x,sS 1000 Lh zW [.val (.int w),.val (.int s),.val (.int t),.own [],.val (.int (b0 w s t))] M=some (.nx [.val (.int w),.val (.int s),.val (.int t),.own ((uL w s t).map .int),x],M):=by
  refine L_ (fun o=>∃x,o=some (.nx [.val (.int w),.val (.int s),.val (.int t),.own ((uL w s t).map .int),x],M)) (fun m env N=>∃j:Nat,j + m=nU w s t/\N=M/\env=[.val (.int w),.val (.int s),.val (.int t),.own ((ul (b0 w s t) s j).map .int),.val (.int (b0 w s t + (j:Int) * s))]) ⟨nU w s t,by lia,0,by lia,rfl,by rw[show((0:Nat):Int) * s=0 by lia,Int.add_zero];rfl⟩ ?_;rintro m env N ⟨j,hj,rfl,rfl⟩;have q:=Jj (t:=t) s0 h j;have es:((j + 1:Nat):Int) * s=(j:Int) * s + s:=by rw[Int.natCast_add,xe8];show _ + 1 * s=_;lia
  have dj:=zca (b:=b0 w s t) (s:=s) (n:=j);have ln:=T4 (b:=b0 w s t) (s:=s) (n:=j);refine⟨decide (b0 w s t + (j:Int) * s<=t + w),N,rfl,?_⟩
  by_cases hlt:j<nU w s t
  ·have:=q.mpr hlt;rw[xaK this,xac rfl];have e:zW [.val (.int w),.val (.int s),.val (.int t),.own ((ul (b0 w s t) s j).map .int),.val (.int (b0 w s t + (j:Int) * s))] N=some (.nx [.val (.int w),.val (.int s),.val (.int t),.own ((ul (b0 w s t) s (j + 1)).map .int),.val (.int (b0 w s t + ((j + 1:Nat):Int) * s))],N):=by
    rw[es,show b0 w s t + ((j:Int) * s + s)=b0 w s t + (j:Int) * s + s by lia,dj,xaM];unfold zW;have ll:((ul (b0 w s t) s j).map D.int).length<=1000:=by rw[xae];lia
    generalize b0 w s t + (j:Int) * s=bj;generalize (ul (b0 w s t) s j).map D.int=U at ll ⊢;z_go;rw[xac (by lia)];z_go
   rw[e];exact⟨m - 1,by lia,j + 1,by lia,rfl,rfl⟩
  ·have:¬ b0 w s t + (j:Int) * s<=t + w:=fun z=>hlt (q.mp z);rw[xaH this,xad (by decide)];exact⟨_,by rw[show j=nU w s t by lia];rfl⟩
 obtain⟨x,e⟩:=wh;rw[T3 s0 h]at e;unfold zJ GR;generalize sS 1000 Lh zW=F at e ⊢;unfold b0 at e;z_go;rw[xac s0];z_go;rw[e];z_go
end
theorem Vs {e s:Int}{n:Nat}(s0:0<s):(dl e s n).Nodup:=by
 unfold dl;rw[List.Nodup,xb2];refine xdq.imp fun {a b} h c=>?_;have:(a:Int) * s<(b:Int) * s:=xcR (by lia) s0;lia
theorem Vv {w s t:Int}(s0:0<s):(eL w s t).Nodup:=by
 unfold eL;rw[List.Nodup,xeK];exact List.Pairwise.imp (fun h c=>h c.symm) (Vs (e:=e0 w s t) (n:=nE w s t) s0)
theorem T8 {e v:Int}{z z':Str}:∀{l:List Int},l.Nodup->vals (e,z) (l.map fun e'=>((e',z'),v))=if z'=z/\e∈l then [v] else []
  | [],_=>by simp[vals]
  |a::l,h=>by
    rw[xa6]at h;have ih:=T8 (e:=e) (v:=v) (z:=z) (z':=z') h.2;rw[xak,show((a,z'),v)::l.map (fun e'=>((e',z'),v))=[((a,z'),v)] ++ l.map (fun e'=>((e',z'),v)) from rfl,yH,ih]
    by_cases hz:z'=z
    · subst hz
      by_cases ha:a=e
      · subst ha;rw[Ce,xad fun c=>h.1 c.2,xac ⟨rfl,xaz ..⟩];rfl
      · rw[Cd fun c=>ha (congrArg Prod.fst c)]
        by_cases hm:e∈l
        · rw[xac ⟨rfl,hm⟩,xac ⟨rfl,xal _ hm⟩];rfl
        · rw[xad fun c=>hm c.2,xad fun c=>?_]
          · rfl
          · rcases xaq.mp c.2 with c |c
            · exact ha c.symm
            · exact hm c
    · rw[Cd fun c=>hz (congrArg Prod.snd c),xad fun c=>hz c.1,xad fun c=>hz c.1];rfl
theorem zaP {w s e:Int}{z:Str}(s0:0<s):∀X:List Th,vals (e,z) (X.flatMap (adds w s))=(X.filter fun x=>decide (x.2.1=z/\e∈eL w s x.1)).map (·.2.2)
  | []=>rfl
  |x::X=>by
    rw[xdm,yH,zaP s0 X];unfold adds;rw[T8 (Vv s0)]
    by_cases h:x.2.1=z/\e∈eL w s x.1
    · rw[xac h,xaX (by simpa using h)];rfl
    · rw[xad h,xaW (by simpa using h)];rfl
theorem PJ {f:Str}{is:List Int}(hf:Fd f)(hn:is≠ []):lf f is.reverse=lf f is:=by
  cases is with
  |nil=>exact absurd rfl hn
  |cons a r=>
    rcases hf with rfl |rfl |rfl |rfl
    · exact K1 (a::r)
    · show(((a::r).reverse.length:Nat):Int)=(((a::r).length:Nat):Int);rw[xcv]
    · show cW (a::r).reverse=cW (a::r);obtain⟨h1,h2,h3⟩:=fold_max r a;have hm:r.foldl (fun x y=>if y > x then y else x) a∈a::r:=by
        rcases h1 with h1 |h1
        · exact xaq.mpr (.inl h1)
        · exact xaq.mpr (.inr h1)
      have hb:∀y∈a::r,y<=r.foldl (fun x y=>if y > x then y else x) a:=fun y hy=>by
        rcases xaq.mp hy with rfl |hy
        · exact h2
        · exact h3 y hy
      rw[BR hm hb];exact BR (xbz.mpr hm) fun y hy=>hb y (xbz.mp hy)
    · show dh (a::r).reverse=dh (a::r);obtain⟨h1,h2,h3⟩:=fold_min r a;have hm:r.foldl (fun x y=>if y<x then y else x) a∈a::r:=by
        rcases h1 with h1 |h1
        · exact xaq.mpr (.inl h1)
        · exact xaq.mpr (.inr h1)
      have hb:∀y∈a::r,r.foldl (fun x y=>if y<x then y else x) a<=y:=fun y hy=>by
        rcases xaq.mp hy with rfl |hy
        · exact h2
        · exact h3 y hy
      rw[za hm hb];exact za (xbz.mpr hm) fun y hy=>hb y (xbz.mp hy)
theorem Wd {f:Str}{v:Int}:∀{l:List Int},l≠ []->fo f (l ++ [v])=fZ f (fo f l) (fi f v)
  | [],h=>absurd rfl h
  |a::r,_=>by
    show((r ++ [v]).map (fi f)).foldl (fZ f) (fi f a)=_;rw[xaM,List.foldl_append];rfl
theorem zA {w s:Int}(s0:0<s)(h:s<=w)(hw:w<=8 * s):∀Y:List Th,(Y.flatMap (adds w s)).length<=8 * Y.length:=by
  intro Y
  induction Y with
  |nil=>exact xaf _
  |cons x Y ih=>
    have:=GJ (x:=x) s0 h hw;rw[xdm,xam,xav];unfold adds;rw[xae];unfold adds at ih;lia
noncomputable def iB (lo hi:Int) (x:WK×Int):Bool:=decide (lo<x.1.1) && decide (x.1.1<=hi)
theorem zc8 {M0 M:Mm}{b:Nat}{L:List (WK×Int)}{G:List WG}{e t v lo hi:Int}{z:Str}{a0 a1 a2:Slot}(J:WJ M0 b L G M)(hl:L.length<=1000):∃G' M',zY [a0,a1,a2,.val (.int lo),.val (.int hi),.val (.ref b),.val (.int t),.val (.str z),.val (.int v),.val (.int e)] M=some (.nx [a0,a1,a2,.val (.int lo),.val (.int hi),.val (.ref b),.val (.int t),.val (.str z),.val (.int v),.val (.int e)],M')/\WJ M0 b (L ++ [((e,z),v)].filter (iB lo hi)) G' M':=by
 obtain⟨G',M',h1,h2⟩:=zcP (e:=e) (t:=t) (v:=v) (z:=z) (a0:=a0) (a1:=a1) (a2:=a2) (a3:=.val (.int lo)) (a4:=.val (.int hi)) J hl;unfold zY;generalize fV _ _=F at h1 ⊢
 by_cases hc:lo<e/\e<=hi
 ·refine⟨G',M',?_,?_⟩
  ·z_go;simp only[hc.1,xdO];z_go;simp only[hc.2,xdO];z_go;rw[h1];z_go
  ·rw[xaX (by unfold iB;simp only[xaC,xbp];exact hc)];exact h2
 ·refine⟨G,M,?_,?_⟩
  ·z_go
   by_cases h9:lo<e
   ·have h8:¬ e<=hi:=fun z=>hc ⟨h9,z⟩;simp only[h9,xdO];z_go;simp only[h8,xaY];z_go
   ·simp only[h9,xaY];z_go
  ·rw[xaW (by unfold iB;simp only[xaC,xbp];exact hc),xeu,xaJ];exact J
theorem Ck {M0:Mm}{b:Nat}{t v lo hi:Int}{z:Str}{a0 a1 a2:Slot}:∀(es:List Int) (L:List (WK×Int)) (G:List WG) (M:Mm) (s9:Slot),WJ M0 b L G M->L.length + es.length<=1000->∃G' M' s9',loopS 9 zY (es.map .int) [a0,a1,a2,.val (.int lo),.val (.int hi),.val (.ref b),.val (.int t),.val (.str z),.val (.int v),s9] M=some (.nx [a0,a1,a2,.val (.int lo),.val (.int hi),.val (.ref b),.val (.int t),.val (.str z),.val (.int v),s9'],M')/\WJ M0 b (L ++ (es.map fun e=>((e,z),v)).filter (iB lo hi)) G' M'
  | [],L,G,M,s9,J,_=>⟨G,M,s9,rfl,by rw[xcr,xeu,xaJ];exact J⟩
  |e::es,L,G,M,s9,J,hl=>by
    rw[xav]at hl;obtain⟨G1,M1,h1,J1⟩:=zc8 (e:=e) (t:=t) (v:=v) (lo:=lo) (hi:=hi) (z:=z) (a0:=a0) (a1:=a1) (a2:=a2) J (by lia);have f1:=xbu (iB lo hi) [((e,z),v)];rw[xaF]at f1;obtain⟨G2,M2,s',h2,J2⟩:=Ck es _ G1 M1 (.val (.int e)) J1 (by rw[xam];lia);refine⟨G2,M2,s',?_,by rw[xaD, <-xdV]at J2;exact J2⟩;rw[xak,Eo,xac (by simp)];simp only[xcE,xcd];rw[h1];exact h2
theorem T9 {M0:Mm}{b c:Nat}{w s lo hi:Int}{a1:Slot}{Y:List Th}(hc:M0[c]? =some (.lst (Y.map eZ)))(s0:0<s)(h:s<=w)(hw:w<=8 * s):∀(n k:Nat) (L:List (WK×Int)) (G:List WG) (M:Mm) (s6 s7 s8 s9:Slot),WJ M0 b L G M->k<=Y.length->Y.length<k + n->L.length + 8 * (Y.length - k)<=900->∃G' M' s6' s7' s8' s9',mQ [6,7,8] c zZ n k [.val (.ref c),a1,.val (.tup [.int w,.int s]),.val (.int lo),.val (.int hi),.val (.ref b),s6,s7,s8,s9] M=some (.nx [.val (.ref c),a1,.val (.tup [.int w,.int s]),.val (.int lo),.val (.int hi),.val (.ref b),s6',s7',s8',s9'],M')/\WJ M0 b (L ++ ((Y.drop k).flatMap (adds w s)).filter (iB lo hi)) G' M'
  |0,k,L,G,M,s6,s7,s8,s9,J,h0,h1,_=>by lia
  |n + 1,k,L,G,M,s6,s7,s8,s9,J,h0,hn,hl=>by
    have hM:=J.i.kp c _ hc
    by_cases hk:k<Y.length
    · have ek:Y.drop k=Y[k]::Y.drop (k + 1):=xaZ hk;have ed:(Y.map eZ)[k]? =some (eZ Y[k]):=by rw[xaw,xar hk];rfl
      generalize Y[k]=x at ek ed;obtain⟨t,z,v⟩:=x;have el:=GJ (x:=(t,z,v)) s0 h hw;have el2:(uL w s t).length<=8:=by rw[T3 s0 h];exact el
      obtain⟨G1,M1,s9',h1,J1⟩:=Ck (t:=t) (v:=v) (lo:=lo) (hi:=hi) (z:=z) (a0:=.val (.ref c)) (a1:=a1) (a2:=.val (.tup [.int w,.int s])) (eL w s t) L G M s9 J (by dsimp only at el;lia);have fe:=VN (M:=M) (t:=t) s0 h (by unfold uL at el2;rw[T4]at el2;lia);have b1:zZ [.val (.ref c),a1,.val (.tup [.int w,.int s]),.val (.int lo),.val (.int hi),.val (.ref b),.val (.int t),.val (.str z),.val (.int v),s9] M=some (.nx [.val (.ref c),a1,.val (.tup [.int w,.int s]),.val (.int lo),.val (.int hi),.val (.ref b),.val (.int t),.val (.str z),.val (.int v),s9'],M1):=by
        unfold zZ;generalize zY=B at h1 ⊢;z_go;rw[fe];z_go;rw[h1];z_go
      have f1:=xbu (iB lo hi) ((eL w s t).map fun e=>((e,z),v));rw[xae]at f1;obtain⟨G2,M2,s6',s7',s8',s9'',h2,J2⟩:=T9 (a1:=a1) hc s0 h hw n (k + 1) _ G1 M1 (.val (.int t)) (.val (.str z)) (.val (.int v)) s9' J1 (by lia) (by lia) (by rw[xam];dsimp only at el;lia);refine⟨G2,M2,s6',s7',s8',s9'',?_,by rw[ek,xdm,xdV, <-xaD];exact J2⟩;have ht:xq [6,7,8] (eZ (t,z,v)) [.val (.ref c),a1,.val (.tup [.int w,.int s]),.val (.int lo),.val (.int hi),.val (.ref b),s6,s7,s8,s9]=some [.val (.ref c),a1,.val (.tup [.int w,.int s]),.val (.int lo),.val (.int hi),.val (.ref b),.val (.int t),.val (.str z),.val (.int v),s9]:=rfl;simp only[mQ,hM,ed,ht,b1];exact h2
    · refine⟨G,M,s6,s7,s8,s9,?_,by rw[xcH (by lia),List.flatMap_nil,xeu,xaJ];exact J⟩;simp only[mQ,hM];rw[xbV (by rw[xae];lia)]
def kD (k:WK):D:=.tup [.int k.1,.str k.2]
def pW (a b:WK):Prop:=lA (kD a) (kD b)
def tW:D->WK
 |.tup [.int e,.str z]=>(e,z)
 |_=>(0,"")
theorem Pj {a b:WK}(h:kD a=kD b):a=b:=congrArg tW h
theorem Lk {t t':Int}{z z':Str}:∃b,bK [.int t,.str z] [.int t',.str z']=some b:=by
 simp only[bK]
 repeat' split
 all_goals exact⟨_,rfl⟩
theorem YZ (l:List WK):lD (l.map kD):=by
 refine⟨.inl (xbm.mpr fun d hd=>?_),fun xs ys hx hy=>?_⟩
 ·obtain⟨k, -,rfl⟩:=xaj.mp hd;rfl
 ·obtain⟨k, -,e⟩:=xaj.mp hx;obtain⟨k', -,e'⟩:=xaj.mp hy;rw[<-D.tup.inj e, <-D.tup.inj e'];exact Lk
theorem wX (l:List WK):∃ks:List WK,fH (l.map kD)=some (ks.map kD)/\ks.Perm l/\ks.Pairwise pW:=by
 obtain⟨es,e1,e2,e3⟩:=Sh (YZ l);have ee:es=(es.map tW).map kD:=by
  rw[xbc]
  conv=>lhs;rw[<-xdp es]
  refine xcx fun d hd=>?_;obtain⟨k, -,rfl⟩:=xaj.mp (e2.mem_iff.mp hd);rfl
 refine⟨es.map tW,by rw[<-ee];exact e1,?_,?_⟩
 ·have:=e2.map tW;rw[xbc]at this;rw[show l=l.map (tW ∘ kD) from(xdp l).symm];exact this
 ·rw[ee,xb2]at e3;exact e3
theorem zeM {ks ls:List WK}(h1:ks.Pairwise pW)(h2:ls.Pairwise pW)(n1:ks.Nodup)(n2:ls.Nodup)(h:∀k,k∈ks ↔ k∈ls):ks=ls:=
 xbL (fun _ _ _ _ a b=>Pj (z8 a b)) h1 h2 ((xck n1 n2).mpr h)
theorem zdr {a b:WK}{v v':Int}(h:pW a b)(n:a≠b):lA (.tup [.int a.1,.str a.2,.int v]) (.tup [.int b.1,.str b.2,.int v']):=by
 obtain⟨a1,a2⟩:=a;obtain⟨b1,b2⟩:=b;have h:bK [.int b1,.str b2] [.int a1,.str a2]=some false:=h;show bK [.int b1,.str b2,.int v'] [.int a1,.str a2,.int v]=some false;simp only[bK]at h ⊢
 by_cases e:b1=a1
 ·subst e;rw[xac rfl]at h ⊢
  by_cases e:b2=a2
  ·subst e;exact absurd rfl n
  ·rw[xad e]at h ⊢;exact h
 ·rw[xad e]at h ⊢;exact h
variable {M:Mm}
def keeps (M N:Mm):Prop:=∀(k:Nat) c,M[k]? =some c->N[k]? =some c
theorem VP {f:Str}{is:List Int}{n:Nat}(hf:Fd f)(hn:is≠ [])(hM:M[n]? =some (.lst (is.map .int))):zK [.str f,.ref n] M=some (.v (.int (lf f is)),M):=by
 have wv:vw M (.ref n)=.lst (is.map .int):=yI hM;have hp:0<is.length:=List.length_pos_iff.mpr hn;have e1:eO [.lst (is.map .int)]=some (.int is.length):=by show some (D.int ((is.map D.int).length:Nat))=_;rw[xae]
 have e2:yV [.lst (is.map .int)]=some (.int (cW is)):=by simp only[yV,E3.ints_map,hp,xbG]
 have e3:u5 [.lst (is.map .int)]=some (.int (dh is)):=by simp only[u5,E3.ints_map,hp,xbG]
 have e4:mj [.lst (is.map .int)]=some (.int is.sum):=by simp only[mj,E3.ints_map,xbX]
 have n1:((Str.ofString "sum":Str)=Str.ofString "count")=False:=xct (by x_go);have n2:((Str.ofString "sum":Str)=Str.ofString "most")=False:=xct (by x_go);have n3:((Str.ofString "sum":Str)=Str.ofString "least")=False:=xct (by x_go);have n4:((Str.ofString "most":Str)=Str.ofString "count")=False:=xct (by x_go);have n5:((Str.ofString "least":Str)=Str.ofString "count")=False:=xct (by x_go);have n6:((Str.ofString "least":Str)=Str.ofString "most")=False:=xct (by x_go);unfold zK GX;generalize is.map D.int=ds at *;rcases hf with rfl |rfl |rfl |rfl
 ·rw[show lf "sum" is=is.sum from rfl];z_go;simp only[n1,xaY];z_go;simp only[n2,xaY];z_go;simp only[n3,xaY];z_go;rw[wv,e4];z_go
 ·rw[show lf "count" is=is.length from rfl];z_go;rw[wv]
  try rw[e1]
  z_go
 ·rw[show lf "most" is=cW is from rfl];z_go;simp only[n4,xaY];z_go;rw[wv,e2];z_go
 ·rw[show lf "least" is=dh is from rfl];z_go;simp only[n5,xaY];z_go;simp only[n6,xaY];z_go;rw[wv,e3];z_go
noncomputable def tri (f:Str) (L:List (WK×Int)) (k:WK):D:=.tup [.int k.1,.str k.2,.int (lf f (vals k L))]
theorem zbN {k:WK}{lo hi:Int}{L:List (WK×Int)}(h:lo<k.1/\k.1<=hi):vals k (L.filter (iB lo hi))=vals k L:=by
 unfold vals;rw[xe1];congr 1;refine xd6 fun x _=>?_
 by_cases e:x.1=k
 ·have:iB lo hi x=true:=by unfold iB;rw[e];simp only[xaC,xbp];exact h
  rw[this,xeQ]
 ·rw[xaH e,Bool.false_and]
theorem Ca {k:WK}{L:List (WK×Int)}(h:vals k L≠ []):∃x∈L,x.1=k:=by
 have ne:(L.filter fun x=>decide (x.1=k))≠ []:=fun c=>h (by unfold vals;rw[c];rfl);obtain⟨x,hx⟩:=List.exists_mem_of_ne_nil _ ne;exact⟨x,(xaU.mp hx).1,xbB (xaU.mp hx).2⟩
theorem Xz {G:List WG}{g:WG}(nd:(G.map (·.1)).Nodup)(hg:g∈G):eG g.1 G=some g.2:=by
  cases h:eG g.1 G with
  |none=>exact absurd rfl (z_ h g hg)
  |some p=>
    have:=Jq nd _ (nG h) g hg rfl;rw[<-this]
theorem zdY {n j:Nat}{is:List Nat}{f:E}{b:S}{env:E3.Env}{M1:Mm}(h:f env M=some (.v (.ref j),M1)):Bk n is f b env M=mQ is j b n 0 env M1:=by simp only[Bk,bC,h]
theorem Ib {X:List Th}{w s lo hi:Int}{f:Str}{r0 r1 r2:D}{rs:List D}{c:Nat}(hc:M[c]? =some (.lst (X.map eZ)))(hf:Fd f)(hr:cu rs (-1)=some (.str f))(s0:0<s)(h:s<=w)(hw:w<=8 * s)(hX:X.length<=100):
  ∃(ks:List WK) (M':Mm),ks.Pairwise pW/\ks.Nodup/\(∀k,k∈ks ↔ (∃x∈X.flatMap (adds w s),x.1=k)/\lo<k.1/\k.1<=hi)/\ks.length<=800/\keeps M M'/\
   wA [.ref c,.tup [r0,r1,r2,.tup rs],.tup [.int w,.int s],.int lo,.int hi] M=some (.v (.lst (ks.map (tri f (X.flatMap (adds w s))))),M'):=by
 have j0:WJ M M.length [] [] (M ++ [.dtc []]):=by
  refine⟨⟨?_,(fun g hg=>nomatch hg),.nil,.nil,(fun g hg=>nomatch hg),xaf _,fun k c h=>rZ h⟩,(fun g hg=>nomatch hg),(fun x hx=>nomatch hx),xaf _⟩
  rw[xat (xaf _),xbS];rfl
 obtain⟨G,M1,s6,s7,s8,s9,h1,J⟩:=T9 (b:=M.length) (lo:=lo) (hi:=hi) (a1:=.val (.tup [r0,r1,r2,.tup rs])) hc s0 h hw 1000 0 [] [] _ .un .un .un .un j0 (xa0 _) (by lia) (by rw[xbE];lia);rw[xbD,xdd]at J;have ll:=zA s0 h hw X;generalize hL:X.flatMap (adds w s)=L at J ll;have lf1:(L.filter (iB lo hi)).length<=L.length:=xbu ..;obtain⟨ks,e1,e2,e3⟩:=wX (G.map (·.1));have gl:=J.n;have kl:ks.length<=800:=by rw[e2.length_eq,xae];lia
 have mem:∀k,k∈ks ↔ (∃x∈L,x.1=k)/\lo<k.1/\k.1<=hi:=fun k=>by
  rw[e2.mem_iff,xaj]
  constructor
  ·rintro⟨g,hg,rfl⟩;obtain⟨v1,v2⟩:=J.v g hg;rw[v1]at v2;obtain⟨x,hx,ex⟩:=Ca v2;obtain⟨hx,hi'⟩:=xaU.mp hx;unfold iB at hi';simp only[xaC,xbp]at hi';rw[<-ex];exact⟨⟨x,hx,rfl⟩,hi'⟩
  ·rintro⟨⟨x,hx,rfl⟩,hb⟩;exact J.m x (xaU.mpr ⟨hx,by unfold iB;simp only[xaC,xbp];exact hb⟩)
 have nk:ks.Nodup:=e2.nodup_iff.mpr J.i.kk;refine⟨ks,M1,e3,nk,mem,kl,J.i.kp,?_⟩;have sk:∀env:E3.Env,env[5]? =some (.val (.ref M.length))->sO (aj 5) env M1=some (.v (.lst (ks.map kD)),M1):=fun env he=>by
  have a:cU M1 (.ref M.length)=some (M.length,G.map dE):=by unfold cU;rw[mD J.i.d]
  simp only[sO,bnd,show aj 5 env M1=some (.v (.ref M.length),M1) by simp only[wJ,he,wO],a];rw[show((G.map dE).map fun p=>dR p.1)=(G.map (·.1)).map kD by rw[xbc,xbc];rfl,e1];rfl
 have sk0:=sk [.val (.ref c),.val (.tup [r0,r1,r2,.tup rs]),.val (.tup [.int w,.int s]),.val (.int lo),.val (.int hi),.val (.ref M.length),s6,s7,s8,s9] rfl;have cc:p8 [("_law_known",5),("_law_row_here",1)] (cL (sO (aj 5))) Dj [.val (.ref c),.val (.tup [r0,r1,r2,.tup rs]),.val (.tup [.int w,.int s]),.val (.int lo),.val (.int hi),.val (.ref M.length),s6,s7,s8,s9] M1=some (.v (.lst (ks.map (tri f L))),M1):=by
  rw[zch (M1:=M1) (ds:=ks.map kD) (fun d=>tri f L (tW d)) (by simp only[cL,sk0]) (fun d hd=>?_) (by rw[xae,xaO];lia),xbc]
  ·rfl
  ·obtain⟨k,hk,rfl⟩:=xaj.mp hd;refine⟨.int k.1,.str k.2,rfl,?_⟩;obtain⟨g,hg,rfl⟩:=xaj.mp (e2.mem_iff.mp hk);obtain⟨v1,v2⟩:=J.v g hg;have fl:=VP hf v2 (J.i.c g hg).1;rw[v1,zbN ((mem _).mp hk).2]at fl;have dg:gJ (aj 2) (aX (au (aj 0) (au (aj 1) aq))) [.val (.int g.1.1),.val (.str g.1.2),.val (.ref M.length),.val (.tup [r0,r1,r2,.tup rs])] M1=some (.v (.ref g.2.1),M1):=by
    have a:cU M1 (.ref M.length)=some (M.length,G.map dE):=by unfold cU;rw[mD J.i.d]
    have vW:=Lz (k:=g.1) G;rw[Xz J.i.kk hg]at vW;have et:aX (au (aj 0) (au (aj 1) aq)) [.val (.int g.1.1),.val (.str g.1.2),.val (.ref M.length),.val (.tup [r0,r1,r2,.tup rs])] M1=some (.v (kD g.1),M1):=by unfold kD;z_go
    simp only[gJ,bnd,show aj 2 [.val (.int g.1.1),.val (.str g.1.2),.val (.ref M.length),.val (.tup [r0,r1,r2,.tup rs])] M1=some (.v (.ref M.length),M1) from rfl,et,a,show tupK M1 (kD g.1)=some (kK g.1) from rfl,vW];rfl
   show Dj [.val (.int g.1.1),.val (.str g.1.2),.val (.ref M.length),.val (.tup [r0,r1,r2,.tup rs])] M1=_;unfold Dj tri;generalize gJ (aj 2) (aX (au (aj 0) (au (aj 1) aq)))=DG at dg ⊢;z_go;rw[hr];z_go;rw[dg];z_go;rw[fl];z_go;rfl
 unfold wA G9;generalize zZ=B at h1 ⊢;generalize p8 _ _ _=CC at cc ⊢;z_go;rw[zdn];z_go;rw[zdY (j:=c) (M1:=M ++ [E3.Cl.dtc []]) (by z_go),h1];z_go;rw[cc];z_go
variable {M:Mm}
abbrev vm (w s:Int)(f:Str):List (Str×D):=[(("marks":Str),D.ref 1),("width",.int w),("step",.int s),("fold",.str f),("kept",.ref 2)]
def OB (w s:Int)(f:Str):E3.Cl:=.obj "WindowStation" (vm w s f)
abbrev SG:=List (WK×Int)
def gE (g:WK×Int):List Key×D:=(kK g.1,.int g.2)
structure St (Q3:List D)(w s:Int)(f:Str)(mk:Int)(G:SG)(M:Mm):Prop where
 o:M[0]? =some (OB w s f)
 m:M[1]? =some (.lst [.int mk])
 d:M[2]? =some (.dtc (G.map gE))
 x:M[3]? =some (.lst Q3)
section
variable {Q3:List D}{w s mk:Int}{f:Str}{G:SG}
theorem St.kp {N:Mm}(i:St Q3 w s f mk G M)(h:keeps M N):St Q3 w s f mk G N:=⟨h _ _ i.o,h _ _ i.m,h _ _ i.d,h _ _ i.x⟩
theorem Pq {E:Mm}:keeps M (M ++ E):=fun _ _ h=>rZ h
theorem St.app {E:Mm}(i:St Q3 w s f mk G M):St Q3 w s f mk G (M ++ E):=i.kp Pq
theorem St.put {G':SG}(i:St Q3 w s f mk G M):St Q3 w s f mk G' (M.set 2 (.dtc (G'.map gE))):=⟨fG i.o (by decide),fG i.m (by decide),rJ i.d,fG i.x (by decide)⟩
theorem St.mrk {n:Int}(i:St Q3 w s f mk G M):St Q3 w s f n G (M.set 1 (.lst [.int n])):=⟨fG i.o (by decide),rJ i.m,fG i.d (by decide),fG i.x (by decide)⟩
theorem St.dO {Q:List D}(i:St Q3 w s f mk G M):St Q w s f mk G (M.set 3 (.lst Q)):=⟨fG i.o (by decide),fG i.m (by decide),fG i.d (by decide),rJ i.x⟩
theorem Xu:List.lookup ("marks":Str) (vm w s f)=some (.ref 1):=by kernel_rfl
theorem Xw:List.lookup ("width":Str) (vm w s f)=some (.int w):=by kernel_rfl
theorem Xv:List.lookup ("step":Str) (vm w s f)=some (.int s):=by kernel_rfl
theorem Xq:List.lookup ("fold":Str) (vm w s f)=some (.str f):=by kernel_rfl
theorem Xr:List.lookup ("kept":Str) (vm w s f)=some (.ref 2):=by kernel_rfl
theorem lB {x:Str}(h:(x=="marks" || x=="width" || x=="step" || x=="fold" || x=="kept")=false):List.lookup x (vm w s f)=none:=by
 simp only[Bool.or_eq_false_iff]at h;simp only[List.lookup,h.1.1.1.1,h.1.1.1.2,h.1.1.2,h.1.2,h.2]
theorem pL {k:Nat}{env:E3.Env}(i:St Q3 w s f mk G M)(he:env[k]? =some (.val (.ref 0))):bw "WindowStation" "marks" (aj k) env M=some (.v (.ref 1),M):=zu (k:=0) (by simp only[wJ,he,wO]) i.o Xu
theorem Ig {k:Nat}{env:E3.Env}(i:St Q3 w s f mk G M)(he:env[k]? =some (.val (.ref 0))):bw "WindowStation" "width" (aj k) env M=some (.v (.int w),M):=zu (k:=0) (by simp only[wJ,he,wO]) i.o Xw
theorem Ie {k:Nat}{env:E3.Env}(i:St Q3 w s f mk G M)(he:env[k]? =some (.val (.ref 0))):bw "WindowStation" "step" (aj k) env M=some (.v (.int s),M):=zu (k:=0) (by simp only[wJ,he,wO]) i.o Xv
theorem zx {k:Nat}{env:E3.Env}(i:St Q3 w s f mk G M)(he:env[k]? =some (.val (.ref 0))):bw "WindowStation" "fold" (aj k) env M=some (.v (.str f),M):=zu (k:=0) (by simp only[wJ,he,wO]) i.o Xq
theorem mF {k:Nat}{env:E3.Env}(i:St Q3 w s f mk G M)(he:env[k]? =some (.val (.ref 0))):bw "WindowStation" "kept" (aj k) env M=some (.v (.ref 2),M):=zu (k:=0) (by simp only[wJ,he,wO]) i.o Xr
end
noncomputable def d7 (k:WK):SG->Option Int
 | []=>none
 |g::r=>if g.1=k then some g.2 else d7 k r
noncomputable def eY (k:WK) (v:Int):SG->SG
 | []=>[(k,v)]
 |g::r=>if g.1=k then(g.1,v)::r else g::eY k v r
theorem Gh {k:WK}:∀G:SG,bT (G.map gE) (kK k)=(d7 k G).map .int
  | []=>rfl
  |g::r=>by
    have ih:=Gh (k:=k) r;unfold bT at ih ⊢;rw[xak,xbY]
    by_cases h:g.1=k
    · have:decide ((gE g).1=kK k)=true:=xaK (by rw[<-h];rfl);rw[this];show some (D.int g.2)=((if g.1=k then some g.2 else d7 k r).map D.int)
      rw[xac h];rfl
    · have:decide ((gE g).1=kK k)=false:=xaH fun z=>h (yg z);rw[this];show _=((if g.1=k then some g.2 else d7 k r).map D.int)
      rw[xad h];exact ih
theorem z9 {k:WK}:∀{G:SG},d7 k G=none ↔ k∉G.map (·.1)
  | []=>by simp[d7]
  |g::r=>by
    have ih:=z9 (k:=k) (G:=r);unfold d7;rw[xak,xaq,not_or]
    by_cases h:g.1=k
    · rw[xac h];exact⟨fun z=>(nomatch z),fun z=>absurd h.symm z.1⟩
    · rw[xad h,ih];exact⟨fun z=>⟨fun e=>h e.symm,z⟩,fun z=>z.2⟩
theorem Jd {g:WK×Int}:∀{G:SG},(G.map (·.1)).Nodup->g∈G->d7 g.1 G=some g.2
  | [],_,h=>nomatch h
  |x::r,nd,h=>by
    rw[xak,xa6]at nd;unfold d7;rcases xaq.mp h with rfl |h
    · rw[xac rfl]
    · rw[xad fun e=>nd.1 (by rw[e];exact xaj.mpr ⟨g,h,rfl⟩)];exact Jd nd.2 h
theorem za5 {k:List Key}{v:D}{p:List Key×D}{r:List (List Key×D)}(h:p.1≠k):bY (p::r) k v=p::bY r k v:=by
 unfold bY;rw[xbN,xaH h,Bool.false_or,xak,xad h]
 split<;>rfl
theorem zcS {k:List Key}{v:D}{p:List Key×D}{r:List (List Key×D)}(h:p.1=k)(n:∀q∈r,q.1≠k):bY (p::r) k v=(p.1,v)::r:=by
 unfold bY;rw[xbN,xaK h,Bool.true_or,xac rfl,xak,xac h];congr 1
 conv=>rhs;rw[<-xdp r]
 exact xcx fun q hq=>xad (n q hq)
theorem QM {k:WK}{v:Int}:∀{G:SG},(G.map (·.1)).Nodup->bY (G.map gE) (kK k) (.int v)=(eY k v G).map gE
  | [],_=>rfl
  |g::r,nd=>by
    rw[xak,xa6]at nd;unfold eY;rw[xak]
    by_cases h:g.1=k
    · rw[xac h,xak,zcS (show kK g.1=kK k by rw[h])]
      · rfl
      · intro q hq e;obtain⟨x,hx,rfl⟩:=xaj.mp hq;exact nd.1 (by rw[h, <-yg e];exact xaj.mpr ⟨x,hx,rfl⟩)
    · rw[xad h,xak,za5 (fun e=>h (yg e)),QM nd.2]
theorem QK {k:WK}{v:Int}:∀{G:SG},(eY k v G).map (·.1)=if k∈G.map (·.1) then G.map (·.1) else G.map (·.1) ++ [k]
  | []=>rfl
  |g::r=>by
    have ih:=QK (k:=k) (v:=v) (G:=r);unfold eY
    by_cases h:g.1=k
    · rw[xac h,xak,xak,xac (by rw[<-h];exact xaz ..)]
    · rw[xad h,xak,xak,ih]
      by_cases m:k∈r.map (·.1)
      · rw[xac m,xac (xal _ m)]
      · rw[xad m,xad fun z=>(xaq.mp z).elim (fun e=>h e.symm) m];rfl
theorem QL {k:WK}{v:Int}{g:WK×Int}:∀{G:SG},(G.map (·.1)).Nodup->g∈eY k v G->g=(k,v)\/g∈G/\g.1≠k
  | [],_,h=>.inl (xaB.mp h)
  |x::r,nd,h=>by
    rw[xak,xa6]at nd;unfold eY at h
    by_cases e:x.1=k
    · rw[xac e]at h;rcases xaq.mp h with rfl |h
      · rw[e];exact .inl rfl
      · exact .inr ⟨xal _ h,fun z=>nd.1 (by rw[e, <-z];exact xaj.mpr ⟨g,h,rfl⟩)⟩
    · rw[xad e]at h;rcases xaq.mp h with rfl |h
      · exact .inr ⟨xaz ..,e⟩
      · rcases QL nd.2 h with z |⟨z1,z2⟩
        · exact .inl z
        · exact .inr ⟨xal _ z1,z2⟩
structure GI (f:Str)(L:List (WK×Int))(mk:Int)(G:SG):Prop where
 nd:(G.map (·.1)).Nodup
 v:∀g∈G,mk<g.1.1/\vals g.1 L≠ []/\g.2=fo f (vals g.1 L)
 m:∀x∈L,mk<x.1.1->x.1∈G.map (·.1)
 n:G.length<=L.length
noncomputable def dZ (f:Str) (k:WK) (p:Int) (G:SG):SG:=eY k (match d7 k G with |some x=>fZ f x p |none=>p) G
theorem GI.add {f:Str}{L:List (WK×Int)}{mk:Int}{G:SG}{k:WK}{v:Int}(i:GI f L mk G)(hk:mk<k.1):GI f (L ++ [(k,v)]) mk (dZ f k (fi f v) G):=by
  have kk:=QK (k:=k) (v:=match d7 k G with |some x=>fZ f x (fi f v) |none=>fi f v) (G:=G)
  have in1:k∈(dZ f k (fi f v) G).map (·.1):=by
    unfold dZ;rw[kk]
    split
    · assumption
    · exact xaE _ (xaB.mpr rfl)
  have sub:∀x∈G.map (·.1),x∈(dZ f k (fi f v) G).map (·.1):=fun x hx=>by
    unfold dZ;rw[kk]
    split
    · exact hx
    · exact xcm _ hx
  refine⟨?_,fun g hg=>?_,fun x hx hm=>?_,?_⟩
  · unfold dZ;rw[kk]
    split
    · exact i.nd
    · rename_i nm;rw[xdl];exact⟨i.nd,by simp,fun x hx y hy e=>nm (by rw[<-xaB.mp hy, <-e];exact hx)⟩
  · rcases QL i.nd hg with rfl |⟨g1,g2⟩
    · refine⟨hk,?_,?_⟩
      · rw[yH,Ce];simp
      · show _=fo f (vals k (L ++ [(k,v)]));rw[yH,Ce]
        cases e:d7 k G with
        |none=>
          have nm:=z9.mp e;have v0:vals k L=[]:=by
            cases z:vals k L with
            |nil=>rfl
            |cons a r=>
              obtain⟨x,hx,rfl⟩:=Ca (k:=k) (L:=L) (by rw[z];simp);exact absurd (i.m x hx hk) nm
          rw[v0];rfl
        |some x=>
          have mem:k∈G.map (·.1):=by
            by_cases z:k∈G.map (·.1)
            · exact z
            · rw[z9.mpr z]at e;cases e
          obtain⟨g,hg',rfl⟩:=xaj.mp mem;have:=Jd i.nd hg';rw[e]at this;cases this;obtain⟨-,v1,v2⟩:=i.v g hg';rw[Wd v1, <-v2]
    · obtain⟨v0,v1,v2⟩:=i.v g g1;rw[yH,Cd (xbx g2),xaJ];exact⟨v0,v1,v2⟩
  · rcases xaQ.mp hx with hx |hx
    · exact sub _ (i.m x hx hm)
    · rw[xaB.mp hx];exact in1
  · have hn:=i.n;have hl:=congrArg List.length kk;rw[xae]at hl;unfold dZ;rw[xam,xaF]
    by_cases hm:k∈G.map (·.1)
    · rw[xac hm,xae]at hl;lia
    · rw[xad hm,xam,xae,xaF]at hl;lia
variable {M:Mm}
section
variable {Q3:List D}{w s mk:Int}{f:Str}{G:SG}
theorem zdS {e t v p:Int}{z:Str}{a1 a5:Slot}(i:St Q3 w s f mk G M)(nd:(G.map (·.1)).Nodup)(hG:G.length<=1000):∃M',zV [.val (.ref 0),a1,.val (dO t z v),.val (.int p),.val (.int e),a5] M=some (.nx [.val (.ref 0),a1,.val (dO t z v),.val (.int p),.val (.int e),.val (.ref M.length)],M')/\St Q3 w s f mk (dZ f (e,z) p G) M':=by
  have l3:3<=M.length:=(xai.mp i.d).1;have i1:St Q3 w s f mk G (M ++ [.tpc [.int e,.str z]]):=i.app;have nw:(M ++ [E3.Cl.tpc [.int e,.str z]])[M.length]? =some (.tpc [.int e,.str z]):=by rw[xat (xaf _),xbS];rfl
  refine⟨(M ++ [E3.Cl.tpc [.int e,.str z]]).set 2 (.dtc ((dZ f (e,z) p G).map gE)),?_,i1.put⟩;have tp:kJ (au (aj 4) (au (s2 aR (aj 2) (ak (.int 1))) aq)) [.val (.ref 0),a1,.val (dO t z v),.val (.int p),.val (.int e),a5] M=some (.v (.ref M.length),M ++ [.tpc [.int e,.str z]]):=rfl;generalize hN:M ++ [E3.Cl.tpc [.int e,.str z]]=N at tp nw i1 ⊢;have kk:=mF (k:=0) (env:=[.val (.ref 0),a1,.val (dO t z v),.val (.int p),.val (.int e),.val (.ref M.length)]) i1 rfl;have ff:=zx (k:=0) (env:=[.val (.ref 0),a1,.val (dO t z v),.val (.int p),.val (.int e),.val (.ref M.length)]) i1 rfl;have v5:aj 5 [.val (.ref 0),a1,.val (dO t z v),.val (.int p),.val (.int e),.val (.ref M.length)] N=some (.v (.ref M.length),N):=rfl;have at2:g8 N (.ref 2)=some (2,G.map gE):=mD i1.d;have at2':cU N (.ref 2)=some (2,G.map gE):=by unfold cU;rw[at2]
  have tk:tupK N (.ref M.length)=some (kK (e,z)):=by unfold tupK;simp only[nw];rfl
  have tk2:Ge N (.ref M.length)=some (kK (e,z)):=by unfold Ge;simp only[nw];rfl
  have vg:=Gh (k:=(e,z)) G;have sl:(G.map gE).length<sizeLine:=by rw[xae,xaO];lia
  have dn:sH true (aj 5) (bw "WindowStation" "kept" (aj 0)) [.val (.ref 0),a1,.val (dO t z v),.val (.int p),.val (.int e),.val (.ref M.length)] N=some (.v (.bl (d7 (e,z) G).isSome),N):=by
    simp only[sH,bnd,v5,kk,at2',tk,vg,xd4,xbG]
  have pt:∀(F:E) (y:Int),F [.val (.ref 0),a1,.val (dO t z v),.val (.int p),.val (.int e),.val (.ref M.length)] N=some (.v (.int y),N)->nP (bw "WindowStation" "kept" (aj 0)) (aj 5) F [.val (.ref 0),a1,.val (dO t z v),.val (.int p),.val (.int e),.val (.ref M.length)] N=some (.nx [.val (.ref 0),a1,.val (dO t z v),.val (.int p),.val (.int e),.val (.ref M.length)],N.set 2 (.dtc ((eY (e,z) y G).map gE))):=fun F y hF=>by
    simp only[nP,bC,hF,kk,v5,at2,tk2,xac sl,QM nd]
  unfold zV;unfold dZ
  cases hl:d7 (e,z) G with
  |some x=>
    rw[hl]at dn vg
    change _=some (Res.v (D.bl true),N) at dn
    have dg:gJ (bw "WindowStation" "kept" (aj 0)) (aj 5) [.val (.ref 0),a1,.val (dO t z v),.val (.int p),.val (.int e),.val (.ref M.length)] N=some (.v (.int x),N):=by
      simp only[gJ,bnd,kk,v5,at2',tk,vg];rfl
    have me := V0 (M := N) (f := f) (a := x) (b := p);have p1 := pt (cj wB (au (bw "WindowStation" "fold" (aj 0)) (au (gJ (bw "WindowStation" "kept" (aj 0)) (aj 5)) (au (aj 3) aq)))) (fZ f x p) (by
      generalize gJ (bw "WindowStation" "kept" (aj 0)) (aj 5)=DG at dg ⊢;generalize bw "WindowStation" "fold" (aj 0)=FF at ff ⊢;z_go;rw[ff];z_go;rw[dg];z_go;rw[me];z_go)
    generalize nP (bw "WindowStation" "kept" (aj 0)) (aj 5) (cj wB _)=P1 at p1 ⊢;generalize nP _ _ _=P2;generalize sH true _ _=DI at dn ⊢;generalize kJ _=TP at tp ⊢;unfold dO at *;z_go;rw[tp];z_go;rw[dn];z_go;rw[p1];z_go
  |none=>
    rw[hl]at dn
    change _=some (Res.v (D.bl false),N) at dn
    have p2:=pt (aj 3) p rfl;generalize nP (bw "WindowStation" "kept" (aj 0)) (aj 5) (aj 3)=P2 at p2 ⊢;generalize nP _ _ _=P1;generalize sH true _ _=DI at dn ⊢;generalize kJ _=TP at tp ⊢;unfold dO at *;z_go;rw[tp];z_go;rw[dn];z_go;rw[p2];z_go
theorem Tj {t v:Int}{z:Str}{a1:Slot}:∀(es:List Int) (L:List (WK×Int)) (G:SG) (M:Mm) (s4 s5:Slot),St Q3 w s f mk G M->GI f L mk G->(∀e∈es,mk<e)->L.length + es.length<=1000->∃G' M' s4' s5',loopS 4 zV (es.map .int) [.val (.ref 0),a1,.val (dO t z v),.val (.int (fi f v)),s4,s5] M=some (.nx [.val (.ref 0),a1,.val (dO t z v),.val (.int (fi f v)),s4',s5'],M')/\St Q3 w s f mk G' M'/\GI f (L ++ es.map fun e=>((e,z),v)) mk G'
  | [],L,G,M,s4,s5,i,g,_,_=>⟨G,M,s4,s5,rfl,i,by rw[xcr,xaJ];exact g⟩
  |e::es,L,G,M,s4,s5,i,g,he,hl=>by
    rw[xav]at hl;have gn:=g.n;obtain⟨M1,h1,i1⟩:=zdS (e:=e) (t:=t) (v:=v) (p:=fi f v) (z:=z) (a1:=a1) (a5:=s5) i g.nd (by lia);have g1:=g.add (k:=(e,z)) (v:=v) (he e (xaz ..));obtain⟨G2,M2,s4',s5',h2,i2,g2⟩:=Tj (t:=t) (v:=v) (z:=z) (a1:=a1) es _ _ M1 (.val (.int e)) (.val (.ref M.length)) i1 g1 (fun x hx=>he x (xal _ hx)) (by rw[xam,xaF];lia);refine⟨G2,M2,s4',s5',?_,i2,by rw[xaD]at g2;exact g2⟩;rw[xak,Eo,xac (by simp)];simp only[xcE,xcd];rw[h1];exact h2
theorem V5 {L:List (WK×Int)}{x:Th}{a1:D}(i:St Q3 w s f mk G M)(g:GI f L mk G)(s0:0<s)(h:s<=w)(hw:w<=8 * s)(hx:mk<=x.1)(hl:L.length<=900):∃G' M',wu [.ref 0,a1,eZ x] M=some (.v (.lst []),M')/\St Q3 w s f mk G' M'/\GI f (L ++ adds w s x) mk G':=by
 obtain⟨t,z,v⟩:=x;have el:=GJ (x:=(t,z,v)) s0 h hw;have hx:mk<=t:=hx;obtain⟨G',M',s4,s5,h1,i1,g1⟩:=Tj (t:=t) (v:=v) (z:=z) (a1:=.val a1) (eL w s t) L G M .un .un i g (fun e he=>by have:=((HN s0 h).mp he).2.1;lia) (by dsimp only at el;lia);refine⟨G',M',?_,i1,g1⟩;have fe:=VG (M:=M) (t:=t) s0 h (by unfold eL at el;rw[xcv,Hx]at el;dsimp only at el;lia);have fr:=VH (M:=M) (f:=f) (v:=v);have f1:=zx (k:=0) (env:=[.val (.ref 0),.val a1,.val (dO t z v),.un,.un,.un]) i rfl;have f2:=Ig (k:=0) (env:=[.val (.ref 0),.val a1,.val (dO t z v),.val (.int (fi f v)),.un,.un]) i rfl;have f3:=Ie (k:=0) (env:=[.val (.ref 0),.val a1,.val (dO t z v),.val (.int (fi f v)),.un,.un]) i rfl;show wu [.ref 0,a1,dO t z v] M=_;unfold wu CN;generalize zV=B at h1 ⊢;generalize bw "WindowStation" "fold" (aj 0)=F1 at f1 ⊢;generalize bw "WindowStation" "width" (aj 0)=F2 at f2 ⊢;generalize bw "WindowStation" "step" (aj 0)=F3 at f3 ⊢;unfold dO at *;z_go;rw[f1];z_go;rw[fr];z_go;rw[f2];z_go;rw[f3];z_go;rw[fe];z_go;rw[h1];z_go
end
variable {M:Mm}
theorem set_same {k:Nat}{c:E3.Cl}(h:M[k]? =some c):M.set k c=M:=by
 refine xdi fun i=>?_;rw[xbj]
 split
 ·rename_i e;subst e;rw[xac (xai.mp h).1,h]
 ·rfl
section
variable {Q3:List D}{w s mk:Int}{f:Str}{G:SG}
theorem Tn {ff F:E}{env:E3.Env}{r:D}(i:St Q3 w s f mk G M)(h1:ff env M=some (.v (.ref 2),M))(h2:F env M=some (.v r,M.set 2 (.dtf (G.map gE)))):lJ ff F env M=some (.v r,M):=by
 have a:pI (M.set 2 (.dtf (G.map gE))) (.ref 2)=some (2,G.map gE):=HJ (rJ i.d);simp only[lJ,h1,mD i.d,bnd,h2,a];rw[List.set_set,set_same i.d]
theorem Om {α β:Type}{p:α->Bool}{g:α->β}:∀l:List α,(l.filterMap fun x=>if p x=true then some (g x) else none)=(l.filter p).map g
  | []=>rfl
  |x::l=>by
    have ih:=Om (p:=p) (g:=g) l
    cases h:p x with
    |true=>rw[List.filterMap_cons_some (b:=g x) (by rw[h];rfl),xaX h,xak,ih]
    |false=>rw[List.filterMap_cons_none (by rw[h];rfl),xaW (by rw[h];decide),ih]
def le1 (low:Int)(g:WK×Int):Bool:=decide (g.1.1<=low)
theorem U_ {low:Int}(i:St Q3 w s f mk G M)(hG:G.length<=1000):
    lJ (bw "WindowStation" "kept" (aj 0)) (gH [("low",1)] (h_ (sI (bw "WindowStation" "kept" (aj 0)))) vf Dh) [.val (.ref 0),.val (.int low),.un,.un,.un] M=some (.v (.lst (((G.filter (le1 low)).map (·.1)).map kD)),M):=by
  have fk:=mF (k:=0) (env:=[.val (.ref 0),.val (.int low),.un,.un,.un]) i rfl;refine Tn i fk ?_;have h1:=Pu fk i.d;have fr:(M.set 2 (.dtf (G.map gE)))[2]? =some (.dtf (G.map gE)):=rJ i.d;have h2:=Wv h1 fr;rw[QT,h2,QW];generalize M.set 2 (E3.Cl.dtf (G.map gE))=N;rw[Ht (M:=N) (fun d=>if decide ((tW d).1<=low)=true then some d else none) ((G.map gE).map fun p=>dR p.1) [] (fun d hd=>?_) (by rw[xae,xae,xaO,xbE];lia),QX,xbD,xbc,xeX]
  · refine congrArg (fun l=>some (Res.v (D.lst l),N)) ?_;rw[xbc, <-Om];rfl
  · obtain⟨p,hp,rfl⟩:=xaj.mp hd;obtain⟨g,hg,rfl⟩:=xaj.mp hp;have q1:vf [.val (dR (gE g).1),.val (.int low)] N=some (.v (.bl (decide (g.1.1<=low))),N):=by
      show vf [.val (.tup [.int g.1.1,.str g.1.2]),.val (.int low)] N=_;unfold vf;z_go
    have q2:Dh [.val (dR (gE g).1),.val (.int low)] N=some (.v (dR (gE g).1),N):=rfl;show match (if decide (g.1.1<=low)=true then some (dR (gE g).1) else none) with
      |some y=>vf [.val (dR (gE g).1),.val (.int low)] N=some (.v (.bl true),N)/\Dh [.val (dR (gE g).1),.val (.int low)] N=some (.v y,N)
      |none=>vf [.val (dR (gE g).1),.val (.int low)] N=some (.v (.bl false),N)
    cases hb:decide (g.1.1<=low) with
    |true=>
      rw[hb]at q1;exact⟨q1,q2⟩
    |false=>
      rw[hb]at q1;exact q1
noncomputable def tw (G:SG) (k:WK):D:=.tup [.int (k.1 - 1),.str k.2,.int ((d7 k G).getD 0)]
theorem zbZ {ks:List WK}{low:Int}(i:St Q3 w s f mk G M)(hk:∀k∈ks,k∈G.map (·.1))(hl:ks.length<=1000):fu (ak (.bl true)) Dg [.val (.ref 0)] (ks.map kD) [] M=some (ks.map (tw G),M):=by
 rw[comp_map (fun d=>tw G (tW d)) (ks.map kD) (fun d hd=>?_) (by rw[xae,xaO];lia),xbc]
 ·rfl
 ·obtain⟨k,hk',rfl⟩:=xaj.mp hd;have vg:=Gh (k:=k) G;obtain⟨x,hx⟩:∃x,d7 k G=some x:=by
   cases e:d7 k G with
   |some x=>exact⟨x,rfl⟩
   |none=>exact absurd (hk k hk') (z9.mp e)
  rw[hx]at vg;have fk:=mF (k:=1) (env:=[.val (kD k),.val (.ref 0)]) i rfl;have at2:cU M (.ref 2)=some (2,G.map gE):=by unfold cU;rw[mD i.d]
  have dg:gJ (bw "WindowStation" "kept" (aj 1)) (aj 0) [.val (kD k),.val (.ref 0)] M=some (.v (.int x),M):=by
   simp only[gJ,bnd,fk,show aj 0 [.val (kD k),.val (.ref 0)] M=some (.v (kD k),M) from rfl,at2,show tupK M (kD k)=some (kK k) from rfl,vg];rfl
  show Dg [.val (kD k),.val (.ref 0)] M=some (.v (tw G k),M);unfold Dg tw;rw[hx];generalize gJ _ _=DG at dg ⊢;unfold kD at *;z_go;rw[dg];z_go
theorem NZ {k:WK}:∀G:SG,xR (G.map gE) (kK k)=(G.filter fun g=>decide (g.1≠k)).map gE
  | []=>rfl
  |g::r=>by
    have ih:=NZ (k:=k) r;unfold xR at ih ⊢;rw[xak]
    by_cases h:g.1=k
    · rw[xaW (by show ¬ decide (kK g.1≠kK k)=true;rw[h];simp),xaW (by simpa using h),ih]
    · rw[xaX (by show decide (kK g.1≠kK k)=true;exact xaK fun z=>h (yg z)),xaX (by simpa using h),xak,ih]
theorem Qq {a1 a2 a3:Slot}:∀(ks:List WK) (G:SG) (M:Mm) (s4:Slot),St Q3 w s f mk G M->(∀k∈ks,k∈G.map (·.1))->ks.Nodup->∃M' s4',loopS 4 zU (ks.map kD) [.val (.ref 0),a1,a2,a3,s4] M=some (.nx [.val (.ref 0),a1,a2,a3,s4'],M')/\St Q3 w s f mk (G.filter fun g=>decide (g.1∉ks)) M'
  | [],G,M,s4,i,_,_=>⟨M,s4,rfl,by rw[xeT.mpr fun g _=>by simp];exact i⟩
  |k::ks,G,M,s4,i,hk,nd=>by
    rw[xa6]at nd;have vg:=Gh (k:=k) G;obtain⟨x,hx⟩:∃x,d7 k G=some x:=by
      cases e:d7 k G with
      |some x=>exact⟨x,rfl⟩
      |none=>exact absurd (hk k (xaz ..)) (z9.mp e)
    rw [hx] at vg;have i1 : St Q3 w s f mk (G.filter fun g => decide (g.1 ≠ k)) (M.set 2 (.dtc ((G.filter fun g => decide (g.1 ≠ k)).map gE))) := i.put;obtain ⟨M', s4', h2, i2⟩ := Qq (a1 := a1) (a2 := a2) (a3 := a3) ks _ _ (.val (kD k)) i1 (fun x hx=>by
      obtain⟨g,hg,rfl⟩:=xaj.mp (hk x (xal _ hx));exact xaj.mpr ⟨g,xaU.mpr ⟨hg,xaK fun z=>nd.1 (by rw[<-z];exact hx)⟩,rfl⟩) nd.2
    refine⟨M',s4',?_,?_⟩
    · have fk:=mF (k:=0) (env:=[.val (.ref 0),a1,a2,a3,.val (kD k)]) i rfl;have pp:yw (bw "WindowStation" "kept" (aj 0)) (aj 4) [.val (.ref 0),a1,a2,a3,.val (kD k)] M=some (.v (.int x),M.set 2 (.dtc ((G.filter fun g=>decide (g.1≠k)).map gE))):=by
        simp only[yw,bnd,fk,mD i.d,show aj 4 [.val (.ref 0),a1,a2,a3,.val (kD k)] M=some (.v (kD k),M) from rfl,show tupK M (kD k)=some (kK k) from rfl,vg,NZ];rfl
      rw[xak,Eo,xac (by simp)];simp only[xcE,xcd];have b1:zU [.val (.ref 0),a1,a2,a3,.val (kD k)] M=some (.nx [.val (.ref 0),a1,a2,a3,.val (kD k)],M.set 2 (.dtc ((G.filter fun g=>decide (g.1≠k)).map gE))):=by
        unfold zU;generalize yw _ _=PP at pp ⊢;z_go;rw[pp];z_go
      rw[b1];exact h2
    · rw [xe1] at i2;rw [show(G.filter fun g=>decide (g.1∉k::ks))=G.filter fun g=>(decide (g.1∉ks) && decide (g.1≠k)) from xd6 fun g _=>by
        rw[<-Bool.decide_and];exact decide_eq_decide.mpr (by rw[xaq,not_or];exact and_comm)]
      exact i2
theorem VF {ks:List WK}{low:Int}(i:St Q3 w s f mk G M)(nd:(G.map (·.1)).Nodup)(hG:G.length<=1000)(hs:ks.Pairwise pW)(hp:ks.Perm ((G.filter (le1 low)).map (·.1))):
  ∃M',xU [.ref 0,.int low] M=some (.v (.lst (ks.map (tw G))),M')/\St Q3 w s f mk (G.filter fun g=>decide (low<g.1.1)) M':=by
 have nk:ks.Nodup:=hp.nodup_iff.mpr (xda (xcY.map _) nd);have sub:∀k∈ks,k∈G.map (·.1):=fun k hk=>by
  obtain⟨g,hg,rfl⟩:=xaj.mp (hp.mem_iff.mp hk);exact xaj.mpr ⟨g,(xaU.mp hg).1,rfl⟩
 have kl:ks.length<=1000:=by
  have:=xbu (le1 low) G;rw[hp.length_eq,xae];lia
 have srt:fH (((G.filter (le1 low)).map (·.1)).map kD)=some (ks.map kD):=by
  obtain⟨ls,e1,e2,e3⟩:=wX ((G.filter (le1 low)).map (·.1));rw[e1,xbL (fun _ _ _ _ a b=>Pj (z8 a b)) e3 hs (e2.trans hp.symm)]
 have cc:=U_ (low:=low) i hG;have tc:=zbZ (low:=low) i sub kl;obtain⟨M',s4,pl,i'⟩:=Qq (a1:=.val (.int low)) (a2:=.val (.lst (ks.map kD))) (a3:=.val (.lst (ks.map (tw G)))) ks G M .un i sub nk;refine⟨M',?_,?_⟩
 ·unfold xU CG;generalize lJ _ _=TH at cc ⊢;generalize zU=B at pl ⊢;generalize ks.map (tw G)=T at tc pl ⊢;z_go;rw[cc];z_go;rw[QZ srt];generalize ks.map kD=KD at tc pl ⊢;z_go;rw[tc];z_go;rw[pl];z_go
 ·rw[show(G.filter fun g=>decide (low<g.1.1))=G.filter fun g=>decide (g.1∉ks) from xd6 fun g hg=>decide_eq_decide.mpr ?_]
  ·exact i'
  ·rw[hp.mem_iff,xaj]
   constructor
   ·rintro h ⟨g',hg',e⟩;have:=xbB (xaU.mp hg').2;rw[e]at this;lia
   ·intro h;rcases xem low g.1.1 with z |z
    ·exact z
    ·exact absurd ⟨g,xaU.mpr ⟨hg,xaK z⟩,rfl⟩ h
end
variable {M:Mm}
section
variable {Q3:List D}{w s mk:Int}{f:Str}{G:SG}
theorem Oh (i:St Q3 w s f mk G M):pO [.ref 0] M=some (.v (.int mk),M):=by
 have fm:=pL (k:=0) (env:=[.val (.ref 0)]) i rfl;have wv:vw M (.ref 1)=.lst [.int mk]:=yI i.m;unfold pO CJ;generalize bw "WindowStation" "marks" (aj 0)=F at fm ⊢;z_go;rw[fm];z_go;rw[wv,show u5 [.lst [.int mk]]=some (.int mk) from rfl];z_go
noncomputable def yd (G:SG) (k:WK):D:=.tup [.str "thing",.int (k.1 - 1),.str k.2,.int ((d7 k G).getD 0)]
theorem V4 {ks:List WK}{low:Int}(i:St Q3 w s f mk G M)(nd:(G.map (·.1)).Nodup)(hG:G.length<=1000)(hs:ks.Pairwise pW)(hp:ks.Perm ((G.filter (le1 low)).map (·.1))):
  ∃M',wz [.ref 0,.int low] M=some (.v (.lst (ks.map (yd G) ++ [.tup [.str "mark",.int low]])),M')/\St Q3 w s f mk (G.filter fun g=>decide (low<g.1.1)) M':=by
 obtain⟨M',e,i'⟩:=VF i nd hG hs hp;refine⟨M',?_,i'⟩;have kl:ks.length<=1000:=by
  have:=xbu (le1 low) G;rw[hp.length_eq,xae];lia
 have m:bH "WindowStation" "close_at" xU (aj 0) (au (aj 1) aq) [.val (.ref 0),.val (.int low)] M=some (.v (.lst (ks.map (tw G))),M'):=lC (k:=0) (ds:=[.int low]) rfl i.o (lB (by x_go)) (by z_go) e;have cm:fu (ak (.bl true)) HS [] (ks.map (tw G)) [] M'=some (ks.map (yd G),M'):=by
  rw[comp_map (fun d=>match d with |.tup [a,b,c]=>.tup [.str "thing",a,b,c] |d=>d) (ks.map (tw G)) (fun d hd=>?_) (by rw[xae,xaO];lia),xbc]
  ·rfl
  ·obtain⟨k, -,rfl⟩:=xaj.mp hd;unfold HS tw;z_go;unfold Dp Hg;z_go
 have il:(ks.map (yd G)).length<=1000:=by rw[xae];exact kl
 unfold wz CP;generalize bH _ _ _ _ _=F at m ⊢;generalize ks.map (tw G)=T at m cm ⊢;generalize ks.map (yd G)=I at cm il ⊢;z_go;rw[m];z_go;rw[cm];z_go;rw[xac (by lia)];z_go
noncomputable def gF (f:Str) (L:List (WK×Int)) (k:WK):D:=.tup [.str "thing",.int (k.1 - 1),.str k.2,.int (lf f (vals k L))]
theorem GI.look {L:List (WK×Int)}{k:WK}(hf:Fd f)(g:GI f L mk G)(h:k∈G.map (·.1)):d7 k G=some (lf f (vals k L)):=by
 obtain⟨x,hx,rfl⟩:=xaj.mp h;obtain⟨-,v1,v2⟩:=g.v x hx;rw[Jd g.nd hx,v2,Oq hf v1,PJ hf v1]
theorem GI.later {L:List (WK×Int)}{t:Int}(g:GI f L mk G)(h:mk<=t):GI f L t (G.filter fun g=>decide (t<g.1.1)):=by
 refine⟨xda (xcY.map _) g.nd,fun x hx=>?_,fun x hx hm=>?_,xay (xbu ..) g.n⟩
 ·obtain⟨hx,ht⟩:=xaU.mp hx;obtain⟨-,v⟩:=g.v x hx;exact⟨xbB ht,v⟩
 ·obtain⟨y,hy,e⟩:=xaj.mp (g.m x hx (by lia));exact xaj.mpr ⟨y,xaU.mpr ⟨hy,xaK (by rw[e];exact hm)⟩,e⟩
theorem GI.perm {L:List (WK×Int)}{t:Int}{ks:List WK}(g:GI f L mk G)(n:ks.Nodup)(hm:∀k,k∈ks ↔ (∃x∈L,x.1=k)/\mk<k.1/\k.1<=t):ks.Perm ((G.filter (le1 t)).map (·.1)):=by
 refine(xck n (xda (xcY.map _) g.nd)).mpr fun k=>?_;rw[hm,xaj]
 constructor
 ·rintro⟨⟨x,hx,rfl⟩,h1,h2⟩;obtain⟨y,hy,e⟩:=xaj.mp (g.m x hx h1);exact⟨y,xaU.mpr ⟨hy,xaK (by rw[e];exact h2)⟩,e⟩
 ·rintro⟨y,hy,rfl⟩;obtain⟨hy,ht⟩:=xaU.mp hy;obtain⟨h1,v1, -⟩:=g.v y hy;obtain⟨x,hx,e⟩:=Ca v1;exact⟨⟨x,hx,e⟩,h1,xbB ht⟩
theorem Oi {L:List (WK×Int)}{t:Int}{ks:List WK}(hf:Fd f)(i:St Q3 w s f mk G M)(g:GI f L mk G)(hL:L.length<=900)(ht:mk<=t)(hs:ks.Pairwise pW)(n:ks.Nodup)(hm:∀k,k∈ks ↔ (∃x∈L,x.1=k)/\mk<k.1/\k.1<=t):
  ∃G' M',g_ [.ref 0,.int 0,.tup [.str "mark",.int t]] M=some (.v (.lst (ks.map (gF f L) ++ if mk<t then [.tup [.str "mark",.int t]] else [])),M')/\St Q3 w s f t G' M'/\GI f L t G':=by
 have gn:=g.n;have tm:∃G' M',wj [.ref 0,.int 0,.int t] M=some (.v (.lst (ks.map (gF f L) ++ if mk<t then [.tup [.str "mark",.int t]] else [])),M')/\St Q3 w s f t G' M'/\GI f L t G':=by
  have fm:=pL (k:=0) (env:=[.val (.ref 0),.val (.int 0),.val (.int t),.un,.un]) i rfl;have wv:vw M (.ref 1)=.lst [.int mk]:=yI i.m;have ix:cu [D.int mk] 0=some (.int mk):=rfl
  by_cases he:mk=t
  ·subst he;have k0:ks=[]:=List.eq_nil_iff_forall_not_mem.mpr fun k hk=>by have:=((hm k).mp hk).2;lia
   refine⟨G,M,?_,i,g⟩;rw[k0,xad (by lia)];unfold wj yX;generalize bw "WindowStation" "marks" (aj 0)=F at fm ⊢;z_go;rw[fm];z_go;rw[wv];z_go;rw[xac (xeA _)];z_go
  ·have i1:St Q3 w s f t G (M.set 1 (.lst [.int t])):=i.mrk;have hp:=g.perm n hm;obtain⟨M',e,i'⟩:=V4 i1 g.nd (by lia) hs hp;have ei:ks.map (yd G)=ks.map (gF f L):=xcx fun k hk=>by
    obtain⟨y,hy,ey⟩:=xaj.mp (hp.mem_iff.mp hk);unfold yd gF;rw[g.look hf (xaj.mpr ⟨y,(xaU.mp hy).1,ey⟩)];rfl
   rw[ei]at e;refine⟨_,M',?_,i',g.later ht⟩;rw[xac (by lia)];have b1:bH "WindowStation" "low" pO (aj 0) aq [.val (.ref 0),.val (.int 0),.val (.int t),.un,.un] M=some (.v (.int mk),M):=lC (k:=0) (ds:=[]) rfl i.o (lB (by x_go)) rfl (Oh i);have b2:bH "WindowStation" "low" pO (aj 0) aq [.val (.ref 0),.val (.int 0),.val (.int t),.val (.int mk),.un] (M.set 1 (.lst [.int t]))=some (.v (.int t),M.set 1 (.lst [.int t])):=lC (k:=0) (ds:=[]) rfl i1.o (lB (by x_go)) rfl (Oh i1);have si:wU (bw "WindowStation" "marks" (aj 0)) (aj 1) (aj 2) [.val (.ref 0),.val (.int 0),.val (.int t),.val (.int mk),.un] M=some (.nx [.val (.ref 0),.val (.int 0),.val (.int t),.val (.int mk),.un],M.set 1 (.lst [.int t])):=by
    rw[Ww (k:=1) (i:=0) (x:=.int t) (M1:=M) (M2:=M) (M3:=M) (ds:=[.int mk]) (j:=0) rfl (pL (k:=0) i rfl) rfl i.m rfl];rfl
   have b3:bH "WindowStation" "tell_low" wz (aj 0) (au (aj 4) aq) [.val (.ref 0),.val (.int 0),.val (.int t),.val (.int mk),.val (.int t)] (M.set 1 (.lst [.int t]))=_:=lC (k:=0) (ds:=[.int t]) rfl i1.o (lB (by x_go)) (by z_go) e;unfold wj yX;generalize M.set 1 (E3.Cl.lst [.int t])=M1 at b2 b3 si ⊢;generalize wU (bw "WindowStation" "marks" (aj 0)) (aj 1) (aj 2)=F3 at si ⊢;generalize bw "WindowStation" "marks" (aj 0)=F at fm ⊢;generalize bH "WindowStation" "low" pO (aj 0) aq=F2 at b1 b2 ⊢;generalize bH "WindowStation" "tell_low" wz (aj 0) (au (aj 4) aq)=F4 at b3 ⊢;generalize ks.map (gF f L) ++ [.tup [.str "mark",.int t]]=R at b3 ⊢;z_go;rw[fm];z_go;rw[wv];z_go;rw[xad (by lia)];z_go;rw[b1];z_go;rw[si];z_go;rw[b2];z_go;rw[xad (fun z=>he z.symm)];z_go;rw[b3];z_go
 obtain⟨G',M',e,i',g'⟩:=tm;refine⟨G',M',?_,i',g'⟩;have m:bH "WindowStation" "take_mark" wj (aj 0) (au (aj 1) (au (s2 aR (aj 2) (ak (.int 1))) aq)) [.val (.ref 0),.val (.int 0),.val (.tup [.str "mark",.int t])] M=_:=lC (k:=0) (ds:=[.int 0,.int t]) rfl i.o (lB (by x_go)) (by z_go) e;unfold g_ yW;generalize bH _ _ _ _ (au (aj 1) (au (s2 aR (aj 2) (ak (.int 1))) aq))=F at m ⊢;generalize bH _ _ _ _ _=F2;generalize (ks.map (gF f L) ++ if mk<t then [D.tup [.str "mark",.int t]] else [])=R at m ⊢
 z_go;rw[m];z_go
theorem zeL {a b c d:D}:KJ (.tup [a,b,c,d]) (some 1) none=some (.tup [b,c,d]):=rfl
def nu (x:Th):D:=.tup [.str "thing",.int x.1,.str x.2.1,.int x.2.2]
theorem V3 {L:List (WK×Int)}{x:Th}(i:St Q3 w s f mk G M)(g:GI f L mk G)(s0:0<s)(h:s<=w)(hw:w<=8 * s)(hx:mk<=x.1)(hl:L.length<=900):∃G' M',g_ [.ref 0,.int 0,nu x] M=some (.v (.lst []),M')/\St Q3 w s f mk G' M'/\GI f (L ++ adds w s x) mk G':=by
 obtain⟨G',M',e,i',g'⟩:=V5 (a1:=.int 0) i g s0 h hw hx hl;refine⟨G',M',?_,i',g'⟩;obtain⟨t,z,v⟩:=x;have k1:((Str.ofString "thing":Str)=Str.ofString "mark")=False:=xct (by x_go);have m:bH "WindowStation" "take_thing" wu (aj 0) (au (aj 1) (au (kI (aj 2) (mU (ak (.int 1))) sE) aq)) [.val (.ref 0),.val (.int 0),.val (.tup [.str "thing",.int t,.str z,.int v])] M=_:=lC (k:=0) (ds:=[.int 0,eZ (t,z,v)]) rfl i.o (lB (by x_go)) rfl e;show g_ [.ref 0,.int 0,.tup [.str "thing",.int t,.str z,.int v]] M=_;unfold g_ yW;generalize bH _ "take_thing" _ _ _=F at m ⊢;generalize bH _ _ _ _ _=F2;z_go;simp only[k1,xaY];z_go;rw[m];z_go
end
variable {M:Mm}
theorem Nj {e:E}{env:E3.Env}(F:List Key×D->D):∀(ps:List (List Key×D)) (acc:List D),(∀p∈ps,e (.val (dR p.1)::.val p.2::env) M=some (.v (F p),M))->acc.length + ps.length<sizeLine->CZ e env ps acc M=some (acc ++ ps.map F,M)
  | [],acc,_,_=>by simp[CZ,mC]
  |p::ps,acc,h,hl=>by
    rw[xav]at hl;have ih:=Nj F ps (acc ++ [F p]) (fun x hx=>h x (xal _ hx)) (by rw[xam,xaF];lia);simp only[CZ]at ih ⊢;simp only[xak,mC,h p (xaz ..)];rw[xac (by lia),ih]
    simp
section
variable {Q3:List D}{w s mk:Int}{f:Str}{G:SG}{L:List (WK×Int)}{ks:List WK}
def lO (g:WK×Int):D:=.tup [.int g.1.1,.str g.1.2,.int g.2]
theorem Ln {t t' v v':Int}{z z':Str}:∃b,bK [.int t,.str z,.int v] [.int t',.str z',.int v']=some b:=by
 simp only[bK]
 repeat' split
 all_goals exact⟨_,rfl⟩
theorem KQ (hf:Fd f)(g:GI f L mk G)(hs:ks.Pairwise pW)(n:ks.Nodup)(hm:∀k,k∈ks ↔ (∃x∈L,x.1=k)/\mk<k.1):fH (G.map lO)=some (ks.map (tri f L)):=by
 have ok:lD (G.map lO):=by
  refine⟨.inl (xbm.mpr fun d hd=>?_),fun xs ys hx hy=>?_⟩
  ·obtain⟨k, -,rfl⟩:=xaj.mp hd;rfl
  ·obtain⟨k, -,e⟩:=xaj.mp hx;obtain⟨k', -,e'⟩:=xaj.mp hy;rw[<-D.tup.inj e, <-D.tup.inj e'];exact Ln
 obtain⟨es,e1,e2,e3⟩:=Sh ok;have pk:ks.Perm (G.map (·.1)):=(xck n g.nd).mpr fun k=>by
  rw[hm]
  constructor
  ·rintro⟨⟨x,hx,rfl⟩,h⟩;exact g.m x hx h
  ·intro h;obtain⟨y,hy,rfl⟩:=xaj.mp h;obtain⟨h1,v1, -⟩:=g.v y hy;obtain⟨x,hx,e⟩:=Ca v1;exact⟨⟨x,hx,e⟩,h1⟩
 have pt:(ks.map (tri f L)).Perm (G.map lO):=by
  have := pk.map (tri f L);rw [xbc] at this;rw [show G.map lO=G.map (tri f L ∘ (·.1)) from xcx fun x hx=>by
   obtain⟨-,v1,v2⟩:=g.v x hx;show lO x=tri f L x.1;unfold lO tri;rw[v2,Oq hf v1,PJ hf v1]]
  exact this
 have st:(ks.map (tri f L)).Pairwise lA:=by
  rw[xb2];exact(List.Pairwise.and hs n).imp fun h=>zdr h.1 h.2
 rw[e1,xbL (fun _ _ _ _=>z8) e3 st (e2.trans pt.symm)]
theorem VD (i:St Q3 w s f mk G M)(hG:G.length<=1000)(hs:fH (G.map lO)=some (ks.map (tri f L))):wg [.ref 0] M=some (.v (.ref M.length),M ++ [.lst (ks.map (tri f L))]):=by
 have fk:=mF (k:=0) (env:=[.val (.ref 0)]) i rfl;have th:lJ (bw "WindowStation" "kept" (aj 0)) (wQ [] (sI (bw "WindowStation" "kept" (aj 0))) zm) [.val (.ref 0)] M=some (.v (.lst (G.map lO)),M):=by
  refine Tn i fk ?_;have fr : (M.set 2 (.dtf (G.map gE)))[2]? = some (.dtf (G.map gE)) := rJ i.d;have cp := Nj (M := M.set 2 (.dtf (G.map gE))) (e := zm) (env := []) (fun p => .tup [(match p.1 with | Sum.inl a :: _ => .int a | _ => .non), (match p.1 with | _ :: Sum.inr b :: _ => .str b | _ => .non), p.2]) (G.map gE) [] (fun p hp=>by
   obtain⟨g, -,rfl⟩:=xaj.mp hp;show zm [.val (.tup [.int g.1.1,.str g.1.2]),.val (.int g.2)] _=some (.v (.tup [.int g.1.1,.str g.1.2,.int g.2]),_);unfold zm;z_go) (by rw[xae,xaO,xbE];lia)
  simp only[wQ,bnd,Pu fk i.d,HJ fr];rw[show bL [] [Slot.val (.ref 0)]=[] from rfl,cp,xbD,xbc];rfl
 unfold wg Cz;generalize lJ _ _=TH at th ⊢;generalize ks.map (tri f L)=T at hs ⊢;z_go;rw[th];z_go;rw[QZ hs];z_go
theorem Oj (i:St Q3 w s f mk G M)(hG:G.length<=1000)(hs:fH (G.map lO)=some (ks.map (tri f L))):lu [.ref 0] M=some (.v (.tup [.ref M.length,.ref (M.length + 1)]),M ++ [.lst [.int mk]] ++ [.lst (ks.map (tri f L))]):=by
 have fm:=pL (k:=0) (env:=[.val (.ref 0)]) i rfl;have wv:vw M (.ref 1)=.lst [.int mk]:=yI i.m;have i1:=i.app (E:=[.lst [.int mk]]);have m:bH "WindowStation" "all_kept" wg (aj 0) aq [.val (.ref 0)] (M ++ [.lst [.int mk]])=some (.v (.ref (M.length + 1)),M ++ [.lst [.int mk]] ++ [.lst (ks.map (tri f L))]):=by
  have:=lC (k:=0) (ds:=[]) (c:="WindowStation") (me:="all_kept") (gg:=wg) (o:=aj 0) (fa:=aq) (env:=[Slot.val (.ref 0)]) rfl i1.o (lB (by x_go)) rfl (VD i1 hG hs);rw[xam]at this;exact this
 unfold lu CK;generalize bw "WindowStation" "marks" (aj 0)=F at fm ⊢;generalize bH _ _ _ _ _=F2 at m ⊢;z_go;rw[fm];z_go;rw[wv];z_go;rw[m];z_go
theorem Ia {i:Int}:mH [.int i] M=some (.v (.bl true),M):=by
 unfold mH G8;z_go;simp only[Pb,Pa];z_go;simp only[Pb,Pa];z_go
theorem Hw {n:Nat}:∀l:List D,(∀d∈l,d.dep<=n)->D.deps l<=n
  | [],_=>xa0 _
  |d::l,h=>by
    have h1:=h d (by simp);have h2:=Hw l fun x hx=>h x (by simp[hx]);show max d.dep (D.deps l)<=n;lia
theorem MJ:∀{l:List WK},u_ (l.map fun _=>D.bl true)=some (l.map fun _=>true)
  | []=>rfl
  |_::l=>by
    rw[xak,xak];simp only[u_,MJ (l:=l),xbX]
theorem Oe (i:St Q3 w s f mk G M)(hG:G.length<=1000)(kl:ks.length<=800)(hs:fH (G.map lO)=some (ks.map (tri f L))):∃M',xV [.ref 0,.int mk,.lst (ks.map (tri f L))] M=some (.v (.bl true),M')/\keeps M M':=by
 have st:=Oj i hG hs;have m:bH "WindowStation" "state" lu (aj 0) aq [.val (.ref 0),.val (.int mk),.val (.lst (ks.map (tri f L))),.un] M=_:=lC (k:=0) (ds:=[]) rfl i.o (lB (by x_go)) (by z_go) st;have c0:(M ++ [E3.Cl.lst [.int mk]] ++ [E3.Cl.lst (ks.map (tri f L))])[M.length]? =some (.lst [.int mk]):=by rw[xaD,xat (xaf _),xbS];rfl
 have c1:(M ++ [E3.Cl.lst [.int mk]] ++ [E3.Cl.lst (ks.map (tri f L))])[M.length + 1]? =some (.lst (ks.map (tri f L))):=by rw[xaD,xat (by lia),show M.length + 1 - M.length=1 by lia];rfl
 have kk:keeps M (M ++ [E3.Cl.lst [.int mk]] ++ [E3.Cl.lst (ks.map (tri f L))]):=by rw[xaD];exact Pq
 generalize M ++ [E3.Cl.lst [.int mk]] ++ [E3.Cl.lst (ks.map (tri f L))]=N at *;refine⟨N,?_,kk⟩;have w0:vw N (.ref M.length)=.lst [.int mk]:=yI c0;have w1:vw N (.ref (M.length + 1))=.lst (ks.map (tri f L)):=yI c1;have cc:nM 1000 [] (s2 aR (aj 3) (ak (.int 1))) HW [.val (.ref 0),.val (.int mk),.val (.lst (ks.map (tri f L))),.val (.tup [.ref M.length,.ref (M.length + 1)])] N=some (.v (.lst (ks.map fun _=>D.bl true)),N):=by
  rw[Ux (fun _=>D.bl true) (M1:=N) (ds:=ks.map (tri f L)) (j:=M.length + 1) (by z_go) c1 (fun d hd=>?_) (by rw[xae];lia) (by rw[xae,xaO];lia),xbc]
  ·rfl
  ·obtain⟨k, -,rfl⟩:=xaj.mp hd;have e:=fun j=>Ia (M:=N) (i:=j);unfold HW tri;generalize mH=GW at e ⊢;z_go;simp only[IK];z_go;rw[e];z_go;rw[e];z_go
 have d1 : aG .ne (.lst [.int mk]) (.lst [.int mk]) = some (.bl false) := Ju (by simp [D.dep, D.deps]);have d2 : aG .ne (.lst (ks.map (tri f L))) (.lst (ks.map (tri f L))) = some (.bl false) := Ju (by
  have:=Hw (n:=5) (ks.map (tri f L)) fun d hd=>by
   obtain⟨k, -,rfl⟩:=xaj.mp hd
   simp[tri,D.dep,D.deps]
  show D.deps _ + 1<=50;lia)
 have ba:lZ [.lst (ks.map fun _=>D.bl true)]=some (.bl true):=by
  simp only[lZ,MJ,xbX];rw[List.all_map];exact congrArg (fun b=>some (D.bl b)) (xbm.mpr fun _ _=>rfl)
 unfold xV GZ;generalize bH _ _ _ _ _=F1 at m ⊢;generalize nM _ _ _ _=F2 at cc ⊢;generalize (ks.map fun _=>D.bl true)=BS at *;generalize ks.map (tri f L)=T at *;generalize M.length=k at *;z_go;rw[m];z_go;simp only[IK];z_go;rw[xad (by decide),w0,d1];z_go;rw[zb4 c1,zeq];z_go;simp only[Pg];z_go;rw[w1,d2];z_go;rw[cc];z_go;rw[ba];z_go
end
variable {M:Mm}
abbrev Kn (d:D):Prop:=∃(w:Str) (t:Int) (r:List D) (x:Int),d=.tup (.str w::.int t::r)/\cu (.str w::.int t::r) (-1)=some (.int x)
theorem zdm {L:D}{d:D}(h:Kn d):zX [.val L,.val d] M=some (.nx [.val L,.val d],M):=by
 obtain⟨w,t,r,x,rfl,hx⟩:=h;have e1:=Ia (M:=M) (i:=t);have e2:=Ia (M:=M) (i:=x);unfold zX;generalize mH=G at e1 e2 ⊢;z_go;simp only[IK];z_go;rw[e1];z_go;rw[hx];z_go;rw[e2];z_go
theorem Pn {L:D}:∀(ds:List D) (s1:Slot),(∀d∈ds,Kn d)->∃s1',loopS 1 zX ds [.val L,s1] M=some (.nx [.val L,s1'],M)
  | [],s1,_=>⟨s1,rfl⟩
  |d::ds,s1,h=>by
    obtain⟨s',e⟩:=Pn ds (.val d) fun x hx=>h x (xal _ hx);refine⟨s',?_⟩;rw[Eo,xac (by simp only[xav,xbE];decide)];simp only[xcE,xcd];rw[zdm (h d xaz)];simp only[Q0];exact e
theorem Og {L:List D}(h:∀d∈L,Kn d):xW [.lst L] M=some (.v (.bl true),M):=by
 obtain⟨s',e⟩:=Pn (M:=M) (L:=.lst L) L .un h;unfold xW G5;generalize zX=B at e ⊢;z_go;simp only[Pg];z_go;rw[e];z_go
noncomputable def kh (f:Str) (L:List (WK×Int)) (ks:List WK) (mk t:Int):List D:=ks.map (gF f L) ++ if mk<t then [.tup [.str "mark",.int t]] else []
theorem Q_ {f:Str}{L:List (WK×Int)}{ks:List WK}{mk t:Int}:∀d∈kh f L ks mk t,Kn d:=fun d hd=>by
 rcases xaQ.mp hd with h |h
 ·obtain⟨k, -,rfl⟩:=xaj.mp h;exact⟨_,_,_,_,rfl,rfl⟩
 ·split at h
  ·rw[xaB.mp h];exact⟨_,_,_,_,rfl,rfl⟩
  ·exact nomatch h
theorem Q9 {f:Str}{L:List (WK×Int)}{ks:List WK}{mk t:Int}:D.deps (kh f L ks mk t)<=5:=Hw _ fun d hd=>by
 rcases xaQ.mp hd with h |h
 ·obtain⟨k, -,rfl⟩:=xaj.mp h
  simp[gF,D.dep,D.deps]
 ·split at h
  ·rw[xaB.mp h]
   simp[D.dep,D.deps]
  ·exact nomatch h
structure Iv (w s:Int)(f:Str)(X:List Th)(mk:Int)(G:SG)(M:Mm):Prop where
 i:St (X.map eZ) w s f mk G M
 g:GI f (X.flatMap (adds w s)) mk G
 m0:0<=mk
 m1:mk<=1000000000000
 b:∀x∈X,x.1<=1000000000000
section
variable {w s mk:Int}{f:Str}{G:SG}{X:List Th}
theorem Iv.app {E:Mm}(v:Iv w s f X mk G M):Iv w s f X mk G (M ++ E):=⟨v.i.app,v.g,v.m0,v.m1,v.b⟩
theorem t23 {a0 a1 a2 a4 a5 a6 a7 a8 a9 a10 a11:Slot}(hf:Fd f)(v:Iv w s f X mk G M)(s0:0<s)(h:s<=w)(hw:w<=8 * s)(hl:X.length<=100):
  ∃E,Dy [a0,a1,a2,.val (.ref 0),a4,a5,a6,a7,a8,a9,a10,a11] M=some (.nx [a0,a1,a2,.val (.ref 0),a4,a5,a6,a7,a8,a9,a10,a11],M ++ E):=by
 have ll:=zA s0 h hw X;have gn:=v.g.n;obtain⟨ks,e1,e2,e3⟩:=wX (G.map (·.1));have hs:fH (G.map lO)=some (ks.map (tri f (X.flatMap (adds w s)))):=KQ hf v.g e3 (e2.nodup_iff.mpr v.g.nd) fun k=>by
  rw[e2.mem_iff]
  constructor
  ·intro h;obtain⟨y,hy,rfl⟩:=xaj.mp h;obtain⟨h1,v1, -⟩:=v.g.v y hy;obtain⟨x,hx,e⟩:=Ca v1;exact⟨⟨x,hx,e⟩,h1⟩
  ·rintro⟨⟨x,hx,rfl⟩,h⟩;exact v.g.m x hx h
 have kl:ks.length<=800:=by rw[e2.length_eq,xae];lia
 generalize hT:ks.map (tri f (X.flatMap (adds w s)))=T at hs;have tl:T.length<=800:=by rw[<-hT,xae];exact kl
 have one:∀(N:Mm),St (X.map eZ) w s f mk G N->bH "WindowStation" "state" lu (aj 3) aq [a0,a1,a2,.val (.ref 0),a4,a5,a6,a7,a8,a9,a10,a11] N=some (.v (.tup [.ref N.length,.ref (N.length + 1)]),N ++ [.lst [.int mk]] ++ [.lst T]):=fun N i=>by
  have st:=Oj (ks:=ks) (L:=X.flatMap (adds w s)) i (by lia) (by rw[hT];exact hs);rw[hT]at st;exact lC (k:=0) (ds:=[]) rfl i.o (lB (by x_go)) (by z_go) st
 have c0:∀N:Mm,(N ++ [E3.Cl.lst [.int mk]] ++ [E3.Cl.lst T])[N.length]? =some (.lst [.int mk]):=fun N=>by rw[xaD,xat (xaf _),xbS];rfl
 have c1:∀N:Mm,(N ++ [E3.Cl.lst [.int mk]] ++ [E3.Cl.lst T])[N.length + 1]? =some (.lst T):=fun N=>by rw[xaD,xat (by lia),show N.length + 1 - N.length=1 by lia];rfl
 have se0:∀(N:Mm) (x:E3.Cl),(N ++ [E3.Cl.lst [.int mk]] ++ [E3.Cl.lst T]).set N.length x=N ++ [x,.lst T]:=fun N x=>by
  rw[xaD,xdx _ _ (xaf _),xbS];rfl
 have se1:∀(N:Mm) (x:E3.Cl),(N ++ [E3.Cl.lst [.int mk]] ++ [E3.Cl.lst T]).set (N.length + 1) x=N ++ [.lst [.int mk],x]:=fun N x=>by
  rw[xaD,xdx _ _ (by lia),show N.length + 1 - N.length=1 by lia];rfl
 have a:=one M v.i;have i1:=v.i.app (E:=[.lst [.int mk,.int 7],.lst T]);have b:=one _ i1;have p1:fV (s2 aR (bH "WindowStation" "state" lu (aj 3) aq) (ak (.int 0))) (ak (.int 7)) [a0,a1,a2,.val (.ref 0),a4,a5,a6,a7,a8,a9,a10,a11] M=some (.nx [a0,a1,a2,.val (.ref 0),a4,a5,a6,a7,a8,a9,a10,a11],M ++ [.lst [.int mk,.int 7],.lst T]):=by
  rw [yR (k := M.length) (ds0 := [.int mk]) (ds := [.int mk]) (d := .int 7) (M1 := M ++ [.lst [.int mk]] ++ [.lst T]) (M2 := M ++ [.lst [.int mk]] ++ [.lst T]) (by
   generalize bH _ _ _ _ _=F at a ⊢;z_go;rw[a];z_go) (c0 M) rfl (c0 M) (by rw[xaO];show 1<16777216;decide),se0]
  rfl
 have p2:∀N:Mm,St (X.map eZ) w s f mk G N->fV (s2 aR (bH "WindowStation" "state" lu (aj 3) aq) (ak (.int 1))) (ak (.int 7)) [a0,a1,a2,.val (.ref 0),a4,a5,a6,a7,a8,a9,a10,a11] N=some (.nx [a0,a1,a2,.val (.ref 0),a4,a5,a6,a7,a8,a9,a10,a11],N ++ [.lst [.int mk],.lst (T ++ [.int 7])]):=fun N i=>by
  have a := one N i;rw [yR (k := N.length + 1) (ds0 := T) (ds := T) (d := .int 7) (M1 := N ++ [.lst [.int mk]] ++ [.lst T]) (M2 := N ++ [.lst [.int mk]] ++ [.lst T]) (by
   generalize bH _ _ _ _ _=F at a ⊢;z_go;rw[a];z_go) (c1 N) rfl (c1 N) (by rw[xaO];lia),se1]
 have q2:=p2 _ i1;refine⟨[.lst [.int mk,.int 7],.lst T] ++ [.lst [.int mk],.lst (T ++ [.int 7])],?_⟩;unfold Dy Qd;generalize fV (s2 aR _ (ak (.int 0))) _=F1 at p1 ⊢;generalize fV _ _=F2 at q2 ⊢;rw[<-xaD];z_go;rw[p1];z_go;rw[q2];z_go
theorem t1 {a0 a1 a2 a4 a5 a6 a7 a8 a11:Slot}{L:List D}(hf:Fd f)(v:Iv w s f X mk G M)(s0:0<s)(h:s<=w)(hw:w<=8 * s)(hl:X.length<=100)(hk:∀d∈L,Kn d)(hd:D.deps L<=5):
  ∃E,Ab [a0,a1,a2,.val (.ref 0),a4,a5,a6,a7,a8,.own L,.val (.lst L),a11] M=some (.nx [a0,a1,a2,.val (.ref 0),a4,a5,a6,a7,a8,.own L,.val (.lst L),a11],M ++ E):=by
 obtain⟨E,e⟩:=t23 (a0:=a0) (a1:=a1) (a2:=a2) (a4:=a4) (a5:=a5) (a6:=a6) (a7:=a7) (a8:=a8) (a9:=.own L) (a10:=.val (.lst L)) (a11:=a11) hf v s0 h hw hl;refine⟨E,?_⟩;have fk:=Og (M:=M) hk;have ne:aG .ne (.lst L) (.lst L)=some (.bl false):=Ju (by show D.deps L + 1<=50;lia);unfold Ab;generalize Dy=F at e ⊢;z_go;rw[fk];z_go;rw[ne];z_go;rw[e]
end
theorem jL {z:Str}{ws:List Str}(hz:z.length<=16)(h:(ws.map (·.length)).sum + ws.length<=1048576):BL z [.lst (ws.map D.str)]=some (.str (Txt.join z ws)):=by
 unfold BL;simp only[E3.strs_map];rw[xac ⟨hz,h⟩]
theorem Vi {α:Type}[Inhabited α]{e:E3.E}{env:E3.Env}{n:Nat}{f:α->D}{p:α->Prop}(h:∀k,k<n->∃a,p a/\∀M:Mm,e (.val (.int (0 + (k:Int)))::env) M=some (.v (f a),M))(hn:n<=1000):
  ∃as:List α,as.length=n/\(∀a∈as,p a)/\∀M:Mm,fu (ak (.bl true)) e env ((List.range n).map fun(k:Nat)=>D.int (0 + k)) [] M=some (as.map f,M):=by
 let g:Nat->α:=fun k=>if hk:k<n then Classical.choose (h k hk) else default
 have hg:∀k,(hk:k<n)->p (g k)/\∀M:Mm,e (.val (.int (0 + (k:Int)))::env) M=some (.v (f (g k)),M):=fun k hk=>by
  simp only[g,dif_pos hk];exact xcQ (h k hk)
 refine⟨(List.range n).map g,by simp,fun a ha=>?_,fun M=>?_⟩
 ·obtain⟨k,hk,rfl⟩:=xaj.mp ha;exact(hg k (xbO.mp hk)).1
 ·rw [comp_map (fun d => match d with | .int i => f (g i.toNat) | d => d) _ (fun d hd=>by
   obtain⟨k,hk,rfl⟩:=xaj.mp hd;have:=(hg k (xbO.mp hk)).2 M;dsimp only;rw[show(0 + (k:Int)).toNat=k by lia];exact this) (by rw[xaO,xae,xcL];lia),xbc,xbc]
  congr 2;refine xcx fun k _=>?_;show f (g (0 + (k:Int)).toNat)=f (g k);rw[show(0 + (k:Int)).toNat=k by lia]
theorem zbg {x:Str}{j:Int}(h:0<=j/\j<=x.length):cd (Txt.slice x none (some j))=(cd x).take j.toNat:=by
 have:=PyProof.Rows.slice_closes_to (x:=x) (j:=j) ⟨h.1,by show j<=((cd x).length:Int);rw[<-su];exact h.2⟩;rw[eq_of_beq this];show List.take (j - 0).toNat (List.drop (0:Int).toNat (cd x))=_;rw[Int.sub_zero];rfl
theorem za3 {x:Str}{j:Int}(h:0<=j/\j<=x.length):cd (Txt.slice x (some j) none)=(cd x).drop j.toNat:=by
 have:=PyProof.Rows.slice_closes_from (x:=x) (i:=j) ⟨h.1,by show j<=((cd x).length:Int);rw[<-su];exact h.2⟩;rw[eq_of_beq this];show List.take (((cd x).length:Int) - j).toNat (List.drop j.toNat (cd x))=_;rw[xcG];rw[xb8];lia
noncomputable def KB:Str:=Str.ofString "kbzqaxmp"
theorem Vx {x:Int}{k:Nat}:∃z:Str,z.length=1/\∀M:Mm,Di [.val (.int (0 + (k:Int))),.val (.int x)] M=some (.v (.str z),M):=by
 have h0:=xbw (x / 8 + (0 + (k:Int))) (show(8:Int)≠0 by decide);have h1:=xbM (x / 8 + (0 + (k:Int))) (show(0:Int)<8 by decide);have ec:cu KB.cps.toList ((x / 8 + (0 + (k:Int))) % 8)=some (KB.cps.toList.getD ((x / 8 + (0 + (k:Int))) % 8).toNat 0):=Uq 0 h0 (by rw[show KB.cps.toList.length=8 by x_go];exact h1);refine⟨⟨#[KB.cps.toList.getD ((x / 8 + (0 + (k:Int))) % 8).toNat 0]⟩,rfl,fun M=>?_⟩;unfold Di;rw[show(Str.ofString "kbzqaxmp")=KB from rfl];z_go;rw[xac (by rw[show KB.length=8 by x_go];decide),ec];z_go
theorem Ph:∀ws:List Str,(∀z∈ws,z.length=1)->(Str.join (Str.ofString "") ws).length=ws.length
  | [],_=>by x_go
  | [a],h=>by
    show a.length=1;exact h a xaz
  |a::b::r,h=>by
    have ih:=Ph (b::r) fun z hz=>h z (xal _ hz);have ha:=h a xaz;show(a ++ Str.ofString "" ++ Str.join (Str.ofString "") (b::r):Str).length=_;rw[su]at ih ha ⊢;rw[Hq,Hq,xam,xam,ha,ih,show cd (Str.ofString "")=[] by x_go,xav (as:=b::r)];simp only[xbE];lia
theorem zdR {z:Str}{ps:List Str}:Txt.join z ps=Str.join z ps:=by
 show Builtin.Str.glued _ _=_;rw[StrLaws.glued_eq_join]
theorem BJ:∀ws:List Str,(∀z∈ws,z.length=1)->(ws.map (·.length)).sum=ws.length
 | [],_=>rfl
 |a::r,h=>by rw[xak,xcX,BJ r fun z hz=>h z (xal _ hz),h a xaz,xav];lia
theorem VL {c:Int}:∃k0 k1:Str,∀M:Mm,zL [.int c] M=some (.v (.lst [.str k0,.str k1,.str "zebra"]),M):=by
 obtain⟨n,hn⟩:∃n:Nat,1 + c % 8=n:=⟨(1 + c % 8).toNat,by lia⟩;have n8:1<=n/\n<=8:=by lia
 obtain⟨ws,l1,l2,ew⟩:=Vi (e:=Di) (env:=[.val (.int c)]) (n:=n) (f:=D.str) (p:=fun z:Str=>z.length=1) (fun k hk=>Vx) (by lia);have jl:=jL (z:=Str.ofString "") (ws:=ws) (by x_go) (by rw[BJ ws l2];lia);have wl:(Txt.join (Str.ofString "") ws).length=n:=by rw[zdR,Ph ws l2,l1]
 generalize Txt.join (Str.ofString "") ws=w at jl wl;have p0:=xbw (c / 64) (show(n:Int)≠0 by lia);have p1:=xbM (c / 64) (show(0:Int)<n by lia);have t1:(Txt.slice w none (some (c / 64 % n))).length<=8:=by rw[su,zbg ⟨p0,by lia⟩,xbI, <-su];lia
 have t2:(Txt.slice w (some (c / 64 % n + 1)) none).length<=8:=by rw[su,za3 ⟨by lia,by lia⟩,xb8, <-su];lia
 refine⟨w,Txt.slice w none (some (c / 64 % n)) ++ Str.ofString "c" ++ Txt.slice w (some (c / 64 % n + 1)) none,fun M=>?_⟩;have t3:(Txt.slice w none (some (c / 64 % n)) ++ Str.ofString "c":Str).length<=9:=by
  rw[su]at t1 ⊢;rw[Hq,xam,show(cd (Str.ofString "c")).length=1 by x_go];lia
 unfold zL G4;z_go;rw[hn,zcH (by lia),xcM];z_go;rw[ew M];z_go;rw[jl];z_go;rw[xac (by lia)];z_go;rw[xac (by lia)];z_go;rw[xac (by rw[show(Str.ofString "c").length=1 by x_go];lia)];z_go;rw[xac (by lia)];z_go;rw[xac (by lia)];z_go
variable {M:Mm}
theorem Vy {c:Int}{env:E3.Env}(h:env[0]? =some (.val (.int c))):s2 dz (s2 oMod (s2 fB (aj 0) (ak (.int 17))) (s2 aZ (s2 fP (ak (.int 2)) (s2 bW (ak (.int 10)) (ak (.int 60)))) (ak (.int 1)))) (s2 bW (ak (.int 10)) (ak (.int 60))) env M=some (.v (.int (c / 17 % 2000000000000000000000000000000000000000000000000000000000001 - 1000000000000000000000000000000000000000000000000000000000000)),M):=by
 have a1:s2 fB (aj 0) (ak (.int 17)) env M=some (.v (.int (c / 17)),M):=by
  z_go;rw[h];z_go
 have a2:s2 bW (ak (.int 10)) (ak (.int 60)) env M=some (.v (.int 1000000000000000000000000000000000000000000000000000000000000),M):=by kernel_rfl
 have a3:s2 aZ (s2 fP (ak (.int 2)) (s2 bW (ak (.int 10)) (ak (.int 60)))) (ak (.int 1)) env M=some (.v (.int 2000000000000000000000000000000000000000000000000000000000001),M):=by kernel_rfl
 generalize s2 fB (aj 0) (ak (.int 17))=F1 at a1 ⊢;generalize s2 aZ (s2 fP _ _) _=F3 at a3 ⊢;generalize s2 bW _ _=F2 at a2 ⊢;z_go;rw[a1];z_go;rw[a3];z_go;rw[a2];z_go
theorem VR {c mk w:Int}{k0 k1:Str}(w0:0<w)(m1:mk<=1000000000000):∃x:Th,mk<=x.1/\x.1<=1000000000000/\xY [.int c,.int mk,.int w,.lst [.str k0,.str k1,.str "zebra"]] M=some (.v (nu x),M):=by
 obtain⟨r,hr,r0⟩:∃r:Int,r=c / 3 % (2 * w + 1)/\0<=r:=⟨_,rfl,xbw _ (by lia)⟩;obtain⟨t,ht⟩:∃t:Int,t=if mk + r<1000000000000 then mk + r else 1000000000000:=⟨_,rfl⟩
 obtain⟨v,hv⟩:∃v:Int,v=c / 17 % 2000000000000000000000000000000000000000000000000000000000001 - 1000000000000000000000000000000000000000000000000000000000000:=⟨_,rfl⟩;obtain⟨z,hz⟩:∃z:Str,cu [D.str k0,.str k1,.str "zebra"] (c / 5 % 3)=some (.str z):=by
  have:c / 5 % 3=0\/c / 5 % 3=1\/c / 5 % 3=2:=by lia
  rcases this with h |h |h<;>rw[h]<;>exact⟨_,rfl⟩
 have h1:mk<=t:=by rw[ht];split<;>lia
 have h2:t<=1000000000000:=by rw[ht];split<;>lia
 refine⟨(t,z,v),h1,h2,?_⟩;have ev:∀env:E3.Env,env[0]? =some (.val (.int c))->_:=fun env h=>Vy (M:=M) (env:=env) h;rw[<-hv]at ev;have p12:∀env:E3.Env,s2 bW (ak (.int 10)) (ak (.int 12)) env M=some (.v (.int 1000000000000),M):=fun env=>by kernel_rfl
 unfold xY G7 nu;generalize s2 dz (s2 oMod (s2 fB (aj 0) (ak (.int 17))) _) _=FV at ev ⊢;generalize s2 bW (ak (.int 10)) (ak (.int 12))=FP at p12 ⊢;z_go;rw[p12];z_go;rw[xac (by lia), <-hr];z_go;rw[<-ht];rw[ev _ rfl];z_go;rw[hz];z_go
section
variable {w s mk:Int}{f:Str}{G:SG}{X:List Th}
theorem Vz {x:WK×Int}(s0:0<s)(h:s<=w)(w1:w<=1000000000000)(hb:∀x∈X,x.1<=1000000000000)(hx:x∈X.flatMap (adds w s)):x.1.1<=2000000000000:=by
 obtain⟨y,hy,hx⟩:=List.mem_flatMap.mp hx;obtain⟨e,he,rfl⟩:=xaj.mp hx;have:=((HN s0 h).mp he).2.2;have:=hb y hy;show e<=_;lia
theorem N6 {ks:List WK}{L:List (WK×Int)}{e:E}(he:e=Dk\/e=Dl)(hl:ks.length<=800):fu (ak (.bl true)) e [] (ks.map (tri f L)) [] M=some (ks.map (gF f L),M):=by
 rw[comp_map (fun d=>match d with |.tup [.int a,b,c]=>.tup [.str "thing",.int (a - 1),b,c] |d=>d) (ks.map (tri f L)) (fun d hd=>?_) (by rw[xae,xaO];lia),xbc]
 ·rfl
 ·obtain⟨k, -,rfl⟩:=xaj.mp hd;rcases he with rfl |rfl
  ·unfold Dk tri;z_go
  ·unfold Dl tri;z_go
theorem zcu {c t:Int}{a0 a4 a8 a9 a10 a11:Slot}{r0 r1 r2:D}{rs:List D}(hf:Fd f)(hr:cu rs (-1)=some (.str f))(v:Iv w s f X mk G M)(s0:0<s)(h:s<=w)(hw:w<=8 * s)(hl:X.length<=100)(hc:c % 3=0)(ht:t=if mk + c / 3 % (2 * w + 1)<1000000000000 then mk + c / 3 % (2 * w + 1) else 1000000000000):
  ∃G' M' b9 b10,z7 [a0,.val (.tup [.int w,.int s]),.val (.tup [r0,r1,r2,.tup rs]),.val (.ref 0),a4,.val (.ref 3),.val (.int mk),.val (.int c),a8,a9,a10,a11] M=some (.nx [a0,.val (.tup [.int w,.int s]),.val (.tup [r0,r1,r2,.tup rs]),.val (.ref 0),a4,.val (.ref 3),.val (.int t),.val (.int c),.val (.int t),b9,b10,a11],M')/\Iv w s f X t G' M':=by
 have m1:=v.m1;have m0:=v.m0;have r0':=xbw (c / 3) (show 2 * w + 1≠0 by lia);have ht1:mk<=t:=by rw[ht];split<;>lia
 have ht2:t<=1000000000000:=by rw[ht];split<;>lia
 have ll:=zA s0 h hw X;obtain⟨ks,M1,k1,k2,k3,k4,kp,ew⟩:=Ib (M:=M) (c:=3) (lo:=mk) (hi:=t) (r0:=r0) (r1:=r1) (r2:=r2) v.i.x hf hr s0 h hw hl;obtain⟨G',M2,em,i2,g2⟩:=Oi hf (v.i.kp kp) v.g (by lia) ht1 k1 k2 k3;have dc:=N6 (M:=M1) (f:=f) (L:=X.flatMap (adds w s)) (e:=Dl) (.inr rfl) k4;obtain⟨E,e1⟩:=t1 (a0:=a0) (a1:=.val (.tup [.int w,.int s])) (a2:=.val (.tup [r0,r1,r2,.tup rs])) (a4:=a4) (a5:=.val (.ref 3)) (a6:=.val (.int t)) (a7:=.val (.int c)) (a8:=.val (.int t)) (a11:=a11) hf (⟨i2,g2,by lia,ht2,v.b⟩:Iv w s f X t G' M2) s0 h hw hl (Q_ (f:=f) (L:=X.flatMap (adds w s)) (ks:=ks) (mk:=mk) (t:=t)) Q9;refine⟨G',M2 ++ E,.own (kh f (X.flatMap (adds w s)) ks mk t),.val (.lst (kh f (X.flatMap (adds w s)) ks mk t)),?_,Iv.app ⟨i2,g2,by lia,ht2,v.b⟩⟩;have mt:∀y:Slot,bH "WindowStation" "take_in" g_ (aj 3) (au (ak (.int 0)) (au (aX (au (ak (.str "mark")) (au (aj 8) aq))) aq)) [a0,.val (.tup [.int w,.int s]),.val (.tup [r0,r1,r2,.tup rs]),.val (.ref 0),a4,.val (.ref 3),.val (.int t),.val (.int c),.val (.int t),y,a10,a11] M1=some (.v (.lst (kh f (X.flatMap (adds w s)) ks mk t)),M2):=fun y=>lC (k:=0) (ds:=[.int 0,.tup [.str "mark",.int t]]) rfl (v.i.kp kp).o (lB (by x_go)) (by z_go) em;have p12:∀env:E3.Env,s2 bW (ak (.int 10)) (ak (.int 12)) env M=some (.v (.int 1000000000000),M):=fun env=>by kernel_rfl
 have il:(ks.map (gF f (X.flatMap (adds w s)))).length<=800:=by rw[xae];exact k4
 have hR:kh f (X.flatMap (adds w s)) ks mk t=ks.map (gF f (X.flatMap (adds w s))) ++ if mk<t then [.tup [.str "mark",.int t]] else []:=rfl
 generalize kh f (X.flatMap (adds w s)) ks mk t=R at *;unfold z7;generalize Ab=F1 at e1 ⊢;generalize bH _ _ _ _ (au (ak (.int 0)) (au (aX (au (ak (.str "mark")) (au (aj 8) aq))) aq))=F2 at mt ⊢;generalize bH _ _ _ _ _=F3;generalize xY=G3;generalize s2 bW (ak (.int 10)) (ak (.int 12))=FP at p12 ⊢;generalize ks.map (tri f (X.flatMap (adds w s)))=T at ew dc;generalize ks.map (gF f (X.flatMap (adds w s)))=I at dc il hR;clear em k3;z_go;rw[xac hc,p12];z_go;rw[xac (by lia)];z_go;rw[<-ht,ew];z_go;rw[dc];z_go
 by_cases hm:mk<t
 ·rw[xac hm]at hR;simp only[hm,show t > mk from hm,xdO];z_go;rw[xac (by lia)];z_go;rw[<-hR,mt];z_go;rw[e1]
 ·rw[xad hm,xaJ]at hR;simp only[hm,show ¬ t > mk from hm,xaY];z_go;rw[<-hR,mt];z_go;rw[e1]
theorem zbm {c:Int}{a0 a8 a9 a10 a11:Slot}{r0 r1 r2:D}{rs:List D}{k0 k1:Str}(hf:Fd f)(v:Iv w s f X mk G M)(s0:0<s)(h:s<=w)(hw:w<=8 * s)(hl:X.length<100)(hc:¬ c % 3=0):
  ∃x G' M' b9 b10 b11,z7 [a0,.val (.tup [.int w,.int s]),.val (.tup [r0,r1,r2,.tup rs]),.val (.ref 0),.val (.lst [.str k0,.str k1,.str "zebra"]),.val (.ref 3),.val (.int mk),.val (.int c),a8,a9,a10,a11] M=some (.nx [a0,.val (.tup [.int w,.int s]),.val (.tup [r0,r1,r2,.tup rs]),.val (.ref 0),.val (.lst [.str k0,.str k1,.str "zebra"]),.val (.ref 3),.val (.int mk),.val (.int c),a8,b9,b10,b11],M')/\Iv w s f (X ++ [x]) mk G' M':=by
 have m1:=v.m1;have m0:=v.m0;have ll:=zA s0 h hw X;obtain⟨x,x0,x1,ex⟩:=VR (M:=M) (c:=c / 3) (mk:=mk) (w:=w) (k0:=k0) (k1:=k1) (by lia) m1;have i1:St ((X ++ [x]).map eZ) w s f mk G (M.set 3 (.lst (X.map eZ ++ [eZ x]))):=by rw[xaM];exact v.i.dO
 obtain⟨G',M2,em,i2,g2⟩:=V3 i1 v.g s0 h hw x0 (by lia);have g2':GI f ((X ++ [x]).flatMap (adds w s)) mk G':=by rw[List.flatMap_append,xdm,List.flatMap_nil,xaJ];exact g2
 have nb:∀y∈X ++ [x],y.1<=1000000000000:=fun y hy=>by
  rcases xaQ.mp hy with hy |hy
  ·exact v.b y hy
  ·rw[xaB.mp hy];exact x1
 obtain⟨E,e1⟩:=t1 (L:=[]) (a0:=a0) (a1:=.val (.tup [.int w,.int s])) (a2:=.val (.tup [r0,r1,r2,.tup rs])) (a4:=.val (.lst [.str k0,.str k1,.str "zebra"])) (a5:=.val (.ref 3)) (a6:=.val (.int mk)) (a7:=.val (.int c)) (a8:=a8) (a11:=.val (nu x)) hf (⟨i2,g2',m0,m1,nb⟩:Iv w s f (X ++ [x]) mk G' M2) s0 h hw (by rw[xam,xaF];lia) (fun d hd=>nomatch hd) (by simp[D.deps])
 refine⟨x,G',M2 ++ E,.own [],.val (.lst []),.val (nu x),?_,Iv.app ⟨i2,g2',m0,m1,nb⟩⟩;have mt:∀y:Slot,bH "WindowStation" "take_in" g_ (aj 3) (au (ak (.int 0)) (au (aj 11) aq)) [a0,.val (.tup [.int w,.int s]),.val (.tup [r0,r1,r2,.tup rs]),.val (.ref 0),.val (.lst [.str k0,.str k1,.str "zebra"]),.val (.ref 3),.val (.int mk),.val (.int c),a8,y,a10,.val (nu x)] (M.set 3 (.lst (X.map eZ ++ [eZ x])))=some (.v (.lst []),M2):=fun y=>lC (k:=0) (ds:=[.int 0,nu x]) rfl i1.o (lB (by x_go)) (by z_go) em;have ap:fV (aj 5) (kI (aj 11) (mU (ak (.int 1))) sE) [a0,.val (.tup [.int w,.int s]),.val (.tup [r0,r1,r2,.tup rs]),.val (.ref 0),.val (.lst [.str k0,.str k1,.str "zebra"]),.val (.ref 3),.val (.int mk),.val (.int c),a8,a9,a10,.val (nu x)] M=some (.nx [a0,.val (.tup [.int w,.int s]),.val (.tup [r0,r1,r2,.tup rs]),.val (.ref 0),.val (.lst [.str k0,.str k1,.str "zebra"]),.val (.ref 3),.val (.int mk),.val (.int c),a8,a9,a10,.val (nu x)],M.set 3 (.lst (X.map eZ ++ [eZ x]))):=yR (M1:=M) (M2:=M) rfl v.i.x rfl v.i.x (by rw[xae,xaO];lia);unfold z7;generalize Ab=F1 at e1 ⊢;generalize bH _ _ _ _ (au (ak (.int 0)) (au (aj 11) aq))=F2 at mt ⊢;generalize bH _ _ _ _ _=F3;generalize fV (aj 5) _=FA at ap ⊢;generalize M.set 3 (E3.Cl.lst (X.map eZ ++ [eZ x]))=M1 at *;generalize nu x=ix at *;clear em;z_go;rw[xad hc];z_go;rw[ex];z_go;rw[ap];z_go;rw[mt];z_go;rw[e1]
end
variable {M:Mm}
theorem V7 {w s:Int}{wt st f:Str}{x1 x2:D}(e1:eN [.str wt]=some (.int w))(e2:eN [.str st]=some (.int s)):mJ [.tup [.str "slide",x1,x2,.tup [.str wt,.str st,.str f]]] M=some (.v (.tup [.int w,.int s,.str f]),M):=by
 unfold mJ CV;z_go;rw[<-Ak,e1];z_go;rw[<-Ak,e2];z_go;rw[show cu [D.str wt,.str st,.str f] (-1)=some (.str f) from rfl];z_go
theorem V6 {w:Int}{wt f:Str}{x1 x2:D}(e1:eN [.str wt]=some (.int w)):mJ [.tup [.str "fixed",x1,x2,.tup [.str wt,.str f]]] M=some (.v (.tup [.int w,.int w,.str f]),M):=by
 have k1:(Str.ofString "fixed"=Str.ofString "slide")=False:=xct (by x_go);unfold mJ CV;z_go;rw[<-Ak,e1];z_go;simp only[k1,xaY];z_go;rw[show cu [D.str wt,.str f] (-1)=some (.str f) from rfl];z_go
theorem zN {ns:List Int}{k:Int}(hk:0<=k):mG [.lst (ns.map .int),.int k] M=some (.v (.int (ns.getD k.toNat 0)),M):=by
 unfold mG GQ;z_go
 by_cases h:k<(ns.length:Int)
 ·simp only[h,xdO];z_go;have e:cu (ns.map D.int) k=some (.int (ns.getD k.toNat 0)):=by
   obtain⟨j,rfl⟩:∃j:Nat,k=j:=⟨k.toNat,by lia⟩;refine xM ?_;have:j<ns.length:=by lia
   rw[xaw,xar this]
   simp[List.getD,this]
  rw[e];z_go
 ·simp only[h,xaY];z_go
  simp[List.getD,xbV (show ns.length<=k.toNat by lia)]
theorem FJ {n:Int}(h0:0<=n)(h1:n<=1000000000000):gA [.int n]=some (.str (lM n))/\eN [.str (lM n)]=some (.int n):=by
 have hl:(lM n).length<=14:=R5 (i:=n) (k:=13) (by decide) (by lia);refine⟨?_,?_⟩
 ·rw[Am,xac (Xx (by lia))];rfl
 ·rw[Ak,xac (by lia),WD (xap (show n.natAbs<1000000000001 by lia) (by x_go))];rfl
theorem Wf {x:Int}:∃f:Str,Fd f/\cu [D.str "sum",.str "count",.str "most",.str "least"] (x % 4)=some (.str f):=by
 have h:x % 4=0\/x % 4=1\/x % 4=2\/x % 4=3:=by lia
 rcases h with h |h |h |h<;>rw[h]
 ·exact⟨_,.inl rfl,rfl⟩
 ·exact⟨_,.inr (.inl rfl),rfl⟩
 ·exact⟨_,.inr (.inr (.inl rfl)),rfl⟩
 ·exact⟨_,.inr (.inr (.inr rfl)),rfl⟩
theorem zdU {x:Int}:∃p:Int,0<p/\p<=1000000000000/\cu [D.int 9,.int 9,.int 60,.int 1000000000000] (x % 4)=some (.int p):=by
 have h:x % 4=0\/x % 4=1\/x % 4=2\/x % 4=3:=by lia
 rcases h with h |h |h |h<;>rw[h]
 ·exact⟨9,by decide,by decide,rfl⟩
 ·exact⟨9,by decide,by decide,rfl⟩
 ·exact⟨60,by decide,by decide,rfl⟩
 ·exact⟨1000000000000,by decide,by decide,rfl⟩
theorem V2 {ns:List Int}:∃w s:Int,0<s/\s<=w/\w<=1000000000000/\w<=8 * s/\(ns.getD 0 0 % 2=0->s=w)/\xX [.lst (ns.map .int)] M=some (.v (.tup [.int w,.int s]),M):=by
 have c0:=zN (M:=M) (ns:=ns) (k:=0) (by decide);have c1:=zN (M:=M) (ns:=ns) (k:=1) (by decide);rw[show(0:Int).toNat=0 from rfl]at c0;generalize ns.getD 0 0=v0 at c0 ⊢;generalize ns.getD (1:Int).toNat 0=v1 at c1;obtain⟨p,p0,p1,ep⟩:=zdU (x:=v0 / 2);obtain⟨w,hw⟩:∃w:Int,w=1 + v0 / 8 % p:=⟨_,rfl⟩;have a0:=xbw (v0 / 8) (show p≠0 by lia);have a1:=xbM (v0 / 8) p0;have p12:∀env:E3.Env,s2 bW (ak (.int 10)) (ak (.int 12)) env M=some (.v (.int 1000000000000),M):=fun env=>by kernel_rfl
 by_cases h:v0 % 2=0
 ·refine⟨w,w,by lia,xeA _,by lia,by lia,fun _=>rfl,?_⟩;unfold xX CQ;generalize s2 bW (ak (.int 10)) (ak (.int 12))=FP at p12 ⊢;z_go;rw[c0];z_go;rw[p12];z_go;rw[ep];z_go;rw[xac (by lia)];z_go;rw[<-hw,xac h];z_go
 ·obtain⟨l,hl⟩:∃l:Int,l=(w + 7) / 8:=⟨_,rfl⟩;have b0:=xbw (v1 / 4) (show w - l + 1≠0 by lia);have b1:=xbM (v1 / 4) (show 0<w - l + 1 by lia);refine⟨w,l + v1 / 4 % (w - l + 1),by lia,by lia,by lia,by lia,fun z=>absurd z h,?_⟩;unfold xX CQ;generalize s2 bW (ak (.int 10)) (ak (.int 12))=FP at p12 ⊢;z_go;rw[c0];z_go;rw[p12];z_go;rw[ep];z_go;rw[xac (by lia)];z_go;rw[<-hw,xad h];z_go;rw[<-hl,c1];z_go;rw[xac (by lia)];z_go
noncomputable def Kh (w:Int) (f:Str):D:=.tup [.str "fixed",.str "f",.tup [.str "a"],.tup [.str (lM w),.str f]]
noncomputable def Kl (w s:Int) (f:Str):D:=.tup [.str "slide",.str "f",.tup [.str "a"],.tup [.str (lM w),.str (lM s),.str f]]
theorem V1 {ns:List Int}{w s:Int}(w0:0<=w)(w1:w<=1000000000000)(s0:0<=s)(s1:s<=1000000000000):∃f:Str,Fd f/\zM [.lst (ns.map .int),.int w,.int s] M=some (.v (if ns.getD 0 0 % 2=0 then Kh w f else Kl w s f),M):=by
 have c0:=zN (M:=M) (ns:=ns) (k:=0) (by decide);have c1:=zN (M:=M) (ns:=ns) (k:=1) (by decide);rw[show(0:Int).toNat=0 from rfl]at c0;generalize ns.getD 0 0=v0 at c0 ⊢;generalize ns.getD (1:Int).toNat 0=v1 at c1;obtain⟨f,hf,eF⟩:=Wf (x:=v1);obtain⟨b1, -⟩:=FJ w0 w1;obtain⟨b2, -⟩:=FJ s0 s1;refine⟨f,hf,?_⟩;unfold zM G6 Kh Kl
 by_cases h:v0 % 2=0
 ·rw[xac h];z_go;rw[c1];z_go;rw[eF];z_go;rw[c0];z_go;rw[xac h];z_go;rw[<-Am,b1];z_go
 ·rw[xad h];z_go;rw[c1];z_go;rw[eF];z_go;rw[c0];z_go;rw[xad h];z_go;rw[<-Am,b1];z_go;rw[<-Am,b2];z_go
def ZM (w s:Int)(f:Str):Mm:=[OB w s f,.lst [.int 0],.dtc []]
theorem Wz {x0 x1 x3:D}:zH [.ref 0,.tup [x0,x1,.tup [.str "a"],x3]] [.obj "WindowStation" []]=some (.v .non,[.obj "WindowStation" [("marks",.ref 1)],.lst [.int 0]]):=by kernel_rfl
theorem Wy {w s:Int}{f:Str}{x0 x1 x3:D}(hw:mJ [.tup [x0,x1,.tup [.str "a"],x3]] [.obj "WindowStation" [("marks",.ref 1)],.lst [.int 0]]=some (.v (.tup [.int w,.int s,.str f]),[.obj "WindowStation" [("marks",.ref 1)],.lst [.int 0]])):xT [.ref 0,.tup [x0,x1,.tup [.str "a"],x3]] [.obj "WindowStation" []]=some (.v .non,ZM w s f):=by
 have b0:=Wz (x0:=x0) (x1:=x1) (x3:=x3);have b1:∀row:D,(ao (lH "WindowStation" "width" (aj 0) (s2 aR (aj 2) (ak (.int 0)))) (ao (lH "WindowStation" "step" (aj 0) (s2 aR (aj 2) (ak (.int 1)))) (ao (lH "WindowStation" "fold" (aj 0) (s2 aR (aj 2) (ak (.int 2)))) (ao (lH "WindowStation" "kept" (aj 0) Bh) aC)))) [.val (.ref 0),.val row,.val (.tup [.int w,.int s,.str f])] [.obj "WindowStation" [("marks",.ref 1)],.lst [.int 0]]=some (.nx [.val (.ref 0),.val row,.val (.tup [.int w,.int s,.str f])],ZM w s f):=fun row=>by kernel_rfl
 unfold xT Cy;generalize (ao (lH "WindowStation" "width" (aj 0) _) _)=F1 at b1 ⊢;generalize zH=G at b0 ⊢;generalize mJ=G2 at hw ⊢;generalize D.tup [x0,x1,.tup [.str "a"],x3]=row at *;generalize [E3.Cl.obj "WindowStation" [("marks",.ref 1)],.lst [.int 0]]=N at *;generalize [E3.Cl.obj "WindowStation" []]=N0 at *;z_go;rw[b0];z_go;rw[hw];z_go;rw[b1];z_go
theorem VJ {w s:Int}{f n:Str}{x1 x3:D}(hn:n="fixed"\/n="slide")(hw:∀M,mJ [.tup [.str n,x1,.tup [.str "a"],x3]] M=some (.v (.tup [.int w,.int s,.str f]),M)):zQ [.tup [.str n,x1,.tup [.str "a"],x3]] []=some (.v (.ref 0),ZM w s f):=by
 have mk:wR "WindowStation" xT (au (aj 0) aq) [.val (.tup [.str n,x1,.tup [.str "a"],x3])] []=some (.v (.ref 0),ZM w s f):=XM (M1:=[]) (ds:=[.tup [.str n,x1,.tup [.str "a"],x3]]) rfl (Wy (hw _));have k1:(n=Str.ofString "keep")=False:=by rcases hn with rfl |rfl<;>exact xct (by x_go)
 have k2:(n=Str.ofString "turn")=False:=by rcases hn with rfl |rfl<;>exact xct (by x_go)
 have k3:(n=Str.ofString "share")=False:=by rcases hn with rfl |rfl<;>exact xct (by x_go)
 have k4:(n=Str.ofString "pour")=False:=by rcases hn with rfl |rfl<;>exact xct (by x_go)
 have k5:aG .isin (.str n) (.tup [.str (Str.ofString "fixed"),.str (Str.ofString "slide")])=some (.bl true):=by rcases hn with rfl |rfl<;>kernel_rfl
 clear hw;unfold zQ Hi;generalize wR _ _ _=F at mk ⊢;generalize ZM w s f=M2 at mk ⊢;z_go;simp only[k1,xaY];z_go;simp only[k2,xaY];z_go;simp only[k3,xaY];z_go;simp only[k4,xaY];z_go;rw[k5];z_go;rw[mk];z_go
theorem W9 {w s:Int}{f:Str}:Iv w s f [] 0 [] (ZM w s f ++ [.lst []]):=⟨⟨rfl,rfl,rfl,rfl⟩,⟨.nil,(fun g hg=>nomatch hg),(fun x hx=>nomatch hx),xaf _⟩,by decide,by decide,fun x hx=>nomatch hx⟩
section
variable {M:Mm}{w s mk:Int}{f:Str}{G:SG}{X:List Th}
theorem fin {a0 a4 a7 a8 a9 a10 a11:Slot}{r0 r1 r2:D}{rs:List D}(hf:Fd f)(hr:cu rs (-1)=some (.str f))(v:Iv w s f X mk G M)(s0:0<s)(h:s<=w)(hw:w<=8 * s)(w1:w<=1000000000000)(hl:X.length<=100):
  ∃M',cV (DW [a0,.val (.tup [.int w,.int s]),.val (.tup [r0,r1,r2,.tup rs]),.val (.ref 0),a4,.val (.ref 3),.val (.int mk),a7,a8,a9,a10,a11] M)=some (.v (.bl true),M'):=by
 have ll:=zA s0 h hw X;have gn:=v.g.n;have m1:=v.m1;have eb:∀x∈X.flatMap (adds w s),x.1.1<=2000000000000:=fun x hx=>Vz s0 h w1 v.b hx
 -- what is kept
 obtain⟨ks,M1,k1,k2,k3,k4,kp,ew⟩:=Ib (M:=M) (c:=3) (lo:=mk) (hi:=1000000000000000) (r0:=r0) (r1:=r1) (r2:=r2) v.i.x hf hr s0 h hw hl;have i1:=v.i.kp kp;have h3:∀k,k∈ks ↔ (∃x∈X.flatMap (adds w s),x.1=k)/\mk<k.1:=fun k=>by
  rw[k3]
  constructor
  ·rintro⟨a,b, -⟩;exact⟨a,b⟩
  ·rintro⟨⟨x,hx,rfl⟩,b⟩;have:=eb x hx;exact⟨⟨x,hx,rfl⟩,b,by lia⟩
 obtain⟨E,ek,kp2⟩:=Oe i1 (by lia) k4 (KQ hf v.g k1 k2 h3)
 -- the last mark
 have i2:=i1.kp kp2;obtain⟨ls,M3,l1,l2,l3,l4,kp3,ew2⟩:=Ib (M:=E) (c:=3) (lo:=mk) (hi:=1000000000000000) (r0:=r0) (r1:=r1) (r2:=r2) i2.x hf hr s0 h hw hl;have i3:=i2.kp kp3;obtain⟨G',M4,em,i4,g4⟩:=Oi hf i3 v.g (by lia) (show mk<=1000000000000000 by lia) l1 l2 l3;have dc:=N6 (M:=M3) (f:=f) (L:=X.flatMap (adds w s)) (e:=Dk) (.inl rfl) l4;have gn4:=g4.n;have se:fH (G'.map lO)=some (([]:List WK).map (tri f (X.flatMap (adds w s)))):=KQ hf g4 .nil .nil fun k=>by
  constructor
  ·intro z;exact nomatch z
  ·rintro⟨⟨x,hx,rfl⟩,b⟩;have:=eb x hx;lia
 obtain⟨M5,e5, -⟩:=Oe i4 (by lia) (by simp) se;refine⟨M5,?_⟩;have hR:kh f (X.flatMap (adds w s)) ls mk 1000000000000000=ls.map (gF f (X.flatMap (adds w s))) ++ [.tup [.str "mark",.int 1000000000000000]]:=by
  unfold kh;rw[xac (by lia)]
 have mt:∀y:Slot,bH "WindowStation" "take_in" g_ (aj 3) (au (ak (.int 0)) (au (aX (au (ak (.str "mark")) (au (ak (.int 1000000000000000)) aq))) aq)) [a0,.val (.tup [.int w,.int s]),.val (.tup [r0,r1,r2,.tup rs]),.val (.ref 0),a4,.val (.ref 3),.val (.int mk),a7,a8,y,a10,a11] M3=some (.v (.lst (kh f (X.flatMap (adds w s)) ls mk 1000000000000000)),M4):=fun y=>lC (k:=0) (ds:=[.int 0,.tup [.str "mark",.int 1000000000000000]]) rfl i3.o (lB (by x_go)) (by z_go) em;have fk:=Og (M:=M4) (Q_ (f:=f) (L:=X.flatMap (adds w s)) (ks:=ls) (mk:=mk) (t:=1000000000000000));have eq:aG .eq (.lst (kh f (X.flatMap (adds w s)) ls mk 1000000000000000)) (.lst (kh f (X.flatMap (adds w s)) ls mk 1000000000000000))=some (.bl true):=Yt (by have:=Q9 (f:=f) (L:=X.flatMap (adds w s)) (ks:=ls) (mk:=mk) (t:=1000000000000000);show D.deps _ + 1<=50;lia);have il:(ls.map (gF f (X.flatMap (adds w s)))).length<=800:=by rw[xae];exact l4
 generalize kh f (X.flatMap (adds w s)) ls mk 1000000000000000=R at *;generalize ls.map (gF f (X.flatMap (adds w s)))=I at dc il hR;generalize ls.map (tri f (X.flatMap (adds w s)))=T at ew2 dc;generalize ks.map (tri f (X.flatMap (adds w s)))=T1 at ew ek;rw[xcr]at e5;have q10:∀a9':D,cV (DQ [a0,.val (.tup [.int w,.int s]),.val (.tup [r0,r1,r2,.tup rs]),.val (.ref 0),a4,.val (.ref 3),.val (.int mk),a7,a8,.own I,.val (.lst R),a11] M4)=some (.v (.bl true),M5):=fun _=>by
  unfold DQ;z_go;rw[fk];z_go;rw[xac (by lia)];z_go;rw[<-hR,eq];z_go;rw[e5];z_go
 have q9:cV (DY [a0,.val (.tup [.int w,.int s]),.val (.tup [r0,r1,r2,.tup rs]),.val (.ref 0),a4,.val (.ref 3),.val (.int mk),a7,a8,.own I,a10,a11] M3)=some (.v (.bl true),M5):=by
  have q:=q10 .non;unfold DY;generalize DQ=nx at q ⊢;generalize bH _ _ _ _ _=F at mt ⊢;z_go;rw[mt];z_go;exact q
 have q8:cV (DX [a0,.val (.tup [.int w,.int s]),.val (.tup [r0,r1,r2,.tup rs]),.val (.ref 0),a4,.val (.ref 3),.val (.int mk),a7,a8,a9,a10,a11] E)=some (.v (.bl true),M5):=by
  unfold DX;generalize DY=nx at q9 ⊢;z_go;rw[ew2];z_go;rw[dc];z_go;exact q9
 unfold DW;generalize DX=nx at q8 ⊢;z_go;rw[ew];z_go;rw[ek];z_go;exact q8
end
theorem main {ns:List Int}{w s:Int}{f:Str}{r0 r1 r2:D}{rs:List D}{a0:D}{k0 k1:Str}(hl:ns.length<=63)(hf:Fd f)(hr:cu rs (-1)=some (.str f))(s0:0<s)(h:s<=w)(hw:w<=8 * s)(w1:w<=1000000000000):
  ∃M',cV (DR [.val (.lst (ns.map .int)),.val (.tup [.int w,.int s]),.val (.tup [r0,r1,r2,.tup rs]),.val (.ref 0),.val (.lst [.str k0,.str k1,.str "zebra"]),.val (.ref 3),.val (.int 0),.un,.un,.un,.un,.un] (ZM w s f ++ [.lst []]))=some (.v (.bl true),M'):=by
 have i0:=W9 (w:=w) (s:=s) (f:=f);unfold DR;generalize ZM w s f ++ [E3.Cl.lst []]=N0 at i0 ⊢;generalize h7:DW=nx7;z_go;rw[Vm, <-h7];have cl:=Vl ns (some 2) (some 60);generalize dH ns (some 2) (some 60)=es at cl;refine XC (Q:=fun o=>∃M,cV (rG _ o)=some (.v (.bl true),M)) (fun k env N=>∃(X:List Th) (mk:Int) (G:SG) (s7 s8 s9 s10 s11:E3.Slot),X.length<=k/\Iv w s f X mk G N/\env=[.val (.lst (ns.map .int)),.val (.tup [.int w,.int s]),.val (.tup [r0,r1,r2,.tup rs]),.val (.ref 0),.val (.lst [.str k0,.str k1,.str "zebra"]),.val (.ref 3),.val (.int mk),s7,s8,s9,s10,s11]) ⟨[],0,[],_,_,_,_,_,xaf _,i0,rfl⟩ ?_ ?_
 ·rintro k d env N hd ⟨X,mk,G,s7,s8,s9,s10,s11,hk,v,rfl⟩;rw[xaw,xah]at hd;obtain⟨n,hn,rfl⟩:=hd;have kl:=(xai.mp hn).1;refine⟨by simp,?_⟩;simp only[xcE,xcd]
  by_cases hc:n % 3=0
  ·obtain⟨G',M',b9,b10,e,v'⟩:=zcu (c:=n) (a0:=.val (.lst (ns.map .int))) (a4:=.val (.lst [.str k0,.str k1,.str "zebra"])) (a8:=s8) (a9:=s9) (a10:=s10) (a11:=s11) (r0:=r0) (r1:=r1) (r2:=r2) hf hr v s0 h hw (by lia) hc rfl;rw[e];exact⟨X,_,G',_,_,_,_,_,by lia,v',rfl⟩
  ·obtain⟨x,G',M',b9,b10,b11,e,v'⟩:=zbm (c:=n) (a0:=.val (.lst (ns.map .int))) (a8:=s8) (a9:=s9) (a10:=s10) (a11:=s11) (r0:=r0) (r1:=r1) (r2:=r2) (rs:=rs) (k0:=k0) (k1:=k1) hf v s0 h hw (by lia) hc;rw[e];exact⟨X ++ [x],mk,G',_,_,_,_,_,by rw[xam,xaF];lia,v',rfl⟩
 ·rintro env N ⟨X,mk,G,s7,s8,s9,s10,s11,hk,v,rfl⟩;rw[xae]at hk;obtain⟨M',e⟩:=fin (a0:=.val (.lst (ns.map .int))) (a4:=.val (.lst [.str k0,.str k1,.str "zebra"])) (a7:=s7) (a8:=s8) (a9:=s9) (a10:=s10) (a11:=s11) (r0:=r0) (r1:=r1) (r2:=r2) hf hr v s0 h hw w1 (by lia);exact⟨M',by simp only[Bd];exact e⟩
theorem Xl:∀ns:List Int,ns.length<=63->∃M,mO [.lst (ns.map D.int)] []=some (.v (.bl true),M):=by
 intro ns hl;obtain⟨w,s,s0,h1,w1,hw,hws,es⟩:=V2 (M:=[]) (ns:=ns);obtain⟨f,hf,er⟩:=V1 (M:=[]) (ns:=ns) (w:=w) (s:=s) (by lia) w1 (by lia) (by lia);obtain⟨b1,b2⟩:=FJ (n:=w) (by lia) w1;obtain⟨b3,b4⟩:=FJ (n:=s) (by lia) (by lia);have c1:=fun N=>zN (M:=N) (ns:=ns) (k:=1) (by decide);generalize ns.getD (1:Int).toNat 0=v1 at c1;obtain⟨k0,k1,ek⟩:=VL (c:=v1 / 7);obtain⟨n,r3,rs,e4,hn,hr,hwin⟩:∃(n:Str) (r3:D) (rs:List D),(if ns.getD 0 0 % 2=0 then Kh w f else Kl w s f)=.tup [.str n,.str "f",.tup [.str "a"],.tup rs]/\(n="fixed"\/n="slide")/\cu rs (-1)=some (.str f)/\∀M,mJ [.tup [.str n,.str "f",.tup [.str "a"],.tup rs]] M=some (.v (.tup [.int w,.int s,.str f]),M):=by
  by_cases h:ns.getD 0 0 % 2=0
  ·rw[xac h,hws h];exact⟨"fixed",.non,_,rfl,.inl rfl,rfl,fun M=>V6 b2⟩
  ·rw[xad h];exact⟨"slide",.non,_,rfl,.inr rfl,rfl,fun M=>V7 b2 b4⟩
 rw[e4]at er;have st:=VJ hn hwin;obtain⟨M',q⟩:=main (ns:=ns) (w:=w) (s:=s) (f:=f) (r0:=.str n) (r1:=.str "f") (r2:=.tup [.str "a"]) (rs:=rs) (a0:=.non) (k0:=k0) (k1:=k1) hl hf hr s0 h1 hw w1;refine⟨M',?_⟩;have zl:(ZM w s f).length=3:=rfl;clear hwin;generalize D.tup [.str n,.str "f",.tup [.str "a"],.tup rs]=row at er st q;generalize ZM w s f=N at st q zl;unfold mO Oz CT;generalize h1:Jk=nx1;z_go;rw[es];z_go;rw[<-h1];unfold Jk;generalize h2:Jl=nx2;z_go;rw[er];z_go;rw[<-h2];unfold Jl;generalize h3:Jm=nx3;z_go;rw[st];z_go;rw[<-h3];unfold Jm;generalize h4:Jo=nx4;z_go;rw[c1];z_go;rw[ek];z_go;rw[<-h4];unfold Jo;generalize h5:Jp=nx5;z_go;rw[zl, <-h5];unfold Jp;generalize DR=nx6 at q ⊢;z_go;exact q
theorem Xm {l:PySem.W.OpenLaw}{w:World}{K:Fgx}{mg:Mgx}{C:Ad}{h base:Heap}{f17 f18 f19 f20 f21 f22 f23 f24 f25 f26 f27:Addr}{d17 d18 d19 d20 d21 d22 d23 d24 d25 d26 d27:FuncData}(X:K.In h)(G:h.Ns mainGlobals mg)(T:Txt K mg C w)
  (F0:bQ K "window_of" Fw)
  (F1:bQ K "item_of" Fq)
  (F2:bQ K "first_of" Fp)
  (F3:bQ K "merged" Ft)
  (F4:bQ K "ends_of" Fo)
  (F5:bQ K "station_of" Fv)
  (F6:bQ K "_law_whole" Fl)
  (F7:bQ K "_law_cell_at" Ey)
  (F8:bQ K "_law_sizes" Fi)
  (F9:bQ K "_law_row" Fg)
  (F10:bQ K "_law_ends" Ez)
  (F11:bQ K "_law_fold" EY)
  (F12:bQ K "_law_windows" Bm)
  (F13:bQ K "_law_kinds" Fe)
  (F14:bQ K "_law_keys" Fb)
  (F15:bQ K "_law_thing" Fj)
  (F16:bQ K "_law_kept" E_)
  (D17:DefAt K mg "law" lK ["_law_script"] f17 d17)
  (D18:IniAt K C.WindowStation "WindowStation.__init__" sV ["self","row"] f18 d18)
  (D19:MetAt K C.WindowStation "take_thing" "WindowStation.take_thing" tM ["self","way","thing"] f19 d19)
  (D20:MetAt K C.WindowStation "close_at" "WindowStation.close_at" sX ["self","low"] f20 d20)
  (D21:MetAt K C.WindowStation "all_kept" "WindowStation.all_kept" sW ["self"] f21 d21)
  (D22:MetAt K C.WindowStation "low" "Station.low" sY ["self"] f22 d22)
  (D23:MetAt K C.WindowStation "take_in" "Station.take_in" tK ["self","way","item"] f23 d23)
  (D24:MetAt K C.WindowStation "take_mark" "Station.take_mark" tL ["self","way","mark"] f24 d24)
  (D25:MetAt K C.WindowStation "tell_low" "Station.tell_low" tO ["self","low"] f25 d25)
  (D26:MetAt K C.WindowStation "state" "Station.state" sZ ["self"] f26 d26)
  (D27:BasAt K C.Station "Station.__init__" sU ["self","row"] f27 d27)
  :FnOk l.prog w K mg base fY wF f17 d17 ["_law_script"] (nW K mg 1 mO):=by
 have A0:bB l.prog w K mg base 1 "window_of" 1 mJ:=(F0.ok X G RN (fun _=>zap (k:=0) T) :);have A1:bB l.prog w K mg base 1 "item_of" 1 Dp:=(F1.ok X G RJ (fun _=>zaN (k:=0) T) :);have A2:bB l.prog w K mg base 1 "first_of" 2 zP:=(F2.ok X G RG (fun _=>zaz (k:=0) T) :);have A3:bB l.prog w K mg base 1 "merged" 3 wB:=(F3.ok X G RL (fun _=>zbc (k:=0) T) :);have A4:bB l.prog w K mg base 1 "ends_of" 3 zO:=(F4.ok X G RD (fun _=>zaH (k:=0) T) :);have A27:mZ l.prog w K mg base 1 "Station" "__init__" 2 zH:=(D27.ok (b:=GP) T.cl_Station.mg Ra (zaa (k:=0) T) :);have A18:m7 l.prog w K mg base 2 C.WindowStation 2 xT:=⟨_,_,_,D18.M,k_ (b:=Cy) D18.F Rb (by decide) (zae (k:=1) T A0.up A27.up),D18.b⟩;have A5:bB l.prog w K mg base 4 "station_of" 1 zQ:=(F5.ok X G RM (fun _=>zan (k:=3) (k0:=2) T rfl A18.up) :);have A6:bB l.prog w K mg base 1 "_law_whole" 1 mH:=(F6.ok X G Rz (fun _=>za7 (k:=0) T) :);have A7:bB l.prog w K mg base 1 "_law_cell_at" 2 mG:=(F7.ok X G Rp (fun _=>zay (k:=0) T) :);have A8:bB l.prog w K mg base 2 "_law_sizes" 1 xX:=(F8.ok X G Rx (fun _=>za0 (k:=1) T A7.up) :);have A9:bB l.prog w K mg base 2 "_law_row" 3 zM:=(F9.ok X G Rw (fun _=>zdk (k:=1) T A7.up) :);have A10:bB l.prog w K mg base 1 "_law_ends" 3 zJ:=(F10.ok X G Rq (fun _=>zb3 (k:=0) T) :);have A11:bB l.prog w K mg base 1 "_law_fold" 2 zK:=(F11.ok X G Rr (fun _=>zbJ (k:=0) T) :);have A12:bB l.prog w K mg base 2 "_law_windows" 5 wA:=(F12.ok X G RB (fun _=>zax (k:=1) T A10.up A11.up) :);have A13:bB l.prog w K mg base 2 "_law_kinds" 1 xW:=(F13.ok X G Rv (fun _=>zbf (k:=1) T A6.up) :);have A14:bB l.prog w K mg base 1 "_law_keys" 1 zL:=(F14.ok X G Ru (fun _=>zbX (k:=0) T) :);have A15:bB l.prog w K mg base 1 "_law_thing" 4 xY:=(F15.ok X G Ry (fun _=>zbi (k:=0) T) :);have A21:cX l.prog w K mg base 1 C.WindowStation "all_kept" 1 wg:=⟨_,_,_,D21.M,k_ (b:=Cz) D21.F Rf (by decide) (zad (k:=0) T),D21.b⟩;have A26:cX l.prog w K mg base 2 C.WindowStation "state" 1 lu:=⟨_,_,_,D26.M,k_ (b:=CK) D26.F Ri (by decide) (zai (k:=1) T A21.up),D26.b⟩;have A16:bB l.prog w K mg base 3 "_law_kept" 3 xV:=(F16.ok X G Rt (fun _=>zbW (k:=2) T A6.up A26.up) :);have A19:cX l.prog w K mg base 2 C.WindowStation "take_thing" 3 wu:=⟨_,_,_,D19.M,k_ (b:=CN) D19.F Rn (by decide) (zab (k:=1) T A2.up A3.up A4.up),D19.b⟩;have A22:cX l.prog w K mg base 1 C.WindowStation "low" 1 pO:=⟨_,_,_,D22.M,k_ (b:=CJ) D22.F Rh (by decide) (zaj (k:=0) T),D22.b⟩;have A20:cX l.prog w K mg base 1 C.WindowStation "close_at" 2 xU:=⟨_,_,_,D20.M,k_ (b:=CG) D20.F Rg (by decide) (zaf (k:=0) T),D20.b⟩;have A25:cX l.prog w K mg base 2 C.WindowStation "tell_low" 2 wz:=⟨_,_,_,D25.M,k_ (b:=CP) D25.F Ro (by decide) (zag (k:=1) T A1.up A20.up),D25.b⟩;have A24:cX l.prog w K mg base 3 C.WindowStation "take_mark" 3 wj:=⟨_,_,_,D24.M,k_ (b:=yX) D24.F Rm (by decide) (zac (k:=2) T A22.up A25.up),D24.b⟩;have A23:cX l.prog w K mg base 4 C.WindowStation "take_in" 3 g_:=⟨_,_,_,D23.M,k_ (b:=yW) D23.F Rj (by decide) (zah (k:=3) T A19.up A24.up),D23.b⟩;exact k_ (b:=CT) D17.F RK (by decide) (zdI (k:=4) T A5.up A7.up A8.up A9.up A12.up A13.up A14.up A15.up A16.up A23.up A26.up)
theorem all_mk {l:W.OpenLaw}{w:World}{K:W.Frag}{h:Heap}{mg:Mgx}{fa:Addr}(X:K.In h)(G:h.Ns mainGlobals mg)(hfa:mg "law"=some (.ref fa))
  (j6:W.nsIn K mainGlobals "Station"=some (some (.ref j7)))
  (j8:W.nsIn K mainGlobals "WindowStation"=some (some (.ref j9)))
  (jc:W.nsIn K mainGlobals "DamError"=some (some (.ref jd)))
  (je:W.nsIn K mainGlobals "NoExpr"=some (some (.ref jf)))
  (jg:W.plainGet K j7 Str.empty=true) (jh:W.hasDictIn K j7=true) (ji:W.plainOver K j7=true) (jm:W.findIn K (.ref j7) "__setattr__"=some (some (.builtin "object.__setattr__")))
  (jo:W.plainGet K j9 Str.empty=true) (jq:W.hasDictIn K j9=true) (jr:W.plainOver K j9=true) (jt:W.findIn K (.ref j9) "__setattr__"=some (some (.builtin "object.__setattr__")))
  (ju:W.findIn K (.ref j9) "fold"=some none)
  (jw:W.findIn K (.ref j9) "kept"=some none)
  (jy:W.findIn K (.ref j9) "marks"=some none)
  (jz:W.findIn K (.ref j9) "step"=some none)
  (jA:W.findIn K (.ref j9) "width"=some none)
  (jB:kY K jd=true)
  (jC:kY K jf=true)
  (jD:T_ K jf=true) (jE:W.keepIn K (.ref jf)=true) (jF:Gk K jf=true)
  (F0:bQ K "window_of" Fw)
  (F1:bQ K "item_of" Fq)
  (F2:bQ K "first_of" Fp)
  (F3:bQ K "merged" Ft)
  (F4:bQ K "ends_of" Fo)
  (F5:bQ K "station_of" Fv)
  (F6:bQ K "_law_whole" Fl)
  (F7:bQ K "_law_cell_at" Ey)
  (F8:bQ K "_law_sizes" Fi)
  (F9:bQ K "_law_row" Fg)
  (F10:bQ K "_law_ends" Ez)
  (F11:bQ K "_law_fold" EY)
  (F12:bQ K "_law_windows" Bm)
  (F13:bQ K "_law_kinds" Fe)
  (F14:bQ K "_law_keys" Fb)
  (F15:bQ K "_law_thing" Fj)
  (F16:bQ K "_law_kept" E_)
  (a17:W.nsIn K mainGlobals "law"=some (some (.ref f17))) (l17:K.lookup f17=some ⟨oc17,od17,.func (W.fnOf "law" "law" (b_ lK) (bO lK) (aM lK) .none kV17 dc17 pm17 an17 cd17 ct17),sl17⟩) (c17:W.codeIn K cd17 "law"=true) (k17:W.keepIn K (.ref f17)=true)
  (a18:W.findIn K (.ref j9) "__init__"=some (some (.ref f18))) (l18:K.lookup f18=some ⟨oc18,od18,.func (W.fnOf "__init__" "WindowStation.__init__" (b_ sV) (bO sV) (aM sV) .none kV18 dc18 pm18 an18 cd18 ct18),sl18⟩) (c18:W.codeIn K cd18 "WindowStation.__init__"=true) (k18:W.keepIn K (.ref f18)=true)
  (n18:W.isFn K (.ref f18)=true)
  (w18:W.makesIn K j9=true) (y18:W.keepIn K (.ref j9)=true)
  (a19:W.findIn K (.ref j9) "take_thing"=some (some (.ref f19))) (l19:K.lookup f19=some ⟨oc19,od19,.func (W.fnOf "take_thing" "WindowStation.take_thing" (b_ tM) (bO tM) (aM tM) .none kV19 dc19 pm19 an19 cd19 ct19),sl19⟩) (c19:W.codeIn K cd19 "WindowStation.take_thing"=true) (k19:W.keepIn K (.ref f19)=true)
  (n19:W.isFn K (.ref f19)=true)
  (a20:W.findIn K (.ref j9) "close_at"=some (some (.ref f20))) (l20:K.lookup f20=some ⟨oc20,od20,.func (W.fnOf "close_at" "WindowStation.close_at" (b_ sX) (bO sX) (aM sX) .none kV20 dc20 pm20 an20 cd20 ct20),sl20⟩) (c20:W.codeIn K cd20 "WindowStation.close_at"=true) (k20:W.keepIn K (.ref f20)=true)
  (n20:W.isFn K (.ref f20)=true)
  (a21:W.findIn K (.ref j9) "all_kept"=some (some (.ref f21))) (l21:K.lookup f21=some ⟨oc21,od21,.func (W.fnOf "all_kept" "WindowStation.all_kept" (b_ sW) (bO sW) (aM sW) .none kV21 dc21 pm21 an21 cd21 ct21),sl21⟩) (c21:W.codeIn K cd21 "WindowStation.all_kept"=true) (k21:W.keepIn K (.ref f21)=true)
  (n21:W.isFn K (.ref f21)=true)
  (a22:W.findIn K (.ref j9) "low"=some (some (.ref f22))) (l22:K.lookup f22=some ⟨oc22,od22,.func (W.fnOf "low" "Station.low" (b_ sY) (bO sY) (aM sY) .none kV22 dc22 pm22 an22 cd22 ct22),sl22⟩) (c22:W.codeIn K cd22 "Station.low"=true) (k22:W.keepIn K (.ref f22)=true)
  (n22:W.isFn K (.ref f22)=true)
  (a23:W.findIn K (.ref j9) "take_in"=some (some (.ref f23))) (l23:K.lookup f23=some ⟨oc23,od23,.func (W.fnOf "take_in" "Station.take_in" (b_ tK) (bO tK) (aM tK) .none kV23 dc23 pm23 an23 cd23 ct23),sl23⟩) (c23:W.codeIn K cd23 "Station.take_in"=true) (k23:W.keepIn K (.ref f23)=true)
  (n23:W.isFn K (.ref f23)=true)
  (a24:W.findIn K (.ref j9) "take_mark"=some (some (.ref f24))) (l24:K.lookup f24=some ⟨oc24,od24,.func (W.fnOf "take_mark" "Station.take_mark" (b_ tL) (bO tL) (aM tL) .none kV24 dc24 pm24 an24 cd24 ct24),sl24⟩) (c24:W.codeIn K cd24 "Station.take_mark"=true) (k24:W.keepIn K (.ref f24)=true)
  (n24:W.isFn K (.ref f24)=true)
  (a25:W.findIn K (.ref j9) "tell_low"=some (some (.ref f25))) (l25:K.lookup f25=some ⟨oc25,od25,.func (W.fnOf "tell_low" "Station.tell_low" (b_ tO) (bO tO) (aM tO) .none kV25 dc25 pm25 an25 cd25 ct25),sl25⟩) (c25:W.codeIn K cd25 "Station.tell_low"=true) (k25:W.keepIn K (.ref f25)=true)
  (n25:W.isFn K (.ref f25)=true)
  (a26:W.findIn K (.ref j9) "state"=some (some (.ref f26))) (l26:K.lookup f26=some ⟨oc26,od26,.func (W.fnOf "state" "Station.state" (b_ sZ) (bO sZ) (aM sZ) .none kV26 dc26 pm26 an26 cd26 ct26),sl26⟩) (c26:W.codeIn K cd26 "Station.state"=true) (k26:W.keepIn K (.ref f26)=true)
  (n26:W.isFn K (.ref f26)=true)
  (a27:W.findIn K (.ref j7) "__init__"=some (some (.ref f27))) (l27:K.lookup f27=some ⟨oc27,od27,.func (W.fnOf "__init__" "Station.__init__" (b_ sU) (bO sU) (aM sU) .none kV27 dc27 pm27 an27 cd27 ct27),sl27⟩) (c27:W.codeIn K cd27 "Station.__init__"=true) (k27:W.keepIn K (.ref f27)=true)
  (jG:gW K j7 f27 "__init__"=true)
  (jH:W.nsIn K mainGlobals "int"=some none)
  (jJ:W.nsIn K mainGlobals "min"=some none)
  (jK:W.nsIn K mainGlobals "max"=some none)
  (jM:W.nsIn K mainGlobals "list"=some none)
  (jN:W.nsIn K mainGlobals "reversed"=some none)
  (jO:W.nsIn K mainGlobals "isinstance"=some none)
  (jP:W.nsIn K mainGlobals "bool"=some none)
  (jQ:W.nsIn K mainGlobals "len"=some none)
  (jR:W.nsIn K mainGlobals "str"=some none)
  (jT:W.nsIn K mainGlobals "sum"=some none)
  (jU:W.nsIn K mainGlobals "sorted"=some none)
  (jV:W.nsIn K mainGlobals "tuple"=some none)
  (jW:W.nsIn K mainGlobals "range"=some none)
  (jX:W.nsIn K mainGlobals "all"=some none)
  (jY:W.nsIn K mainGlobals "ALL_LETTERS"=some (some (.ref jZ))) (qb:K.lookup jZ=some ⟨.type "tuple",qe,.seq #[.str "t" qg,.str "v" qj,.str "w" ql] qm,qp⟩)
  (qt:W.nsIn K mainGlobals "NEEDS"=some (some (.ref qu)))
  (qw:K.lookup qu=some ⟨.type "dict",none,.dict #[⟨qx,.str "+" qy,.ref qz⟩,⟨qC,.str "-" qD,.ref qF⟩,⟨qG,.str "*" qH,.ref qI⟩,⟨qJ,.str "least" qK,.ref qL⟩,⟨qM,.str "most" qN,.ref qO⟩,⟨qP,.str "<" qQ,.ref qR⟩,⟨qT,.str "=" qU,.ref qW⟩,⟨qX,.str "not" qY,.ref qZ⟩,⟨o7,.str "and" o8,.ref o9⟩,⟨oh,.str "or" ou,.ref oA⟩] oE, #[]⟩) (oF:(qu==sysModules)=false)
  (oG:qx=hashStr w "+")
  (oH:K.lookup qz=some ⟨.type "tuple",oJ,.seq #[.str "number" oK,.str "number" oM,.int 2 oN] oO,oR⟩)
  (oU:qC=hashStr w "-")
  (oV:K.lookup qF=some ⟨.type "tuple",oW,.seq #[.str "number" oX,.str "number" oY,.int 2 oZ] iy,iz⟩)
  (iC:qG=hashStr w "*")
  (iD:K.lookup qI=some ⟨.type "tuple",iG,.seq #[.str "number" iH,.str "number" iI,.int 2 iJ] iK,iM⟩)
  (iQ:qJ=hashStr w "least")
  (iR:K.lookup qL=some ⟨.type "tuple",iT,.seq #[.str "number" iU,.str "number" iV,.int 2 iW] iY,iZ⟩)
  (u9:qM=hashStr w "most")
  (ud:K.lookup qO=some ⟨.type "tuple",uf,.seq #[.str "number" ug,.str "number" uh,.int 2 uo] uq,uw⟩)
  (ux:qP=hashStr w "<")
  (uy:K.lookup qR=some ⟨.type "tuple",uz,.seq #[.str "truth" uD,.str "number" uE,.int 2 uF] uG,uH⟩)
  (uI:qT=hashStr w "=")
  (uJ:K.lookup qW=some ⟨.type "tuple",uK,.seq #[.str "truth" uM,.str "number" uN,.int 2 uO] uP,uQ⟩)
  (uR:qX=hashStr w "not")
  (uT:K.lookup qZ=some ⟨.type "tuple",uU,.seq #[.str "truth" uV,.str "truth" uW,.int 1 uX] uY,uZ⟩)
  (v7:o7=hashStr w "and")
  (v8:K.lookup o9=some ⟨.type "tuple",v9,.seq #[.str "truth" vA,.str "truth" vB,.int 2 vC] vD,vG⟩)
  (vH:oh=hashStr w "or")
  (vI:K.lookup oA=some ⟨.type "tuple",vJ,.seq #[.str "truth" vK,.str "truth" vL,.int 2 vM] vN,vO⟩)
  (vP:W.nsIn K mainGlobals "FIGURES"=some (some (.str "0123456789" vQ)))
  (vR:W.nsIn K mainGlobals "MOST_FIGURES"=some (some (.int 20 vU)))
  (vV:W.nsIn K mainGlobals "MOST_VALUE"=some (some (.int 1000000000000000000000000000000000000000000000000000000000000 vX)))
  (vY:W.nsIn K mainGlobals "LAST"=some (some (.int 1000000000000000 vZ)))
  (rA:W.nsIn K mainGlobals "LETTERS"=some (some (.str "abcdefghijklmnopqrstuvwxyz" rB)))
  (rC:W.nsIn K mainGlobals "COND_LETTERS"=some (some (.str "tv" rE)))
  :∃fd:FuncData,(∀(s:Shared) (v:Value),BindsTo s fd ⟨[v],[]⟩ [("_law_script",v)])/\∀base:Heap,K.In base->base.Ns mainGlobals mg->FnOk l.prog w K mg base fY wF fa fd ["_law_script"] (Bt K mO):=by
 have e:=hfa.symm.trans (xcq X G a17);cases e;have T:Txt (w:=w) K mg ⟨j7,j9,jd,jf⟩:=⟨by simp only[yZ,xaq,List.not_mem_nil,or_false,forall_eq_or_imp,forall_eq];exact⟨xbv X G jH,xbv X G jJ,xbv X G jK,xbv X G jM,xbv X G jN,xbv X G jO,xbv X G jP,xbv X G jQ,xbv X G jR,xbv X G jT,xbv X G jU,xbv X G jV,xbv X G jW,xbv X G jX⟩,⟨xcq X G j6,jg,jh,ji,jm⟩,⟨xcq X G j8,jo,jq,jr,jt⟩,ju,jw,jy,jz,jA,xcq X G jc,jB,xcq X G je,jC,jD,jE,jF,⟨_,xcq X G jY,O6 (vs:=[(.str "t"),(.str "v"),(.str "w")]) (its:= #[.str "t" _,.str "v" _,.str "w" _]) (o:=⟨.type "tuple",_,.seq #[.str "t" _,.str "v" _,.str "w" _] _,_⟩) qb rfl rfl (by show 3<=sizeLine;decide) (.cons ⟨_,rfl⟩ (.cons ⟨_,rfl⟩ (.cons ⟨_,rfl⟩ (.nil)))) (fun _ _=>⟨_,_,rfl,rfl,⟨_,_,rfl,rfl,⟨_,_,rfl,rfl,rfl⟩⟩⟩)⟩,⟨_,xcq X G qt,_,_,_,_,qw,⟨rfl,rfl,rfl⟩,rfl,.cons (v:=.ref qz) oG rfl (nF oH) (.cons (v:=.ref qF) oU rfl (nF oV) (.cons (v:=.ref qI) iC rfl (nF iD) (.cons (v:=.ref qL) iQ rfl (nF iR) (.cons (v:=.ref qO) u9 rfl (nF ud) (.cons (v:=.ref qR) ux rfl (nF uy) (.cons (v:=.ref qW) uI rfl (nF uJ) (.cons (v:=.ref qZ) uR rfl (nF uT) (.cons (v:=.ref o9) v7 rfl (nF v8) (.cons (v:=.ref oA) vH rfl (nF vI) (.nil)))))))))),by x_go,oF⟩,⟨_,xcq X G vP⟩,⟨_,xcq X G vR⟩,⟨_,xcq X G vV⟩,⟨_,xcq X G vY⟩,⟨_,xcq X G rA⟩,⟨_,xcq X G rC⟩⟩;have D17:DefAt K mg "law" lK ["_law_script"] _ _:=⟨xcq X G a17,lg l17 c17 k17,(lq (st:=lK) l17 c17 k17).binds (ps:=["_law_script"]) fun _ _ _ _ _ _ us hl=>match us,hl with | [_],_=>rfl⟩
 have D18:IniAt K j9 "WindowStation.__init__" sV ["self","row"] _ _:=⟨⟨w18,a18,n18,y18⟩,lg l18 c18 k18,(lq (st:=sV) l18 c18 k18).binds (ps:=["self","row"]) fun _ _ _ _ _ _ us hl=>match us,hl with | [_,_],_=>rfl⟩
 have D19:MetAt K j9 "take_thing" "WindowStation.take_thing" tM ["self","way","thing"] _ _:=⟨⟨a19,n19,k19⟩,lg l19 c19 k19,(lq (st:=tM) l19 c19 k19).binds (ps:=["self","way","thing"]) fun _ _ _ _ _ _ us hl=>match us,hl with | [_,_,_],_=>rfl⟩
 have D20:MetAt K j9 "close_at" "WindowStation.close_at" sX ["self","low"] _ _:=⟨⟨a20,n20,k20⟩,lg l20 c20 k20,(lq (st:=sX) l20 c20 k20).binds (ps:=["self","low"]) fun _ _ _ _ _ _ us hl=>match us,hl with | [_,_],_=>rfl⟩
 have D21:MetAt K j9 "all_kept" "WindowStation.all_kept" sW ["self"] _ _:=⟨⟨a21,n21,k21⟩,lg l21 c21 k21,(lq (st:=sW) l21 c21 k21).binds (ps:=["self"]) fun _ _ _ _ _ _ us hl=>match us,hl with | [_],_=>rfl⟩
 have D22:MetAt K j9 "low" "Station.low" sY ["self"] _ _:=⟨⟨a22,n22,k22⟩,lg l22 c22 k22,(lq (st:=sY) l22 c22 k22).binds (ps:=["self"]) fun _ _ _ _ _ _ us hl=>match us,hl with | [_],_=>rfl⟩
 have D23:MetAt K j9 "take_in" "Station.take_in" tK ["self","way","item"] _ _:=⟨⟨a23,n23,k23⟩,lg l23 c23 k23,(lq (st:=tK) l23 c23 k23).binds (ps:=["self","way","item"]) fun _ _ _ _ _ _ us hl=>match us,hl with | [_,_,_],_=>rfl⟩
 have D24:MetAt K j9 "take_mark" "Station.take_mark" tL ["self","way","mark"] _ _:=⟨⟨a24,n24,k24⟩,lg l24 c24 k24,(lq (st:=tL) l24 c24 k24).binds (ps:=["self","way","mark"]) fun _ _ _ _ _ _ us hl=>match us,hl with | [_,_,_],_=>rfl⟩
 have D25:MetAt K j9 "tell_low" "Station.tell_low" tO ["self","low"] _ _:=⟨⟨a25,n25,k25⟩,lg l25 c25 k25,(lq (st:=tO) l25 c25 k25).binds (ps:=["self","low"]) fun _ _ _ _ _ _ us hl=>match us,hl with | [_,_],_=>rfl⟩
 have D26:MetAt K j9 "state" "Station.state" sZ ["self"] _ _:=⟨⟨a26,n26,k26⟩,lg l26 c26 k26,(lq (st:=sZ) l26 c26 k26).binds (ps:=["self"]) fun _ _ _ _ _ _ us hl=>match us,hl with | [_],_=>rfl⟩
 have D27:BasAt K j7 "Station.__init__" sU ["self","row"] _ _:=⟨jG,lg l27 c27 k27,(lq (st:=sU) l27 c27 k27).binds (ps:=["self","row"]) fun _ _ _ _ _ _ us hl=>match us,hl with | [_,_],_=>rfl⟩
 refine⟨W.fnOf "law" "law" (b_ lK) (bO lK) (aM lK) .none kV17 dc17 pm17 an17 cd17 ct17,fun s v=>.of_eq rfl,fun base _ _=>Wb ?_⟩;exact Xm X G T F0 F1 F2 F3 F4 F5 F6 F7 F8 F9 F10 F11 F12 F13 F14 F15 F16 D17 D18 D19 D20 D21 D22 D23 D24 D25 D26 D27
end My
open PySem PySem.W PyProof.Rows
set_option maxRecDepth 100000 in
set_option maxHeartbeats 0 in
theorem PySem.Challenge.cw_rowdam_k43_windows_holds : PySem.Challenge.rw_rowdam_k43_windows.Holds := by
 w_on;refine HQ.two "special-get-raises" My.he My.hAf My.hBf My.hAt My.hBt ?_
 k_fill
 refine E3.zbV (l:=PySem.Challenge.rw_rowdam_k43_windows) (k:=My.wF) (g:=My.mO) (x:="_law_script") rfl rfl ⟨rfl,by decide,by decide⟩ (fun w h Y=>by first |exact PySem.W.kIn_of Y |exact PySem.W.km_in_of Y) ?F My.Xl
 case F=>
  intro w mg fa h KX G hmg
  refine' My.all_mk KX G hmg ?j6 ?j8 ?jc ?je ?jg ?jh ?ji ?jm ?jo ?jq ?jr ?jt ?ju ?jw ?jy ?jz ?jA ?jB ?jC ?jD ?jE ?jF ?F0 ?F1 ?F2 ?F3 ?F4 ?F5 ?F6 ?F7 ?F8 ?F9 ?F10 ?F11 ?F12 ?F13 ?F14 ?F15 ?F16 ?a17 ?l17 ?c17 ?k17 ?a18 ?l18 ?c18 ?k18 ?n18 ?w18 ?y18 ?a19 ?l19 ?c19 ?k19 ?n19 ?a20 ?l20 ?c20 ?k20 ?n20 ?a21 ?l21 ?c21 ?k21 ?n21 ?a22 ?l22 ?c22 ?k22 ?n22 ?a23 ?l23 ?c23 ?k23 ?n23 ?a24 ?l24 ?c24 ?k24 ?n24 ?a25 ?l25 ?c25 ?k25 ?n25 ?a26 ?l26 ?c26 ?k26 ?n26 ?a27 ?l27 ?c27 ?k27 ?jG ?jH ?jJ ?jK ?jM ?jN ?jO ?jP ?jQ ?jR ?jT ?jU ?jV ?jW ?jX ?jY ?qb ?qt ?qw ?oF ?oG ?oH ?oU ?oV ?iC ?iD ?iQ ?iR ?u9 ?ud ?ux ?uy ?uI ?uJ ?uR ?uT ?v7 ?v8 ?vH ?vI ?vP ?vR ?vV ?vY ?rA ?rC
  (case j6 |j8 |jc |je |jg |jh |ji |jm |jo |jq |jr |jt |ju |jw |jy |jz |jA=>k_is);(case jB |jC |jD=>kernel_rfl);(case jE=>k_is);(case jF=>refine E3.zcO (E3.zdi ?_ ?_ ?_) ?_ ?_ ?_ ?_ ?_<;>k_is);(case a17 |l17 |c17 |k17 |a18 |l18 |c18 |k18=>k_is);(case n18 |w18=>kernel_rfl);(case y18 |a19 |l19 |c19 |k19=>k_is);(case n19=>kernel_rfl);(case a20 |l20 |c20 |k20=>k_is);(case n20=>kernel_rfl);(case a21 |l21 |c21 |k21=>k_is);(case n21=>kernel_rfl);(case a22 |l22 |c22 |k22=>k_is);(case n22=>kernel_rfl);(case a23 |l23 |c23 |k23=>k_is);(case n23=>kernel_rfl);(case a24 |l24 |c24 |k24=>k_is);(case n24=>kernel_rfl);(case a25 |l25 |c25 |k25=>k_is);(case n25=>kernel_rfl);(case a26 |l26 |c26 |k26=>k_is);(case n26=>kernel_rfl);(case a27 |l27 |c27 |k27=>k_is);(case jG=>kernel_rfl);(case jH |jJ |jK |jM |jN |jO |jP |jQ |jR |jT |jU |jV |jW |jX |jY |qb |qt |qw=>k_is);(case oF=>first |decide +kernel |kernel_rfl);(case oG=>rfl);(case oH=>k_is);(case oU=>rfl);(case oV=>k_is);(case iC=>rfl);(case iD=>k_is);(case iQ=>rfl);(case iR=>k_is);(case u9=>rfl);(case ud=>k_is);(case ux=>rfl);(case uy=>k_is);(case uI=>rfl);(case uJ=>k_is);(case uR=>rfl);(case uT=>k_is);(case v7=>rfl);(case v8=>k_is);(case vH=>rfl);(case vI |vP |vR |vV |vY |rA |rC=>k_is);all_goals (refine' E3.bQ.mk ?a ?l ?c ?k;(case a=>k_is);(case l=>k_is);(case c=>k_is);(case k=>k_is))
