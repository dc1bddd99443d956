import PyProof.Rows.All
import Wide.All
import OpenK.AllK
import Wide.FinOn
import Lean
import PyProof.EqAt
import PyProof.EqKinds
import PyProof.TupleCall
import KE.KIsAll
import KE.KMinKey
import KE.KTupSum
import KE.KxSplit
import KE.KxAffix
import KE.KIntText
import PyProof.NeKinds
import PyProof.Rows.EqBoolInt
import KE.KSortTup
import PyProof.Conv_int_bool
import PySem.Challenge.RW_rowdam_k15_rows_refused
noncomputable section
set_option Elab.async false
set_option linter.all false
set_option compiler.extract_closed false
set_option maxRecDepth 100000
def tG:=@if_pos
def xaa:=@PySem.wpAny_bind
def xab:=@if_neg
def xac:=@Bool.and_eq_true
def xad:=@Nat.le_refl
def xae:=@Option.map_eq_some_iff
def xaf:=@PySem.Heap.get?_push_of_some
def xag:=@List.getElem?_eq_some_iff
def xah:=@List.getElem?_eq_getElem
def xai:=@List.size_toArray
def xaj:=@PySem.wpAny_pure
def xak:=@List.map_cons
theorem xal:type_of%@List.length_cons:=by intros;rfl
def xam:=@List.length_append
def xan:=@List.mem_cons_of_mem
def xao:=@Nat.lt_of_lt_of_le
def xap:=@List.length_map
def xaq:=@List.mem_cons
def xar:=@PySem.Heap.lt_size
def xas:=@List.append_assoc
def xat:=@decide_eq_false
def xau:=@Nat.le_trans
def xav:=@PySem.sizeLine_eq
def xaw:=@Option.some.inj
def xax:=@List.getElem?_map
def xay:=@List.mem_append
def xaz:=@Bool.false_ne_true
def xaA:=@Int.emod_lt_of_pos
def xaB:=@decide_eq_true_eq
def xaC:=@decide_eq_true
def xaD:=@List.mem_cons_self
theorem xaE:type_of%@List.length_singleton:=by intros;rfl
def xaF:=@List.mem_singleton
def xaG:=@PySem.boot_len
def xaH:=@List.append_nil
def xaI:=@Nat.le_of_lt_succ
def xaJ:=@PySem.Heap.get?_push_size
def xaK:=@List.mem_map
def xaL:=@List.length_set
def xaM:=@Nat.le_antisymm
def xaN:=@Int.emod_nonneg
def xaO:=@List.all_eq_true
def xaP:=@List.map_append
def xaQ:=@Bool.eq_iff_iff
def xaR:=@Nat.ne_of_lt
def xaS:=@Nat.lt_or_ge
def xaT:=@List.mem_append_right
def xaU:=@List.length_take
theorem xaV:type_of%@Option.map_some:=by intros;rfl
def xaW:=@List.mem_of_getElem?
def xaX:=@List.getElem?_set
def xaY:=@PySem.Obj.data_mapFields
def xaZ:=@beq_iff_eq
def xa0:=@List.getElem?_append_left
def xa2:=@PySem.Heap.get?_update_other
def xa3:=@PySem.wpAny_mono
def xa4:=@List.getElem?_append_right
def xa5:=@PySem.W.kia_one
theorem xa6:type_of%@List.find?_cons:=by intros;rfl
def xa7:=@List.getElem_mem
def xa8:=@PySem.F.excBase_ValueError
def xa9:=@List.map_map
def xba:=@List.length_reverse
def xbb:=@if_true
def xbc:=@of_decide_eq_true
def xbd:=@Array.getElem?_eq_some_iff
def xbe:=@List.length_drop
theorem xbf:type_of%@List.cons_append:=by intros;rfl
def xbg:=@List.take_of_length_le
def xbh:=@List.drop_eq_getElem_cons
def xbi:=@List.mem_of_find?_eq_some
def xbj:=@beq_eq_false_iff_ne
def xbk:=@PySem.wpAny_truthy_bool
def xbl:=@PySem.wpAny_newObj_type
theorem xbm:type_of%@List.any_cons:=by intros;rfl
def xbn:=@PySem.Heap.get?_update_self
def xbo:=@PySem.W.mg_none_of
def xbp:=@Bool.or_eq_true
def xbq:=@PySem.Calls.spliced_cons
def xbr:=@beq_self_eq_true
theorem xbs:type_of%@List.all_cons:=by intros;rfl
def xbt:=@List.getElem?_set_self
def xbu:=@PySem.wpAny_field
def xbv:=@Bool.and_false
theorem xbw:type_of%@Int.toNat_natCast:=by intros;rfl
def xbx:=@PySem.F.slot_str_join
def xby:=@PySem.F.type_str_join
def xbz:=@List.mem_range
def xbA:=@Ne.symm
def xbB:=@List.getElem?_set_ne
def xbC:=@List.mem_iff_getElem
def xbD:=@PySem.W.mg_of
def xbE:=@Nat.lt_irrefl
theorem xbF:type_of%@List.sum_cons:=by intros;rfl
def xbG:=@PySem.W.Looks.here
def xbH:=@PySem.wpAny_Call_Name_kw
def xbI:=@PySem.Obj.isFreed_of_fields
def xbJ:=@List.take_append_drop
def xbK:=@List.mem_or_eq_of_mem_set
def xbL:=@Nat.zero_le
theorem xbM:type_of%@List.length_nil:=by intros;rfl
def xbN:=@Nat.sub_self
def xbO:=@PySem.wpAny_loadPart_at
def xbP:=@Nat.lt_succ_self
def xbQ:=@List.not_mem_nil
def xbR:=@PySem.Calls.callWith_builtin
def xbS:=@PyProof.Rows.callWith_type1
def xbT:=@PySem.wpAny_execs_nil
def xbU:=@PySem.wpAny_passesOwn
def xbV:=@List.cons.injEq
theorem xbW:type_of%@List.nil_append:=by intros;rfl
def xbX:=@PySem.wpAny_holding
def xbY:=@Bool.and_self
def xbZ:=@List.exists_cons_of_ne_nil
def xb0:=@PySem.strLen_append
def xb1:=@PySem.Heap.get?_none_of_le
def xb2:=@Bool.false_and
def xb3:=@PySem.wpAny_setField
def xb4:=@Option.isSome_iff_exists
theorem xb5:type_of%@List.lookup_cons:=by intros;rfl
def xb6:=@List.drop_length
theorem xb7:type_of%@List.filterMap_cons:=by intros;rfl
theorem xb8:type_of%@Array.length_toList:=by intros;rfl
def xb9:=@PySem.mem_of_lookup
def xca:=@Int.toNat_of_nonneg
def xcb:=@PyProof.Rows.slot_tuple_getitem
def xcc:=@List.getElem?_replicate
def xcd:=@PySem.wpAny_getItem_str_slice
def xce:=@Option.bind_eq_some_iff
def xcf:=@List.length_eq_zero_iff
def xcg:=@PySem.Calls.Constant_str
def xch:=@List.mem_filterMap
def xci:=@PySem.W.callWith_K
theorem xcj:type_of%@Option.isSome_some:=by intros;rfl
def xck:=@Nat.not_lt_zero
def xcl:=@List.find?_some
def xcm:=@PySem.F.plainAttrs_str
def xcn:=@PySem.F.slot_str_split
def xco:=@PySem.F.type_str_split
def xcp:=@Bool.not_eq_true'
def xcq:=@List.length_range
def xcr:=@Nat.le_succ_of_le
def xcs:=@PySem.codeAny_mono
def xct:=@PySem.builtinLookup_eq_fast
theorem xcu:type_of%@List.singleton_append:=by intros;rfl
def xcv:=@List.set_append_right
def xcw:=@PySem.W.any_some
def xcx:=@PySem.W.looks_findIn
def xcy:=@PySem.wpAny_call
def xcz:=@PyProof.Rows.boot_tuple
def xcA:=@PyProof.Rows.boot_str
def xcB:=@List.mem_of_mem_take
def xcC:=@Nat.le_succ
def xcD:=@PySem.wpAny_of_eq
def xcE:=@PySem.wpAny_isSubtype_exc
def xcF:=@Nat.add_le_add_left
def xcG:=@List.reverse_append
def xcH:=@Nat.min_eq_left
def xcI:=@List.map_nil
def xcJ:=@Nat.lt_of_le_of_lt
theorem xcK:type_of%@Option.isSome_none:=by intros;rfl
def xcL:=@List.find?_eq_none
theorem xcM:type_of%@List.map_singleton:=by intros;rfl
theorem xcN:type_of%@PySem.typeIs_str:=by intros;rfl
theorem xcO:type_of%@List.tail_cons:=by intros;rfl
def xcP:=@PySem.wpAny_callSpecial?_slot
def xcQ:=@PySem.F.plainAttrs_list
theorem xcR:type_of%@List.getElem?_cons_succ:=by intros;rfl
def xcS:=@List.drop_of_length_le
def xcT:=@Option.map_eq_none_iff
def xcU:=@PySem.wpAny_standAt
def xcV:=@PySem.wpAny_attempt
def xcW:=@PySem.wpAny_call_entry
def xcX:=@Nat.min_eq_right
def xcY:=@PySem.F.slot_dict_get
def xcZ:=@PySem.codeAny_handlers_test
def xc1:=@List.mem_iff_getElem?
def xc2:=@PySem.StrLaws.occ_length_le
def xc3:=@PySem.plainObj_wpAny_Assign_Attribute
def xc4:=@Array.getElem?_setIfInBounds_ne
def xc5:=@List.mem_append_left
def xc6:=@List.nodup_cons
def xc7:=@PyProof.Rows.callWith_builtin1
def xc8:=@PySem.SeqAt.EqAt.same
def xc9:=@PySem.Calls.evalArgs_plain
def xda:=@PySem.wpAny_specialOf
def xdb:=@PySem.post_val_or_str
theorem xdc:type_of%@List.foldl_cons:=by intros;rfl
def xdd:=@PySem.codeAny_call_builtin
def xde:=@PySem.typeLookup_type
def xdf:=@PyProof.Rows.slice_closes_from
def xdh:=@PySem.PassesOwn.never
theorem xdi:type_of%@Option.map_none:=by intros;rfl
def xdj:=@PySem.W.looks_clsIn
def xdk:=@PySem.wpAny_handleBy_cons
def xdl:=@List.getElem?_range
def xdm:=@PySem.Heap.SameBut.update
def xdn:=@Array.toList_append
def xdo:=@List.length_pos_iff
def xdp:=@PySem.wpAny_loadPart
def xdq:=@PySem.isSubtype_type
def xdr:=@or_false
def xds:=@PySem.SeqAt.EqAt.int_str
def xdt:=@PySem.SeqAt.EqAt.str_int
def xdu:=@Array.find?_toList
def xdv:=@PyProof.Rows.slot_tuple_getitem
def xdw:=@PySem.tupleKind_room_in1
def xdx:=@List.contains_cons
def xdy:=@Bool.false_eq_true
def xdz:=@Nat.add_sub_cancel
def xdA:=@PySem.Paired.length
def xdB:=@PySem.Calls.Name_function_global
def xdC:=@Bool.or_false
def xdD:=@Bool.true_and
def xdE:=@PySem.wpAny_assign_Name
def xdF:=@PySem.wpAny_pyIter_list
def xdG:=@PySem.W.kitx_list
def xdH:=@PySem.W.kitx_dict
def xdI:=@PySem.Calls.spliced_nil
def xdJ:=@PySem.Obj.cls_mapFields
def xdK:=@PySem.StrLaws.found_one
def xdL:=@PySem.PassesOwn.leaving
def xdM:=@List.getElem_take
def xdN:=@PySem.codeAny_handlers_suite_as
def xdO:=@Nat.not_le
def xdP:=@Option.isNone_iff_eq_none
def xdQ:=@Nat.ne_of_gt
def xdR:=@PySem.F.args_tuple_add_2
def xdS:=@Nat.min_le_right
theorem xdT:type_of%@Option.getD_none:=by intros;rfl
def xdU:=@PySem.Txt.slice_le
def xdV:=@PySem.wpAny_comprehension_free
def xdW:=@Bool.or_true
def xdX:=@PySem.wpAny_Try_except
def xdY:=@List.all_map
def xdZ:=@PySem.SeqAt.RcAt.lists_lengths
def xd0:=@PySem.F.slot_list_append
def xd1:=@PySem.F.type_list_append
def xd2:=@PySem.F.slot_str_replace
def xd3:=@List.mem_reverse
def xd4:=@PySem.F.entry_tuple_add
def xd5:=@PySem.wpAny_Call_method0_late
def xd6:=@PySem.F.args_dict_get_3
def xd7:=@decide_eq_false_iff_not
def xd8:=@List.of_mem_zip
def xd9:=@PySem.W.cellsFrom_some
def xea:=@PySem.F.slot_tuple_add
def xeb:=@PySem.seqIndex_of
def xec:=@PySem.F.entry_dict_get
def xed:=@PySem.F.slot_str_upper
def xee:=@PySem.Heap.size_push
def xef:=@Array.getElem?_toList
def xeg:=@PySem.wpAny_bindName
def xeh:=@List.drop_zero
def xei:=@List.dropLast_eq_take
theorem xej:type_of%@PySem.Str.cps_append:=by intros;rfl
def xek:=@if_false
def xel:=@Bool.and_eq_true_iff
def xem:=@List.isEmpty_reverse
def xen:=@Nat.pow_le_pow_right
def xeo:=@PySem.wpAny_onRaise
def xep:=@Bool.and_true
def xeq:=@List.map_drop
def xer:=@List.map_take
def xes:=@Bool.or_assoc
def xet:=@PySem.evalArgs_none
def xeu:=@PySem.W.looks_mroIn
def xev:=@List.takeWhile_cons
theorem xew:type_of%@List.replicate_succ:=by intros;rfl
def xex:=@Array.append_assoc
def xey:=@Nat.le_of_lt
def xez:=@Nat.le_of_eq
def xeA:=@PySem.W.kitx_tuple
def xeB:=@List.filterMap_map
def xeC:=@PySem.W.looks_find
def xeD:=@List.set_set
def xeE:=@Nat.min_self
def xeF:=@Int.add_sub_cancel
theorem xeG:type_of%@List.all_nil:=by intros;rfl
theorem xeH:type_of%@List.any_nil:=by intros;rfl
def xeI:=@decide_false
def xeJ:=@List.filter_append
def xeK:=@List.any_eq_false
def xeL:=@PySem.W.set_plain
def xeM:=@Option.isSome_map
def xeN:=@PySem.W.handed_on
def xeO:=@Option.some.injEq
def xeP:=@Bool.eq_false_iff
def xeQ:=@List.all_eq_false
def xeR:=@Int.emod_eq_of_lt
def xeS:=@decide_true
abbrev Fgx:=PySem.W.Frag
abbrev Mgx:=PySem.Str->Option PySem.Value
abbrev Pnx:=List (PySem.Addr×PySem.Obj)
local macro_rules | `(tactic| x_go)=> `(tactic| decide +kernel)
namespace HQ
open PySem PySem.W PySem.Calls PyProof.Rows
noncomputable def Wf {α:Type} (t:BT):(BT->α)->α:= @BT.rec (fun _=>(BT->α)->α) (fun k=>k .nil) (fun v _ _ a b k=>a fun l=>b fun r=>k (.node v l r)) t
theorem Pk {α:Type}:∀(t:BT) (k:BT->α),Wf t k=k t
 |.nil,_=>rfl
 |.node _ l r,_=>(Pk l _).trans (Pk r _)
noncomputable def Pn {α:Type} (n:Nat) (k:Nat->α):α:= @Nat.rec (fun _=>α) (k 0) (fun n _=>k (Nat.succ n)) n
theorem Wg {α:Type}(n:Nat)(k:Nat->α):Pn n k=k n:=by cases n<;>rfl
def frs {α:Type}(s:SharedT)(k:SharedT->α):α:= @SharedT.rec (fun _=>α) (fun T n l g d i o=>Wf T fun T=>Pn n fun n=>Pn i fun i=>k ⟨T,n,l,g,d,i,o⟩) s
def zfZ {α:Type}(s:SharedT)(k:SharedT->α):frs s k=k s:=(Pk _ _).trans ((Wg _ _).trans (Wg _ _))
abbrev qd:Code->Sem Fin:=Fast.tw11892475500146522536 Fast.tw14364793385576792824
noncomputable def Td (p:Program) (w:World):SharedT->Thread->Option (SharedT×Thread)
  |⟨T,n,l,g,d,i,o⟩,⟨c,cd,q,fs⟩=>match c with
    |.load .. |.update .. |.alloc .. |.loadIfAlive .. =>Fast.tw10156331382660048174 qd p w ⟨T,n,l,g,d,i,o⟩ ⟨c,cd,q,fs⟩
    |c=>match Fast.tw8437177126325714943 qd p w ⟨{},g,d,i,o⟩ ⟨c,cd,q,fs⟩ with
      |.go ⟨_,g,d,i,o⟩ t=>some (⟨T,n,l,g,d,i,o⟩,t)
      |.halt _ _=>none
def ziP {p:Program}{w:World}(s:SharedT)(t:Thread):Td p w s t=stepT (denote treeTable) p w s t:=by
 obtain⟨T,n,l,g,d,i,o⟩:=s;obtain⟨c,cd,q,fs⟩:=t;rw[show denote treeTable=qd by unfold qd;rw[<-Fast.te11892475500146522536, <-Fast.te14364793385576792824]];cases c<;>(unfold Td;dsimp only;first |rw[<-Fast.te10156331382660048174] |(unfold stepT;dsimp only;rw[<-Fast.te8437177126325714943];cases step qd p w _ _<;>rfl))
abbrev OS:=Option SharedT
noncomputable def bd (p:Program) (w:World) (n:Nat) (ih:SharedT->Thread->OS) (s:SharedT) (t:Thread):OS:=
 @Bool.rec (fun _=>OS) (@Bool.rec (fun _=>OS) none (@Option.rec _ (fun _=>OS) none (fun r=> @Prod.rec _ _ (fun _=>OS) (fun s t=> @Bool.rec (fun _=>OS) (ih s t) (frs s fun s=>ih s t) (Nat.beq (n % 64) 0)) r) (Td p w s t)) (Fast.tw6613529449190102663 11 (some (.ref 6)) t)) (some s) (through t)
noncomputable def go (p:Program) (w:World) (n:Nat):SharedT->Thread->OS:= @Nat.rec (fun _=>SharedT->Thread->OS) (fun _ _=>none) (bd p w) n
theorem Bc {p:Program}{w:World}:∀{n:Nat} {s s':SharedT} {t:Thread},go p w n s t=some s'->topRun treeTable p w 11 (some (.ref 6)) n s.abs t=some s'.abs
  |0,_,_,_,h=>by cases h
  |n + 1,s,s',t,h=>by
    rw[show go p w (n + 1) s t=bd p w n (go p w n) s t from rfl]at h;unfold bd at h;rw[ziP, <-Fast.te6613529449190102663]at h;unfold topRun
    cases ht:through t with
    |true=>rw[ht]at h;cases h;rfl
    |false=>
      rw[ht]at h
      cases hk:stepOk 11 (some (.ref 6)) t with
      |false=>rw[hk]at h;cases h
      |true=>
        rw[hk]at h
        cases hs:stepT (denote treeTable) p w s t with
        |none=>rw[hs]at h;cases h
        |some r=>
          obtain⟨s₂,t₂⟩:=r;rw[hs]at h;dsimp only at h ⊢;rw[stepT_spec hs];rw[zfZ]at h;exact Bc (by revert h;cases Nat.beq (n % 64) 0<;>exact id)
noncomputable def mkT:List Obj->Nat->BT->BT
 | [],_,t=>t
 |o::l,i,t=>mkT l (i + 1) (t.ins i o)
noncomputable def bS (w:World) (o:OsState):SharedT:=⟨mkT (boot_heap w.params).objs.toList 0 .nil,11,{},⟨[]⟩,boot_drawn,boot_toks,o⟩
theorem zg1 (w:World)(o:OsState):(bS w o).abs=⟨boot_heap w.params,⟨[]⟩,boot_drawn,boot_toks,o⟩:=by kernel_rfl
theorem zgF (P:Params):((boot_heap P).isNs mainGlobals && (Array.mk []:Array GenState).size==0,(boot_heap P).objs.size,(boot_heap P).nsMap mainGlobals "__annotations__")=(true,11,some (.ref 6)):=by kernel_rfl
noncomputable def lst {α:Type} (T:BT) (n:Nat):List Obj->(List Obj->α)->α:=
 @Nat.rec (fun _=>List Obj->(List Obj->α)->α) (fun a k=>k a) (fun i ih a k=> @Option.rec Obj (fun _=>α) (ih (default::a) k) (fun o=> @Obj.rec (fun _=>α) (fun c d t l=>ih (⟨c,d,t,l⟩::a) k) o) (T.get i)) n
theorem Xl {α:Type}(T:BT):∀(n:Nat) (a:List Obj) (k:List Obj->α),lst T n a k=k (T.list n ++ a)
  |0,_,_=>rfl
  |n + 1,a,k=>by
    rw[show T.list (n + 1)=T.list n ++ [(T.get n).getD default] by unfold BT.list;rw[List.range_succ,xaP];rfl,xas];unfold lst;dsimp only;cases T.get n<;>exact Xl T n _ k
noncomputable def U8 {α:Type} (s:SharedT) (k:Shared->α):α:= @SharedT.rec (fun _=>α) (fun T n l g d i o=>lst T n [] fun a=>k ⟨⟨⟨a⟩,l⟩,g,d,i,o⟩) s
def U9 {α:Type}(s:SharedT)(k:Shared->α):U8 s k=k s.abs:=(Xl _ _ _ _).trans (by rw[xaH];rfl)
section
variable {p q:Program}{lo:List Str}{Xt:Shared->Bool}{α:Type}{Yf:Shared->α}{Ya:World->α}{N:Nat}{g0:Bool}{B C:Prop}
abbrev Pre (_:LeftO p q lo Xt Yf Ya N g0/\B->C):Prop:=(opening p=plainProg p.main.scope.names/\∀s,fenceModules? p s=some s)/\Nat.ble 600 N=true
abbrev See {β:Type}(p:Program)(N:Nat)(v:World->World)(f:World->Shared->β)(y:World->β):Prop:=∀w o,(go p (v w) N (bS (v w) o) (topStub p)).map (fun s=>U8 s (f (v w)))=some (y (v w))
abbrev wB (v:World->World)(_:LeftO p q lo Xt Yf Ya N g0/\B->C):Prop:=
 See p N v (fun w s=>(staticsOk (importedModules p.main.body) (boot_heap w.params) s.heap && namesBound p s.heap && gensDone s && laidKept (boot_heap w.params) s.heap,Yf s)) fun w=>(true,Ya w)
abbrev wC (v:World->World)(_:LeftO p q lo Xt Yf Ya N g0/\B->C):Prop:=See p N v (fun _ s=>Fast.tw4187177175401517315 q lo (importedModules p.main.body) Xt g0 s) fun _=>openGood q lo
def left {v:World->World}{H:LeftO p q lo Xt Yf Ya N g0/\B->C}(e:Pre H)(a:wB v H)(b:wC v H)(w:World):
  (openEnds treeTable p (v w) N).map (fun s=>(openSeen q lo (importedModules p.main.body) Xt g0 s,Yf s))=some (openGood q lo,Ya (v w)):=by
 obtain⟨⟨h,gs,d,k,o⟩,e1,e2⟩:=xae.mp (boot_open e.1.1 e.2 e.1.2 (v w));obtain⟨rfl,rfl,rfl,rfl⟩:h=boot_heap (v w).params/\gs=⟨[]⟩/\d=boot_drawn/\k=boot_toks:=by simpa using e2
 obtain⟨s,hs,hv⟩:=xae.mp (a w o);have hb:=b w o;rw[hs,xaV,U9, <-Fast.te4187177175401517315]at hb;rw[U9]at hv;obtain⟨l1,l3⟩:=Prod.mk.inj hv;obtain⟨z1,z2,z3⟩:_/\_/\_:=by simpa only[Prod.mk.injEq] using zgF (v w).params
 have hr:=Bc hs;rw[zg1]at hr;have t:topFrom treeTable p (v w) N ⟨boot_heap (v w).params,⟨[]⟩,boot_drawn,boot_toks,o⟩=some s.abs:=by
  unfold topFrom;dsimp only;rw[z1,z2,z3,hr];dsimp only[Option.bind_some];rw[l1]
 unfold openEnds;rw[e1,Option.bind_some,t];exact congrArg some (Prod.ext (xaw hb) l3)
def two (row:String){H:LeftO p q lo Xt Yf Ya N g0/\B->C}(e:Pre H)(a:wB (·.withFollow row false) H)(b:wC (·.withFollow row false) H)(c:wB (·.withFollow row true) H)(d:wC (·.withFollow row true) H)(hB:B):C:=
 H ⟨fun w=>by
  have x:=left e a b w;have y:=left e c d w;have z:=World.withFollow_self w row;cases h:w.params.followText row<;>rw[h]at z<;>simp only[z]at x y<;>assumption,hB⟩
end
end HQ
section
local macro_rules
  | `(tactic| refine $f:term $as:term*)=>do
    let mut bs:= #[]
    let mut hit:=false
    for a in as do
      if a.raw.isOfKind ``Lean.Parser.Term.syntheticHole && a.raw[1].getId== `hl then
        hit:=true
        bs:=bs.push (<- `((And.left ?hx)))
      else if a.raw.isOfKind ``Lean.Parser.Term.syntheticHole && a.raw[1].getId== `hc then
        bs:=bs.push (<- `((And.right ?hx)))
      else bs:=bs.push a
    if hit then `(tactic| refine $f $bs*) else Lean.Macro.throwUnsupported
set_option maxHeartbeats 0 in
open_top My.hdAll for PySem.Challenge.rw_rowdam_k15_rows_refused
theorem My.he:HQ.Pre My.hdAll:=⟨⟨by kernel_rfl,fun _=>by kernel_rfl⟩,by kernel_rfl⟩
theorem My.hBf:HQ.wC (·.withFollow "special-get-raises" false) My.hdAll:=fun _ _=>by kernel_rfl
theorem My.hBt:HQ.wC (·.withFollow "special-get-raises" true) My.hdAll:=fun _ _=>by kernel_rfl
theorem My.hAf:HQ.wB (·.withFollow "special-get-raises" false) My.hdAll:=fun _ _=>by kernel_rfl
theorem My.hAt:HQ.wB (·.withFollow "special-get-raises" true) My.hdAll:=fun _ _=>by kernel_rfl
end
namespace L2
open PySem PySem.Spec PyProof.Rows
abbrev Key:=Sum Int Str
def C_:Key->Value->Bool
 |.inl k,v=>Value.isInt k v
 |.inr x,v=>Value.isStrOf x v
def Qj (w:World):Key->Int
 |.inl k=>hashInt k
 |.inr x=>hashStr w x
def yO:∀{k:Key} {v:Value},C_ k v=true->(∃i t,k=Sum.inl i/\v=Value.int i t)\/(∃x t,k=Sum.inr x/\v=Value.str x t)
  |.inl i,v,h=>by
    obtain⟨t,e⟩:=Value.isInt_shape (k:=i) (v:=v) h;exact .inl ⟨i,t,rfl,e⟩
  |.inr x,v,h=>by
    obtain⟨t,e⟩:=Value.isStrOf_shape (x:=x) (v:=v) h;exact .inr ⟨x,t,rfl,e⟩
def zcy (i:Int)(t:Tok):C_ (.inl i) (.int i t)=true:=by simp[C_,Value.isInt]
def zcE (x:Str)(t:Tok):C_ (.inr x) (.str x t)=true:=by simp[C_,Value.isStrOf]
def zix (a b:Int):decide ((Sum.inl a:Key)=Sum.inl b)=(a==b):=by
 by_cases e:a=b
 ·subst e;simp
 ·have h:¬ (Sum.inl a:Key)=Sum.inl b:=fun q=>e (Sum.inl.inj q);rw[xat h];exact(xbj.mpr e).symm
def ziy (a b:Str):decide ((Sum.inr a:Key)=Sum.inr b)=decide (a=b):=by
 by_cases e:a=b
 ·subst e;simp
 ·have h:¬ (Sum.inr a:Key)=Sum.inr b:=fun q=>e (Sum.inr.inj q);rw[xat h,xat e]
def zgN (a:Int)(b:Str):decide ((Sum.inl a:Key)=Sum.inr b)=false:=xat (fun q=>nomatch q)
def zhA (a:Str)(b:Int):decide ((Sum.inr a:Key)=Sum.inl b)=false:=xat (fun q=>nomatch q)
noncomputable def nH (prog:Program) (w:World):PySem.KeyKind prog w Key where
 is:=C_
 hash:=Qj w
 inj:=fun v a b ha hb=>by
  rcases yO ha with⟨i,t,rfl,rfl⟩ |⟨x,t,rfl,rfl⟩
  ·rcases yO hb with⟨j,u,rfl,e⟩ |⟨y,u,rfl,e⟩
   ·injection e with e1 _;rw[e1]
   ·exact nomatch e
  ·rcases yO hb with⟨j,u,rfl,e⟩ |⟨y,u,rfl,e⟩
   ·exact nomatch e
   ·injection e with e1 _;rw[e1]
 byValue:=fun k v h=>by
  rcases yO h with⟨i,t,rfl,rfl⟩ |⟨x,t,rfl,rfl⟩<;>rfl
 pyHash:=fun hv h=>by
  rcases yO hv with⟨i,t,rfl,rfl⟩ |⟨x,t,rfl,rfl⟩
  ·exact wpAny_pyHash_int h
  ·exact wpAny_pyHash_str h
 eqBool:=fun hu hv h=>by
  rcases yO hu with⟨i,t,rfl,rfl⟩ |⟨x,t,rfl,rfl⟩
  ·rcases yO hv with⟨j,u,rfl,rfl⟩ |⟨y,u,rfl,rfl⟩
   ·rw[zix]at h;exact wpAny_eqBool_int h
   ·rw[zgN]at h;exact xds i t y u _ _ _ _ h
  ·rcases yO hv with⟨j,u,rfl,rfl⟩ |⟨y,u,rfl,rfl⟩
   ·rw[zhA]at h;exact xdt x t j u _ _ _ _ h
   ·rw[ziy]at h;exact wpAny_eqBool_str h
 «strs» :=fun k x t v h=>by
  rcases yO h with⟨i,u,rfl,e⟩ |⟨y,u,rfl,e⟩
  ·exact nomatch e
  ·injection e with e1 _
   subst e1;cases v<;>rfl
def zbo (prog:Program)(w:World)(i:Int)(t:Tok):(nH prog w).is (.inl i) (.int i t)=true:=zcy i t
def Qt (prog:Program)(w:World)(x:Str)(t:Tok):(nH prog w).is (.inr x) (.str x t)=true:=zcE x t
inductive V where
 |non |bl (b:Bool) |int (i:Int) |str (x:Str) |byt (b:Array UInt8) |flt (b:UInt64) |ref (a:Addr) |ty (n:String)
 deriving DecidableEq
noncomputable def RelV:V->Value->Prop
 |.non,u=>u=Value.none
 |.bl b,u=>u=Value.bool b
 |.int i,u=>∃t,u=Value.int i t
 |.str x,u=>∃t,u=Value.str x t
 |.byt b,u=>∃t,u=Value.bytes b t
 |.flt b,u=>∃t,u=Value.float b t
 |.ref a,u=>u=Value.ref a
 |.ty n,u=>u=Value.type n
abbrev Vals:List V->List Value->Prop:=Paired RelV
theorem Vals.length (r:Vals xs us):xs.length=us.length:=xdA r
theorem Vals.get:∀{xs:List V} {us:List Value} {i:Nat} {x:V},Vals xs us->xs[i]? =some x->∃u,us[i]? =some u/\RelV x u
  |_,_,_,_,.nil,e=>by simp at e
  |_,_,0,_,.cons r _,e=>by simp at e;subst e;exact⟨_,rfl,r⟩
  |_,_,i + 1,x,.cons _ t,e=>by
    obtain⟨u,h1,h2⟩:=Vals.get (i:=i) (x:=x) t (by simpa using e);exact⟨u,by simpa using h1,h2⟩
theorem Vals.set (r:RelV x u):∀{xs:List V} {us:List Value} (i:Nat),Vals xs us->Vals (xs.set i x) (us.set i u)
 |_,_,_,.nil=>.nil
 |_,_,0,.cons _ t=>.cons r t
 |_,_,i + 1,.cons q t=>.cons q (Vals.set r i t)
theorem Vals.append:∀{xs ys:List V} {us ws:List Value},Vals xs us->Vals ys ws->Vals (xs ++ ys) (us ++ ws)
 |_,_,_,_,.nil,s=>s
 |_,_,_,_,.cons r t,s=>.cons r (Vals.append t s)
theorem Vals.take:∀{xs:List V} {us:List Value} (n:Nat),Vals xs us->Vals (xs.take n) (us.take n)
 |_,_,0,_=>.nil
 |_,_,_ + 1,.nil=>.nil
 |_,_,n + 1,.cons r t=>.cons r (Vals.take n t)
theorem Vals.drop:∀{xs:List V} {us:List Value} (n:Nat),Vals xs us->Vals (xs.drop n) (us.drop n)
 |_,_,0,r=>r
 |_,_,_ + 1,.nil=>.nil
 |_,_,n + 1,.cons _ t=>Vals.drop n t
def kE:Option V->Option Value->Prop
 |some v,some u=>RelV v u
 |none,none=>True
 |_,_=>False
def KV {κ:Type}:List (κ×V)->List (κ×Value)->Prop:=Paired fun(p:κ×V) (q:κ×Value)=>p.1=q.1/\RelV p.2 q.2
def kV:Key->V
 |.inl i=>.int i
 |.inr x=>.str x
inductive HO where
  |lst (xs:List V)
  |tup (xs:List V)
  |dK (kvs:List (Key×V)) |dT (kvs:List (List Key×V))
  |set (S:Int->Bool) (n:Nat)
  |ins (C dx:Addr) (fs:List (Str×V))
  |own (x:Addr)
  |xd (fs:List (Str×V))
  |met (f x:Addr)
  |rng (lo hi:Int)
  |frz (o:Obj) (u:HO)
  |tbl (ps:Array Value)
  |ext (φ:Heap->Prop)
abbrev Hp:=Addr->Option HO
def upd (H:Hp)(a:Addr)(o:HO):Hp:=fun b=>if b=a then some o else H b
def gq:upd H a o a=some o:=by unfold upd;rw[tG rfl]
def aZ (h:b≠a):upd H a o b=H b:=by unfold upd;rw[xab h]
theorem zes:upd (upd H a o) a u=upd H a u:=by
 funext b;unfold upd;split<;>rfl
def zkH {H:Hp}{a b:Addr}{o u:HO}(h:H a=some o)(h':H b=some u)(d:o≠u):a≠b:=by
 intro e;subst e;rw[h]at h';exact d (xaw h')
def kh {H:Hp}{a b:Addr}{o:HO}(h:H a=some o)(h':H b=none):a≠b:=by
 intro e;subst e;rw[h]at h';cases h'
section
variable (P:Program)(w:World)
noncomputable def gj (H:Hp) (h:Heap) (a:Addr):HO->Prop
 |.lst xs=>xs.length<=sizeLine/\∃(its:List Value) (n:Nat),Vals xs its/\h.get? a=some {cls:=.type "list",data:=.seq its.toArray n}
 |.tup xs=>xs.length<=sizeLine/\∃its:List Value,Vals xs its/\IsTup h a its.toArray
 |.dK kvs=>kvs.length<=sizeLine/\(a==sysModules)=false/\∃vs,KV kvs vs/\h.DictOf (nH P w) a vs
 |.dT kvs=>kvs.length<=sizeLine/\(a==sysModules)=false/\∃xs:List (List Key×Addr×Value),
   Paired (fun(p:List Key×V) (q:List Key×Addr×Value)=>p.1=q.1/\H q.2.1=some (.tup (p.1.map kV))/\RelV p.2 q.2.2) kvs xs/\
   ∃o es ep,h.get? a=some o/\o.ExactDict/\o.data=.dict es ep/\es.toList=xs.map (entryOfKey (tupleKind (nH P w)))/\(xs.map (·.1)).Nodup
 |.set S n=>h.SetOf (intKind P w) a S n
 |.ins C dx fs=>H dx=some (.own a)/\fs.length<=1000/\dx≠a/\h.get? a=some (PySem.W.instObj C dx)/\
   ∃mA,h.Ns1 dx mA/\(∀f,kE (fs.lookup f) (mA f))/\PySem.Within mA (fs.map (·.1))
 |.own _=>∃o,h.get? a=some o
 |.xd fs=>∃mA,h.Ns1 a mA/\∀f,kE (fs.lookup f) (mA f)
 |.rng lo hi=>∃t u v,h.get? a=some {cls:=.type "range",data:=.fields #[.int lo t,.int hi u,.int 1 v]}
 |.frz o u=>h.get? a=some o/\gj H h a u
 |.tbl ps=>h.get? a=some {cls:=.none,data:=.fields ps}
 |.met f x=>h.get? a=some (PySem.W.methodObj (.ref f) (.ref x))
 |.ext φ=>φ h/\(∃o,h.get? a=some o)/\∀h1 h2:Heap,φ h1->(∀o,h1.get? a=some o->h2.get? a=some o)->φ h2
def gH (H:Hp)(h:Heap):Prop:=∀a o,H a=some o->gj P w H h a o
end
section
variable {P:Program}{w:World}{H H':Hp}{h h':Heap}{a:Addr}{o:HO}
theorem gj.lt (x:gj P w H h a o):a<h.objs.size:=by
 cases o with
 |lst xs=>obtain⟨_,_,_,_,e⟩:=x;exact xar e
 |tup xs=>obtain⟨_,_,_,p⟩:=x;exact p.lt
 |dK kvs=>obtain⟨_,_,_,_,o,_,_,e,_⟩:=x;exact xar e
 |dT kvs=>obtain⟨_,_,_,_,o,_,_,e,_⟩:=x;exact xar e
 |set S n=>obtain⟨o,_,_,_,e,_⟩:=x;exact xar e
 |ins C dx fs=>obtain⟨_,_,_,e,_⟩:=x;exact xar e
 |own y=>obtain⟨_,e⟩:=x;exact xar e
 |xd fs=>obtain⟨_,⟨_,_,_,e,_⟩,_⟩:=x;exact xar e
 |rng lo hi=>obtain⟨_,_,_,e⟩:=x;exact xar e
 |frz ob u=>obtain⟨e,_⟩:=x;exact xar e
 |tbl ps=>exact xar (show h.get? a=some _ from x)
 |met f y=>exact xar (show h.get? a=some _ from x)
 |ext φ=>obtain⟨_,⟨_,e⟩,_⟩:=x;exact xar e
theorem Paired.mapP:∀{l₁:List α} {l₂:List β},Paired F l₁ l₂->(∀a b,F a b->G a b)->Paired G l₁ l₂
 |_,_,.nil,_=>.nil
 |_,_,.cons r t,f=>.cons (f _ _ r) (Paired.mapP t f)
def gj.stay (x:gj P w H h a o)(k:∀b u,(b=a\/H b=some (.own a))->h.get? b=some u->h'.get? b=some u)
    (ho:∀b,H b=some (.own a)->H' b=some (.own a)) (ht:∀b xs,H b=some (.tup xs)->H' b=some (.tup xs)):gj P w H' h' a o:=by
  induction o with
  |lst xs=>obtain⟨z,its,n,r,e⟩:=x;exact⟨z,its,n,r,k _ _ (.inl rfl) e⟩
  |tup xs=>obtain⟨z,its,r,ob,e,c⟩:=x;exact⟨z,its,r,ob,k _ _ (.inl rfl) e,c⟩
  |dK kvs=>obtain⟨z,y,vs,r,ob,es,ep,e,c⟩:=x;exact⟨z,y,vs,r,ob,es,ep,k _ _ (.inl rfl) e,c⟩
  |dT kvs=>
    obtain⟨z,y,xs,r,ob,es,ep,e,c⟩:=x;exact⟨z,y,xs,Paired.mapP r fun p q z=>⟨z.1,ht _ _ z.2.1,z.2.2⟩,ob,es,ep,k _ _ (.inl rfl) e,c⟩
  |set S n=>obtain⟨ob,es,ep,t,e,c⟩:=x;exact⟨ob,es,ep,t,k _ _ (.inl rfl) e,c⟩
  |ins C dx fs=>
    obtain⟨d,z,ne,e,mA,⟨od,es,ep,e2,c⟩,r⟩:=x;exact⟨ho _ d,z,ne,k _ _ (.inl rfl) e,mA,⟨od,es,ep,k _ _ (.inr d) e2,c⟩,r⟩
  |own y=>obtain⟨ob,e⟩:=x;exact⟨ob,k _ _ (.inl rfl) e⟩
  |xd fs=>obtain⟨mA,⟨od,es,ep,e,c⟩,r⟩:=x;exact⟨mA,⟨od,es,ep,k _ _ (.inl rfl) e,c⟩,r⟩
  |rng lo hi=>obtain⟨t,u,v,e⟩:=x;exact⟨t,u,v,k _ _ (.inl rfl) e⟩
  |frz ob u ih=>obtain⟨e,q⟩:=x;exact⟨k _ _ (.inl rfl) e,ih q⟩
  |tbl ps=>
    have e:h.get? a=some {cls:=.none,data:=.fields ps}:=x;show h'.get? a=some {cls:=.none,data:=.fields ps};exact k a _ (.inl rfl) e
  |met f y=>
    have e:h.get? a=some (PySem.W.methodObj (.ref f) (.ref y)):=x;show h'.get? a=some (PySem.W.methodObj (.ref f) (.ref y));exact k a _ (.inl rfl) e
  |ext φ=>obtain⟨p,⟨o,e⟩,st⟩:=x;exact⟨st _ _ p fun o q=>k _ _ (.inl rfl) q,⟨o,k _ _ (.inl rfl) e⟩,st⟩
theorem gH.lt (x:gH P w H h)(e:H a=some o):a<h.objs.size:=(x a o e).lt
def gH.fresh (x:gH P w H h)(e:h.objs.size<=a):H a=none:=by
 cases q:H a with
 |none=>rfl
 |some u=>exact absurd (xao (x.lt q) e) (xbE _)
def gH.kept (x:gH P w H h)(k:∀b u,h.get? b=some u->h'.get? b=some u):gH P w H h':=fun a o e=>
 (x a o e).stay (fun b u _ q=>k b u q) (fun _ q=>q) fun _ _ q=>q
def gH.laid (x:gH P w H h)(k:∀b u,h.get? b=some u->h'.get? b=some u)(hp:h.objs.size<=a)(new:gj P w (upd H a o) h' a o):gH P w (upd H a o) h':=fun b u e=>by
 have hn:=x.fresh hp
 by_cases hb:b=a
 ·subst hb;rw[gq]at e;cases e;exact new
 ·rw[aZ hb]at e;exact(x b u e).stay (fun c v _ q=>k c v q) (fun c q=>by rw[aZ (kh q hn)];exact q) fun c xs q=>by rw[aZ (kh q hn)];exact q
end
def Rd (H:Hp)(a:Addr)(u:HO):Prop:=H a=some u\/∃o,H a=some (.frz o u)
def Rd.ok (r:Rd H a u)(x:gH P w H h):gj P w H h a u:=by
 rcases r with r |⟨o,r⟩
 ·exact x a u r
 ·obtain⟨_,q⟩:=x a _ r;exact q
noncomputable def D_:Option HO->Prop
 |some (.lst _)=>True
 |some (.dK _)=>True
 |some (.dT _)=>True
 |some (.set _ _)=>True
 |some (.ins _ _ _)=>True
 |some (.ext _)=>True
 |_=>False
section
variable {P:Program}{w:World}{H:Hp}{h h':Heap}{x e:Addr}{o':HO}
theorem gH.write (ok:gH P w H h)(mu:D_ (H x))(he:e=x\/H e=some (.own x))(k:∀b u,b≠e->h.get? b=some u->h'.get? b=some u)(heo:∃u,h'.get? e=some u)
  (new:gj P w (upd H x o') h' x o'):gH P w (upd H x o') h':=fun b u q=>by
 have nown:∀c y,H c=some (.own y)->c≠x:=fun c y r z=>by subst z;rw[r]at mu;exact mu
 have ntup:∀c xs,H c=some (.tup xs)->c≠x:=fun c xs r z=>by subst z;rw[r]at mu;exact mu
 by_cases hb:b=x
 ·subst hb;rw[gq]at q;cases q;exact new
 ·rw[aZ hb]at q
  by_cases hbe:b=e
  ·have q':H b=some (.own x):=by
    rcases he with z |z
    ·exact absurd (hbe.trans z) hb
    ·rw[hbe];exact z
   rw[q]at q';cases q';obtain⟨v,hv⟩:=heo;exact⟨v,by rw[hbe];exact hv⟩
  ·refine(ok b u q).stay (fun c v hc r=>k c v ?_ r) (fun c r=>by rw[aZ (nown c b r)];exact r) fun c xs r=>by rw[aZ (ntup c xs r)];exact r
   rcases hc with rfl |hc
   ·exact hbe
   ·rintro rfl;rcases he with z |z
    ·exact nown c b hc z
    ·rw[hc]at z;cases z;exact hb rfl
end
structure Un (fs ex:List Addr)(H H':Hp)(h h':Heap):Prop where
 keep:∀b o,h.get? b=some o->H b=none->b∉fs->b∉ex->h'.get? b=some o
 slot:∀b o,h.get? b=some o->H b=none->b∈fs->b∉ex->∃sl,h'.get? b=some {o with slots:=sl}
 free:∀b o,h.get? b=some o->H b=none->b∉ex->H' b=none
 there:∀b o,h.get? b=some o->b∉ex->∃o',h'.get? b=some o'
 tups:∀b xs,H b=some (.tup xs)->H' b=some (.tup xs)
 frzs:∀b o u,H b=some (.frz o u)->H' b=some (.frz o u)
 tbls:∀b ps,H b=some (.tbl ps)->∃more,H' b=some (.tbl (ps ++ more))
section
variable {fs fs' ex ex':List Addr}{H H1 H2:Hp}{h h1 h2 h':Heap}{a x e:Addr}{o:HO}
def Un.any (u:Un fs ex H H1 h h1)(q:h.get? b=some ob)(n:H b=none)(hx:b∉ex):∃sl,h1.get? b=some {ob with slots:=sl}:=by
 by_cases hb:b∈fs
 ·exact u.slot b ob q n hb hx
 ·exact⟨ob.slots,u.keep b ob q n hb hx⟩
def Un.trans (a:Un fs ex H H1 h h1)(b:Un fs ex H1 H2 h1 h2):Un fs ex H H2 h h2 where
 keep:=fun c ob q n hc hx=>b.keep c ob (a.keep c ob q n hc hx) (a.free c ob q n hx) hc hx
 slot:=fun c ob q n hc hx=>by
  obtain⟨sl,e1⟩:=a.slot c ob q n hc hx;obtain⟨sl',e2⟩:=b.slot c _ e1 (a.free c ob q n hx) hc hx;exact⟨sl',e2⟩
 free:=fun c ob q n hx=>by
  obtain⟨o',e1⟩:=a.there c ob q hx;exact b.free c o' e1 (a.free c ob q n hx) hx
 there:=fun c ob q hx=>by
  obtain⟨o',e1⟩:=a.there c ob q hx;exact b.there c o' e1 hx
 tups:=fun c xs q=>b.tups c xs (a.tups c xs q)
 frzs:=fun c ob xs q=>b.frzs c ob xs (a.frzs c ob xs q)
 tbls:=fun c ps q=>by
  obtain⟨m1,e1⟩:=a.tbls c ps q;obtain⟨m2,e2⟩:=b.tbls c _ e1;exact⟨m1 ++ m2,by rw[e2,xex]⟩
def Un.kept (k:∀b u,h.get? b=some u->h'.get? b=some u):Un fs ex H H h h':=
 ⟨fun b ob q _ _ _=>k b ob q,fun b ob q _ _ _=>⟨ob.slots,k b ob q⟩,fun _ _ _ n _=>n,fun b ob q _=>⟨ob,k b ob q⟩,fun _ _ q=>q,fun _ _ _ q=>q,fun _ ps q=>⟨#[],by rw[q];simp⟩⟩
def Un.refl:Un fs ex H H h h:=Un.kept fun _ _ q=>q
def Un.laid (k:∀b u,h.get? b=some u->h'.get? b=some u)(hp:h.objs.size<=a)(hn:H a=none):Un fs ex H (upd H a o) h h' where
 keep:=fun b u q _ _ _=>k b u q
 slot:=fun b u q _ _ _=>⟨u.slots,k b u q⟩
 free:=fun b u q n _=>by rw[aZ (xaR (xao (xar q) hp))];exact n
 there:=fun b u q _=>⟨u,k b u q⟩
 tups:=fun b xs q=>by rw[aZ (kh q hn)];exact q
 frzs:=fun b u xs q=>by rw[aZ (kh q hn)];exact q
 tbls:=fun b ps q=>⟨#[],by rw[aZ (kh q hn),q];simp⟩
def Un.write (mu:D_ (H x))(he:e=x\/H e=some (.own x))(k:∀b u,b≠e->h.get? b=some u->h'.get? b=some u)(heo:∃u,h'.get? e=some u):Un fs ex H (upd H x o) h h':=by
 have hx:∀b,H b=none->b≠x:=fun b n z=>by subst z;rw[n]at mu;exact mu
 have hb:∀b,H b=none->b≠e:=fun b n z=>by
  subst z;rcases he with r |r
  ·exact hx b n r
  ·rw[n]at r;cases r
 have hm:∀b u,H b=some u->¬ D_ (some u)->b≠x:=fun b u q nm z=>by subst z;rw[q]at mu;exact nm mu
 refine ⟨fun b u q n _ _=>k b u (hb b n) q,fun b u q n _ _=>⟨u.slots,k b u (hb b n) q⟩,fun b u q n _=>by rw[aZ (hx b n)];exact n,fun b u q _=>?_,
  fun b xs q=>by rw[aZ (hm b _ q fun z=>z)];exact q,fun b u xs q=>by rw[aZ (hm b _ q fun z=>z)];exact q,fun b ps q=>⟨#[],by rw[aZ (hm b _ q fun z=>z),q];simp⟩⟩
 by_cases hbe:b=e
 ·subst hbe;exact heo
 ·exact⟨u,k b u hbe q⟩
def Un.mono (u:Un fs ex H H1 h h1)(hs:∀b∈fs,b∈fs')(hx:∀b∈ex,b∈ex'):Un fs' ex' H H1 h h1:=
 ⟨fun b ob q n hb he=>u.keep b ob q n (fun z=>hb (hs b z)) fun z=>he (hx b z),fun _ _ q n _ he=>u.any q n fun z=>he (hx _ z),fun b ob q n he=>u.free b ob q n fun z=>he (hx b z),fun b ob q he=>u.there b ob q fun z=>he (hx b z),u.tups,u.frzs,u.tbls⟩
end
def Ms (h:Heap)(H:Hp):List Addr:=(List.range h.objs.size).filter fun a=>(H a).isSome
def nU (h:Heap)(H:Hp):Heap:=PySem.W.hideAll h (Ms h H)
def zcK (h:Heap)(H:Hp):(nU h H).objs.size=h.objs.size:=PySem.W.hideAll_size _ _
def zde (e:h.get? b=some o)(n:H b=none):(nU h H).get? b=some o:=
 PySem.W.hideAll_get _ e fun hm=>by
  have q:(H b).isSome=true:=(List.mem_filter.mp hm).2;rw[n]at q;simp at q
def zeV (e:(nU h H).get? b=some o):h.get? b=some o/\H b=none:=by
  have e':h.get? b=some o:=PySem.W.of_hideAll (Ms h H) e;refine⟨e',?_⟩
  cases q:H b with
  |none=>rfl
  |some x=>
    have hm:b∈Ms h H:=List.mem_filter.mpr ⟨xbz.mpr (xar e'),by simp[q]⟩;have z:(nU h H).get? b=none:=PySem.W.hideAll_none (Ms h H) hm;rw[z]at e;cases e
structure Mod (K:Fgx)(mg:Mgx)(base:Heap):Prop where
 kin:K.In base
 glob:base.Ns mainGlobals mg
 blt:∃mb,base.Ns builtinsNs mb/\∀x:Str,x≠"__name__"->mb x=bootBuiltins x
 nolimit:base.NoLimit
structure Cx where
 prog:Program
 w:World
 K:Fgx
 mg:Mgx
 base:Heap
 A:Around
 N:List Str
 s₀:Shared
 H₀:Hp
 env:Env
 outer:List Env
 stack:List Env
 ex:List Addr
 fn:Str->Bool
 calm:Bool
 pn:Pnx
 xe:Value->Shared->Prop
def frs (l:List Env):List Addr:=l.filterMap (·.frame)
abbrev Cx.fs (X:Cx):List Addr:=frs X.outer
def Ah (sc:Scope)(x:Str):Prop:=sc.names.lookup x=some .local\/sc.names.lookup x=some .cell\/sc.names.lookup x=some .free
def Loc (sc:Scope)(x:Str):Prop:=sc.names.lookup x=some .local\/sc.names.lookup x=some .cell
def Look (env:Env)(h:Heap)(m:Mgx)(x:Str)(u:Value):Prop:=
 (env.kindOf x=some .local/\m x=some u)\/((env.kindOf x=some .cell\/env.kindOf x=some .free)/\∃c,env.cells.lookup x=some c/\h.IsCell c (some u))
structure Cx.Ok (X:Cx):Prop where
 mod:Mod X.K X.mg X.base
 kind:X.env.scope.kind=.function
 glob:X.env.globals=mainGlobals
 blt:X.env.builtins=builtinsNs
 above:X.s₀.heap.objs.size<=X.env.locals
 inj:∀x y c,X.env.cells.lookup x=some c->X.env.cells.lookup y=some c->x=y
 has:∀x,(X.env.kindOf x=some .cell\/X.env.kindOf x=some .free)->∃c,X.env.cells.lookup x=some c
 cab:∀x c,X.fn x=true->X.env.cells.lookup x=some c->X.s₀.heap.objs.size<=c
 hd:X.calm=true->X.A.handled=none
 frames:X.A.frames=some X.stack
 stk:X.stack=X.outer\/(X.stack=X.env::X.outer/\X.env.frame=some X.env.locals)
 exf:∀b∈X.ex,b≠X.env.locals/\∀x c,X.env.cells.lookup x=some c->c≠b
 bs:∀b o,X.base.get? b=some o->X.s₀.heap.get? b=some o/\X.H₀ b=none
 bsz:X.base.objs.size<=X.s₀.heap.objs.size
 noex:∀b o,X.base.get? b=some o->b∉X.ex
 exfs:∀b∈X.ex,b∉X.fs
 funs:X.s₀.heap.FunFrames X.base X.outer
 frf:∀b∈X.fs,X.H₀ b=none
structure Inv (X:Cx)(pins:Pnx)(σ:List (Option V))(H:Hp)(s:Shared):Prop where
 ok:X.Ok
 os:s.os=X.s₀.os
 bare:AllBare s.gens
 base:Un X.fs X.ex X.H₀ H X.s₀.heap s.heap
 loc:∃m,s.heap.Ns X.env.locals m/\∀(i:Nat) (x:Str) (v:V),X.N[i]? =some x->σ[i]? =some (some v)->Ah X.env.scope x->∃u,RelV v u/\Look X.env s.heap m x u
 cell:∀x c,X.env.cells.lookup x=some c->∃v,s.heap.IsCell c v
 free:H X.env.locals=none
 freeC:∀x c,X.env.cells.lookup x=some c->H c=none
 pin:∀p∈X.pn ++ pins,s.heap.get? p.1=some p.2/\H p.1=none/\p.1≠X.env.locals/\p.1∉X.fs/\∀v,p.2.data≠ .cell v
 hok:gH X.prog X.w H s.heap
 len:σ.length=X.N.length
section
variable {X:Cx}{pins:Pnx}{σ:List (Option V)}{H H':Hp}{s:Shared}{h':Heap}
def Cx.Ok.nofr (ok:X.Ok)(e:X.base.get? b=some o):b∉X.fs:=fun hb=>by
 have:=(ok.funs.mem hb).1;rw[e]at this;cases this
theorem Inv.bs (I:Inv X pins σ H s):∀b o,X.base.get? b=some o->s.heap.get? b=some o/\H b=none:=fun b o e=>
 ⟨I.base.keep b o (I.ok.bs b o e).1 (I.ok.bs b o e).2 (I.ok.nofr e) (I.ok.noex b o e),I.base.free b o (I.ok.bs b o e).1 (I.ok.bs b o e).2 (I.ok.noex b o e)⟩
def Inv.bk (I:Inv X pins σ H s):∀b o,X.base.get? b=some o->s.heap.get? b=some o:=fun b o e=>(I.bs b o e).1
theorem Inv.mod (I:Inv X pins σ H s):Mod X.K X.mg X.base:=I.ok.mod
def Inv.kIn (I:Inv X pins σ H s):X.K.In s.heap:=I.ok.mod.kin.keeps I.bk
def Inv.fr (I:Inv X pins σ H s):∃m,Fr X.base X.env.locals s.heap m:=
 let ⟨m,hn,_⟩:=I.loc
 ⟨m,hn,I.bk,xau I.ok.bsz I.ok.above⟩
theorem Inv.lt (I:Inv X pins σ H s):X.env.locals<s.heap.objs.size:=let ⟨_,hn,_⟩:=I.loc;hn.lt
def Inv.sz (I:Inv X pins σ H s):X.s₀.heap.objs.size<=s.heap.objs.size:=xau I.ok.above (xey I.lt)
def Inv.nofs (I:Inv X pins σ H s)(h:s.heap.objs.size<=a):a∉X.fs:=fun hb=>by
 obtain⟨_,o,ho,_⟩:=I.ok.funs.mem hb;exact absurd (xao (xar ho) (xau I.sz h)) (xbE _)
def Inv.cne (I:Inv X pins σ H s):∀x c,X.env.cells.lookup x=some c->c≠X.env.locals:=fun x c e z=>by
 obtain⟨v,o,ho,hd⟩:=I.cell x c e;obtain⟨m,⟨o',es,ep,ho',hd',_⟩,_⟩:=I.loc;rw[z,ho']at ho;cases ho;rw[hd']at hd;cases hd
theorem Inv.funs (I:Inv X pins σ H s):s.heap.FunFrames X.base X.outer:=by
  have all:∀(l:List Env),(∀b∈frs l,b∈X.fs)->X.s₀.heap.FunFrames X.base l->s.heap.FunFrames X.base l:=by
    intro l
    induction l with
    |nil=>intro _ _;trivial
    |cons env r ih=>
      intro hs hl;obtain⟨hk,⟨L,o,hf,hn,ho,hd⟩,hr⟩:=hl;have hL:L∈X.fs:=hs L (by unfold frs;rw[xb7,hf];exact xaD);obtain⟨sl,e⟩:=I.base.slot L o ho (I.ok.frf L hL) hL fun z=>I.ok.exfs L z hL;exact⟨hk,⟨L,_,hf,hn,e,hd⟩,ih (fun b hb=>hs b (by unfold frs;rw[xb7,hf];exact xan _ hb)) hr⟩
  exact all X.outer (fun _ hb=>hb) I.ok.funs
theorem Inv.stack (I:Inv X pins σ H s):s.heap.FunFrames X.base X.stack:=by
 rcases I.ok.stk with e |⟨e,hf⟩
 ·rw[e];exact I.funs
 ·rw[e];obtain⟨m,hn,_⟩:=I.loc;refine .cons (by rw[I.ok.kind];decide) hf hn ?_ I.funs;exact xb1 (xau I.ok.bsz I.ok.above)
def Inv.stkSub (I:Inv X pins σ H s):∀b∈frs X.stack,b∈X.env.locals::X.fs:=fun b hb=>by
 rcases I.ok.stk with e |⟨e,hf⟩
 ·rw[e]at hb;exact xan _ hb
 ·rw[e]at hb;unfold frs at hb;rw[xb7,hf]at hb;exact hb
def Inv.stkFree (I:Inv X pins σ H s):∀b∈frs X.stack,H b=none:=fun b hb=>by
 rcases xaq.mp (I.stkSub b hb) with e |hb
 ·rw[e];exact I.free
 ·obtain⟨_,o,ho,_⟩:=I.ok.funs.mem hb;exact I.base.free b o ho (I.ok.frf b hb) fun z=>I.ok.exfs b z hb
def Inv.step {g':Array GenState}{t':Nat}{d':Drawn}{ch:List Addr}(I:Inv X pins σ H s)
  (hch:∀b∈ch,(b∈X.ex\/X.s₀.heap.objs.size<=b)/\b≠X.env.locals/\(∀x c,X.env.cells.lookup x=some c->c≠b)/\∀p∈X.pn ++ pins,p.1≠b)
  (keep:∀b o,b≠X.env.locals->b∉X.fs->b∉ch->s.heap.get? b=some o->H b=none->h'.get? b=some o)
  (slot:∀b o,b≠X.env.locals->b∈X.fs->b∉ch->s.heap.get? b=some o->H b=none->∃sl,h'.get? b=some {o with slots:=sl}) (free:∀b o,b∉ch->s.heap.get? b=some o->H b=none->H' b=none)
  (there:∀b o,b∉ch->s.heap.get? b=some o->∃o',h'.get? b=some o')
  (tups:∀b xs,H b=some (.tup xs)->H' b=some (.tup xs)) (frzs:∀b o u,H b=some (.frz o u)->H' b=some (.frz o u)) (tbls:∀b ps,H b=some (.tbl ps)->∃more,H' b=some (.tbl (ps ++ more)))
  (ns:∀m,s.heap.Ns X.env.locals m->h'.Ns X.env.locals m) (hok:gH X.prog X.w H' h') (hg:AllBare g'):
  Inv X pins σ H' {s with heap:=h',gens:=g',drawn:=d',toks:=t'}:=by
 have neL:∀b o,X.s₀.heap.get? b=some o->b≠X.env.locals:=fun b o e=>xaR (xao (xar e) I.ok.above);have neC:∀b o,X.s₀.heap.get? b=some o->b∉X.ex->b∉ch:=fun b o e hx hb=>by
  rcases(hch b hb).1 with z |z
  ·exact hx z
  ·exact absurd (xao (xar e) z) (xbE _)
 have cellK:∀x c,X.env.cells.lookup x=some c->∀v,s.heap.IsCell c v->h'.IsCell c v:=fun x c e v ⟨o,ho,hd⟩=>by
  have nch:c∉ch:=fun z=>(hch c z).2.2.1 x c e rfl
  by_cases hc:c∈X.fs
  ·obtain⟨sl,q⟩:=slot c o (I.cne x c e) hc nch ho (I.freeC x c e);exact⟨_,q,hd⟩
  ·exact⟨o,keep c o (I.cne x c e) hc nch ho (I.freeC x c e),hd⟩
 refine⟨I.ok,I.os,hg,⟨fun b o e n hb hx=>?_,fun b o e n hb hx=>?_,fun b o e n hx=>?_,fun b o e hx=>?_,fun b xs e=>tups b xs (I.base.tups b xs e),fun b o xs e=>frzs b o xs (I.base.frzs b o xs e),fun b ps e=>?_⟩,?_,fun x c e=>?_,?_,fun x c e=>?_,fun p hp=>?_,hok,I.len⟩
 ·exact keep b o (neL b o e) hb (neC b o e hx) (I.base.keep b o e n hb hx) (I.base.free b o e n hx)
 ·obtain⟨sl,e1⟩:=I.base.slot b o e n hb hx;obtain⟨sl',e2⟩:=slot b _ (neL b o e) hb (neC b o e hx) e1 (I.base.free b o e n hx);exact⟨sl',e2⟩
 ·obtain⟨o',e1⟩:=I.base.there b o e hx;exact free b o' (neC b o e hx) e1 (I.base.free b o e n hx)
 ·obtain⟨o',e1⟩:=I.base.there b o e hx;exact there b o' (neC b o e hx) e1
 ·obtain⟨m1,e1⟩:=I.base.tbls b ps e;obtain⟨m2,e2⟩:=tbls b _ e1;exact⟨m1 ++ m2,by rw[e2,xex]⟩
 ·obtain⟨m,hn,hl⟩:=I.loc;refine⟨m,ns m hn,fun i x v e1 e2 e3=>?_⟩;obtain⟨u,r,l⟩:=hl i x v e1 e2 e3;refine⟨u,r,?_⟩;rcases l with l |⟨k,c,e,z⟩
  ·exact .inl l
  ·exact .inr ⟨k,c,e,cellK x c e _ z⟩
 ·obtain⟨v,z⟩:=I.cell x c e;exact⟨v,cellK x c e v z⟩
 ·obtain⟨m,⟨o,_,_,ho,_⟩,_⟩:=I.loc;exact free _ o (fun z=>(hch _ z).2.1 rfl) ho I.free
 ·obtain⟨v,o,ho,hd⟩:=I.cell x c e;exact free c o (fun z=>(hch c z).2.2.1 x c e rfl) ho (I.freeC x c e)
 ·obtain⟨e,n,ne,nf,d⟩:=I.pin p hp;have nch:p.1∉ch:=fun z=>(hch p.1 z).2.2.2 p hp rfl;exact⟨keep p.1 p.2 ne nf nch e n,free p.1 p.2 nch e n,ne,nf,d⟩
def Inv.un {t':Nat}(I:Inv X pins σ H s)(u:Un X.fs [] H H' s.heap h')(hok:gH X.prog X.w H' h'):Inv X pins σ H' {s with heap:=h',toks:=t'}:=by
 obtain ⟨m, ⟨o, es, ep, ho, r⟩, _⟩ := id I.loc;obtain ⟨sl, hL⟩ := u.any ho I.free (by simp);exact I.step (g' := s.gens) (d' := s.drawn) (ch := []) (fun _ z => nomatch z) (fun b o _ hb _ e n => u.keep b o e n hb (by simp)) (fun b o _ hb _ e n => u.slot b o e n hb (by simp)) (fun b o _ e n => u.free b o e n (by simp)) (fun b o _ e => u.there b o e (by simp)) u.tups u.frzs u.tbls (fun m' hm=>by
  obtain⟨o',es',ep',ho',r'⟩:=hm;rw[ho]at ho';cases ho';exact⟨_,es',ep',hL,r'⟩) hok I.bare
def Inv.call {g':Array GenState}{t':Nat}{d':Drawn}{ch:List Addr}(I:Inv X pins σ H s)(u:Un (frs X.stack) ch H H' s.heap h')(hok:gH X.prog X.w H' h')(hg:AllBare g')
  (hch:∀b∈ch,(b∈X.ex\/X.s₀.heap.objs.size<=b)/\b≠X.env.locals/\(∀x c,X.env.cells.lookup x=some c->c≠b)/\∀p∈X.pn ++ pins,p.1≠b):
  Inv X pins σ H' {s with heap:=h',gens:=g',drawn:=d',toks:=t'}:=by
 obtain ⟨m, ⟨o, es, ep, ho, r⟩, _⟩ := id I.loc;obtain ⟨sl, hL⟩ := u.any ho I.free fun z => (hch _ z).2.1 rfl;exact I.step (ch := ch) hch (fun b o hL hb hc e n => u.keep b o e n (fun z => (xaq.mp (I.stkSub b z)).elim hL hb) hc) (fun b o _ _ hc e n => u.any e n hc) (fun b o hc e n => u.free b o e n hc) (fun b o hc e => u.there b o e hc) u.tups u.frzs u.tbls (fun m' hm=>by
  obtain⟨o',es',ep',ho',r'⟩:=hm;rw[ho]at ho';cases ho';exact⟨_,es',ep',hL,r'⟩) hok hg
def Inv.turned {t':Nat}{it:Addr}(I:Inv X pins σ H s)(k:∀b o,b≠it->s.heap.get? b=some o->h'.get? b=some o)(hn:H it=none)(hL:it≠X.env.locals)
  (h1:it∈X.ex\/X.s₀.heap.objs.size<=it) (h2:∀x c,X.env.cells.lookup x=some c->c≠it) (h3:∀p∈X.pn ++ pins,p.1≠it):Inv X pins σ H {s with heap:=h',toks:=t'}:=by
 have nit:∀b u,H b=some u->b≠it:=fun b u e z=>by rw[z,hn]at e;cases e
 refine I.step (g':=s.gens) (d':=s.drawn) (ch:=[it]) (fun b hb=>?_) (fun b o _ _ hc e _=>k b o (fun z=>hc (by simp[z])) e) (fun b o _ _ hc e _=>⟨o.slots,k b o (fun z=>hc (by simp[z])) e⟩) (fun _ _ _ _ n=>n)
  (fun b o hc e=>⟨o,k b o (fun z=>hc (by simp[z])) e⟩) (fun _ _ e=>e) (fun _ _ _ e=>e) (fun b ps e=>⟨#[],by rw[e];simp⟩) (fun m hm=>?_) (fun b u e=>?_) I.bare
 ·have e:b=it:=by simpa using hb
  subst e;exact⟨h1,hL,h2,h3⟩
 ·obtain⟨o,es,ep,ho,r⟩:=hm;exact⟨o,es,ep,k _ o (xbA hL) ho,r⟩
 ·refine(I.hok b u e).stay (fun c v hc q=>k c v ?_ q) (fun _ q=>q) fun _ _ q=>q;rcases hc with z |z
  ·rw[z];exact nit b u e
  ·exact nit c _ z
def Inv.tok (I:Inv X pins σ H s)(t:Nat):Inv X pins σ H {s with toks:=t}:=I.un (h':=s.heap) (t':=t) Un.refl I.hok
theorem Inv.kept (I:Inv X pins σ H s)(k:∀b u,s.heap.get? b=some u->h'.get? b=some u):Inv X pins σ H {s with heap:=h',toks:=t'}:=I.un (Un.kept k) (I.hok.kept k)
theorem Inv.laid (I:Inv X pins σ H s)(k:∀b u,s.heap.get? b=some u->h'.get? b=some u)(hp:s.heap.objs.size<=a)(new:gj X.prog X.w (upd H a o) h' a o):
  Inv X pins σ (upd H a o) {s with heap:=h',toks:=t'}:=I.un (Un.laid k hp (I.hok.fresh hp)) (I.hok.laid k hp new)
theorem Inv.write (I:Inv X pins σ H s)(mu:D_ (H x))(he:e=x\/H e=some (.own x))(k:∀b u,b≠e->s.heap.get? b=some u->h'.get? b=some u)(heo:∃u,h'.get? e=some u)
  (new:gj X.prog X.w (upd H x o) h' x o):Inv X pins σ (upd H x o) {s with heap:=h',toks:=t'}:=I.un (Un.write mu he k heo) (I.hok.write mu he k heo new)
def Inv.pins_of (I:Inv X pins σ H s)(h:∀p∈pins',s.heap.get? p.1=some p.2/\H p.1=none/\p.1≠X.env.locals/\p.1∉X.fs/\∀v,p.2.data≠ .cell v):Inv X pins' σ H s:=
 ⟨I.ok,I.os,I.bare,I.base,I.loc,I.cell,I.free,I.freeC,fun p hp=>(xay.mp hp).elim (fun z=>I.pin p (xc5 _ z)) (h p),I.hok,I.len⟩
def QG {N:List Str}(hN:N.Nodup){i j:Nat}{x:Str}(a:N[i]? =some x)(b:N[j]? =some x):i=j:=by
 obtain⟨h1,e1⟩:=xag.mp a;obtain⟨h2,e2⟩:=xag.mp b;exact(List.getElem_inj hN).mp (e1.trans e2.symm)
def zcs {M:Model}{A:Around}{E:Value->Shared->Prop}{i:Nat}{x:Str}{v:V}{u:Value}{Q:Unit->Shared->Prop}(I:Inv X pins σ H s)(hN:X.N.Nodup)(hi:X.N[i]? =some x)(hx:Loc X.env.scope x)(r:RelV v u)
    (h:∀s',Inv X pins (σ.set i (some v)) H s'->(∃a,Heap.SameBut a s.heap s'.heap/\(a=X.env.locals\/X.env.cells.lookup x=some a))->Q () s') (hf:X.fn x=true\/X.env.scope.names.lookup x=some .local:=by first |exact .inl rfl |exact .inr rfl |assumption):wpAny M A (storeName X.env x u) Q E s:=by
  obtain⟨m,hn,hl⟩:=id I.loc;have hcls:(X.env.scope.kind==.class || (X.env.scope.kind==.module && X.env.locals !=X.env.globals))=false:=by rw[I.ok.kind];rfl
  have hiσ:i<σ.length:=by rw[I.len];exact(xag.mp hi).1
  have cne:=I.cne;have tracked:∀{a:Addr} {h':Heap},(∃o,s.heap.get? a=some o/\H a=none)->Heap.SameBut a s.heap h'->gH X.prog X.w H h':=fun {a h'} ha hs b ob e=>by
    obtain⟨_,_,hfree⟩:=ha;refine(I.hok b ob e).stay (fun c w' hc q=>(hs.2 c ?_).trans q) (fun _ q=>q) fun _ _ q=>q;rintro rfl;rcases hc with rfl |hc
    · rw[hfree]at e;cases e
    · rw[hfree]at hc;cases hc
  rcases hx with hk |hk
  · refine wpAny_storeName_local hk hn (fun h' hn' hs=>?_) hcls;obtain⟨oL,_,_,hoL,_⟩:=id hn;refine h _ ⟨I.ok,I.os,I.bare,⟨fun b o e n hb hx=>?_,fun b o e n hb hx=>?_,I.base.free,fun b o e hx=>?_,I.base.tups,I.base.frzs,I.base.tbls⟩,⟨_,hn',fun j y v' e1 e2 e3=>?_⟩,fun y c e=>?_,I.free,I.freeC,fun p hp=>?_,tracked ⟨oL,hoL,I.free⟩ hs,by simpa using I.len⟩ ⟨_,hs,.inl rfl⟩
    · exact(hs.2 b (xaR (xao (xar e) I.ok.above))).trans (I.base.keep b o e n hb hx)
    · obtain⟨sl,e1⟩:=I.base.slot b o e n hb hx;exact⟨sl,(hs.2 b (xaR (xao (xar e) I.ok.above))).trans e1⟩
    · obtain⟨o',e1⟩:=I.base.there b o e hx;exact⟨o',(hs.2 b (xaR (xao (xar e) I.ok.above))).trans e1⟩
    · by_cases hj:j=i
      · subst hj;rw[hi]at e1;cases e1;rw[xbt hiσ]at e2;cases e2;exact⟨u,r,.inl ⟨hk,by simp⟩⟩
      · rw[xbB (xbA hj)]at e2;obtain⟨u',r',q⟩:=hl j y v' e1 e2 e3;refine⟨u',r',?_⟩;rcases q with⟨k,e⟩ |⟨k,c,e,z⟩
        · refine .inl ⟨k,?_⟩;have:y≠x:=fun e=>hj (QG hN e1 (e ▸ hi))
          simp[this,e]
        · exact .inr ⟨k,c,e,z.sameBut hs (cne y c e)⟩
    · obtain⟨w',z⟩:=I.cell y c e;exact⟨w',z.sameBut hs (cne y c e)⟩
    · obtain⟨e,n,ne,nf,d⟩:=I.pin p hp;exact⟨(hs.2 p.1 ne).trans e,n,ne,nf,d⟩
  · have hfn:X.fn x=true:=by
      rcases hf with z |z
      · exact z
      · rw[z]at hk;cases hk
    obtain⟨c,hc⟩:=I.ok.has x (.inl hk);obtain⟨w',z⟩:=I.cell x c hc;refine wpAny_storeName_cell I.ok.kind hk hc z (fun h' hc' hs=>?_);obtain⟨oc,hoc,hocd⟩:=id z;refine h {s with heap:=h'} ⟨I.ok,I.os,I.bare,⟨fun b o e n hb hx=>?_,fun b o e n hb hx=>?_,I.base.free,fun b o e hx=>?_,I.base.tups,I.base.frzs,I.base.tbls⟩,⟨m,hn.sameBut hs (xbA (cne x c hc)),fun j y v' e1 e2 e3=>?_⟩,fun y c' e=>?_,I.free,I.freeC,fun p hp=>?_,tracked ⟨oc,hoc,I.freeC x c hc⟩ hs,by simpa using I.len⟩ ⟨c,hs,.inr hc⟩
    · exact(hs.2 b (xaR (xao (xar e) (I.ok.cab x c hfn hc)))).trans (I.base.keep b o e n hb hx)
    · obtain⟨sl,e1⟩:=I.base.slot b o e n hb hx;exact⟨sl,(hs.2 b (xaR (xao (xar e) (I.ok.cab x c hfn hc)))).trans e1⟩
    · obtain⟨o',e1⟩:=I.base.there b o e hx;exact⟨o',(hs.2 b (xaR (xao (xar e) (I.ok.cab x c hfn hc)))).trans e1⟩
    · by_cases hj:j=i
      · subst hj;rw[hi]at e1;cases e1;rw[xbt hiσ]at e2;cases e2;exact⟨u,r,.inr ⟨.inl hk,c,hc,hc'⟩⟩
      · rw[xbB (xbA hj)]at e2;obtain⟨u',r',q⟩:=hl j y v' e1 e2 e3;refine⟨u',r',?_⟩;rcases q with q |⟨k,c',e,z'⟩
        · exact .inl q
        · refine .inr ⟨k,c',e,z'.sameBut hs ?_⟩;rintro rfl;exact hj (QG hN e1 (I.ok.inj _ _ _ e hc ▸ hi))
    · by_cases hcc:c'=c
      · subst hcc;exact⟨_,hc'⟩
      · obtain⟨w2,z2⟩:=I.cell y c' e;exact⟨w2,z2.sameBut hs hcc⟩
    · obtain⟨e,n,ne,nf,d⟩:=I.pin p hp;refine⟨(hs.2 p.1 ?_).trans e,n,ne,nf,d⟩;intro q;rw[q,hoc]at e;have q':oc=p.2:=xaw e;exact d w' (by rw[<-q'];exact hocd)
def zp (I:Inv X pins σ H s)(hN:X.N.Nodup)(hi:X.N[i]? =some x)(hx:Loc X.env.scope x)(r:RelV v u)
  (h:∀s',Inv X pins (σ.set i (some v)) H s'->Q () s') (hf:X.fn x=true\/X.env.scope.names.lookup x=some .local:=by first |exact .inl rfl |exact .inr rfl |assumption):wpAny M A (storeName X.env x u) Q E s:=
 zcs I hN hi hx r (fun s' I' _=>h s' I') hf
def Inv.call' (I:Inv X pins σ H s)(ho:s'.os=s.os)(u:Un (frs X.stack) ch H H' s.heap s'.heap)(hok:gH X.prog X.w H' s'.heap)(hg:AllBare s'.gens)
  (hch:∀b∈ch,(b∈X.ex\/X.s₀.heap.objs.size<=b)/\b≠X.env.locals/\(∀x c,X.env.cells.lookup x=some c->c≠b)/\∀p∈X.pn ++ pins,p.1≠b):Inv X pins σ H' s':=by
 obtain⟨h',g',d',t',o'⟩:=s';have e:o'=s.os:=ho;subst e;exact I.call (g':=g') (t':=t') (d':=d') u hok hg hch
end
abbrev XK:=Value->Option Addr->Hp->Prop
abbrev St:=List (Option V)
abbrev VK:=V->Hp->Prop
abbrev TE:=St->Hp->VK->Prop
abbrev TT:=St->Hp->(Bool->Hp->Prop)->Prop
abbrev TA:=St->Hp->(List V->Hp->Prop)->Prop
structure Ends where
 nx:St->Hp->Prop
 rt:VK
 bk:St->Hp->Prop:=fun _ _=>False
 ct:St->Hp->Prop:=fun _ _=>False
abbrev TS:=Ends->St->Hp->Prop
def EP (X:Cx)(pins:Pnx)(σ:St)(Q:VK)(u:Value)(s':Shared):Prop:=∃v H',Inv X pins σ H' s'/\RelV v u/\Q v H'
def TP (X:Cx)(pins:Pnx)(σ:St)(Q:Bool->Hp->Prop)(b:Bool)(s':Shared):Prop:=∃H',Inv X pins σ H' s'/\Q b H'
def AP (X:Cx)(pins:Pnx)(σ:St)(Q:List V->Hp->Prop)(us:List Value)(s':Shared):Prop:=∃vs H',Inv X pins σ H' s'/\Vals vs us/\Q vs H'
def SP (X:Cx)(pins:Pnx)(D:Ends)(f:Flow)(s':Shared):Prop:=
 match f with
 |.next=>∃σ' H',Inv X pins σ' H' s'/\D.nx σ' H'
 |.brk=>∃σ' H',Inv X pins σ' H' s'/\D.bk σ' H'
 |.cont=>∃σ' H',Inv X pins σ' H' s'/\D.ct σ' H'
 |.ret u=>∃v σ' H',Inv X pins σ' H' s'/\RelV v u/\D.rt v H'
def PE (X:Cx)(e:Expr)(t:TE):Prop:=
 ∀(pins:Pnx) (s:Shared) (σ:St) (H:Hp) (Q:VK),Inv X pins σ H s->t σ H Q->wpAny (model X.prog X.w) X.A (eval e X.env) (EP X pins σ Q) X.xe s
def PT (X:Cx)(e:Expr)(t:TT):Prop:=
 ∀(pins:Pnx) (s:Shared) (σ:St) (H:Hp) (Q:Bool->Hp->Prop),Inv X pins σ H s->t σ H Q->wpAny (model X.prog X.w) X.A (isTrue e X.env (eval e X.env)) (TP X pins σ Q) X.xe s
def PW (X:Cx)(e:Expr)(t:TT):Prop:=
 ∀(whole:Sem Value) (pins:Pnx) (s:Shared) (σ:St) (H:Hp) (Q:Bool->Hp->Prop),Inv X pins σ H s->t σ H Q->wpAny (model X.prog X.w) X.A (isTrue e X.env whole) (TP X pins σ Q) X.xe s
def PW.pt (h:PW X e t):PT X e t:=h _
def PA (X:Cx)(es:List Expr)(t:TA):Prop:=
 ∀(pos:Pos) (pins:Pnx) (s:Shared) (σ:St) (H:Hp) (Q:List V->Hp->Prop),Inv X pins σ H s->t σ H Q->wpAny (model X.prog X.w) X.A (spliced (backTo pos (starEach es X.env))) (AP X pins σ Q) X.xe s
def PS (X:Cx)(st:Stmt)(t:TS):Prop:=
 ∀(pins:Pnx) (s:Shared) (σ:St) (H:Hp) (D:Ends),Inv X pins σ H s->t D σ H->wpAny (model X.prog X.w) X.A (exec st X.env) (SP X pins D) X.xe s
def lK (X:Cx)(st:List Stmt)(t:TS):Prop:=
 ∀(pins:Pnx) (s:Shared) (σ:St) (H:Hp) (D:Ends),Inv X pins σ H s->t D σ H->wpAny (model X.prog X.w) X.A (execs st X.env) (SP X pins D) X.xe s
def aQ (h:wpAny M A t Q E s)(hQ:∀a s,Q a s->Q' a s):wpAny M A t Q' E s:=xa3 h hQ fun _ _ x=>x
section
variable {X:Cx}
def Ce (i:Nat):TE:=fun σ H Q=>∃v,σ[i]? =some (some v)/\Q v H
def tC (v:V):TE:=fun _ H Q=>Q v H
def zX (hN:X.N[i]? =some x)(hv:Ah X.env.scope x)(hd:(x==("__debug__":Str))=false:=by decide)(hcd:(x==("__classdict__":Str))=false:=by decide):PE X (.Name x pos) (Ce i):=by
 intro pins s σ H Q I h;obtain⟨v,e,h⟩:=h;obtain⟨m,hn,hl⟩:=I.loc;obtain⟨u,r,l⟩:=hl i x v hN e hv;have fin:EP X pins σ Q u s:=⟨v,H,I,r,h⟩;rcases l with⟨hk,hm⟩ |⟨hk,c,hc,hcell⟩
 ·exact wpAny_Name (wpAny_loadName_local I.ok.kind hk hn hm fin) hd
 ·rcases hk with hk |hk
  ·exact wpAny_Name (wpAny_loadName_cell I.ok.kind hk hc hcell fin) hd
  ·exact wpAny_Name (wpAny_loadName_free I.ok.kind hk hc hcell fin hcd) hd
def zgi {i j pos}:PE X (.Constant (.int i) j pos) (tC (.int i)):=fun _ _ _ H _ I h=>wpAny_Constant_int ⟨.int i,H,I.tok _,⟨_,rfl⟩,h⟩
def zj5 {b j pos}:PE X (.Constant (.bool b) j pos) (tC (.bl b)):=fun _ _ _ H _ I h=>Constant_bool ⟨.bl b,H,I,rfl,h⟩
def zhS {x j pos}:PE X (.Constant (.str x) j pos) (tC (.str x)):=fun _ _ _ H _ I h=>xcg ⟨.str x,H,I.tok _,⟨_,rfl⟩,h⟩
def Gl (X:Cx)(x:Str):Prop:=X.env.kindOf x=some .globalImplicit
def tZ (I:Inv X pins σ H s)(hg:Gl X x)(hm:X.mg x=some u)(h:Q u s)
  (hd:(x==("__debug__":Str))=false:=by decide):wpAny (model X.prog X.w) X.A (eval (.Name x pos) X.env) Q E s:=
 xdB I.ok.kind hg (Calls.loadGlobal_global (by rw[I.ok.glob];exact I.mod.glob.keeps I.bk) hm h) hd
def Dd (I:Inv X pins σ H s)(hg:Gl X x)(hm:X.mg x=none)(hv:bootBuiltins x=some u)(h:Q u s)
  (hn:x≠"__name__":=by decide) (hd:(x==("__debug__":Str))=false:=by decide):wpAny (model X.prog X.w) X.A (eval (.Name x pos) X.env) Q E s:=by
 obtain⟨mb,h1,h2⟩:=I.mod.blt;exact xdB I.ok.kind hg (Calls.loadGlobal_builtin (by rw[I.ok.glob];exact I.mod.glob.keeps I.bk) hm (by rw[I.ok.blt];exact h1.keeps I.bk) ((h2 x hn).trans hv) h) hd
def sX (hg:Gl X x)(hm:X.mg x=some u)(r:RelV v u)(hd:(x==("__debug__":Str))=false:=by decide):PE X (.Name x pos) (tC v):=
 fun _ _ _ H _ I h=>tZ I hg hm ⟨v,H,I,r,h⟩ hd
def YG (hg:Gl X x)(hm:X.mg x=none)(hv:bootBuiltins x=some u)(r:RelV v u)(hn:x≠"__name__":=by decide)(hd:(x==("__debug__":Str))=false:=by decide):PE X (.Name x pos) (tC v):=
 fun _ _ _ H _ I h=>Dd I hg hm hv ⟨v,H,I,r,h⟩ hn hd
variable {a b:Expr}{ta tb:TE}{pos:Pos}
def PC (X:Cx)(op:CmpOp)(a b:Expr)(t:TE):Prop:=
 ∀(pins:Pnx) (s:Shared) (σ:St) (H:Hp) (Q:VK),Inv X pins σ H s->t σ H Q->
  wpAny (model X.prog X.w) X.A (eval a X.env) (fun v s₁=>wpAny (model X.prog X.w) X.A (eval b X.env) (fun u s₂=>wpAny (model X.prog X.w) X.A (compareOp op v u) (EP X pins σ Q) X.xe s₂) X.xe s₁) X.xe s
def tB (t:TE):TT:=fun σ H Q=>t σ H fun x H1=>∃c,x=.bl c/\Q c H1
def Ri (h:PC X op a b t)(h1:behindInMarks op b=false:=by first |exact nobehind _ (by decide) (by decide) |rfl):PT X (.Compare a [op] [b] pos) (tB t):=by
 intro pins s σ H Q I hw;refine wpAny_isTrue_Compare1 (aQ (h pins s σ H _ I hw) fun v s1 h1=>aQ h1 fun u s2 h2=>aQ h2 fun c s3 ⟨x,H1,I1,r1,q1⟩=>?_) h1;obtain⟨d,rfl,q⟩:=q1;cases r1;exact xbk ⟨H1,I1,q⟩
variable {tA tB':TT}{rest:List Expr}
def Te (t u:TT):TT:=fun σ H Q=>t σ H fun c H1=>if c=true then u σ H1 Q else Q false H1
def tOr (t u:TT):TT:=fun σ H Q=>t σ H fun c H1=>if c=true then Q true H1 else u σ H1 Q
def Tr (t:TT):TT:=fun σ H Q=>t σ H fun c H1=>Q (!c) H1
def zfl (ha:PT X a tA):PW X (.BoolOp .And [a] pos) tA:=by
 intro wh pins s σ H Q I h;refine isTrue_and (aQ (ha pins s σ H Q I h) fun c s1 e=>?_)
 cases c with
 |true=>exact isTrue_and_nil e
 |false=>exact e
def zh2 (ha:PT X a tA):PW X (.BoolOp .Or [a] pos) tA:=by
 intro wh pins s σ H Q I h;refine isTrue_or (aQ (ha pins s σ H Q I h) fun c s1 e=>?_)
 cases c with
 |false=>exact isTrue_or_nil e
 |true=>exact e
def zgk (ha:PT X a tA)(hb:PW X (.BoolOp .And (b::rest) pos) tB'):PW X (.BoolOp .And (a::b::rest) pos) (Te tA tB'):=by
 intro wh pins s σ H Q I h;refine isTrue_and (aQ (ha pins s σ H _ I h) fun c s1 ⟨H1,I1,q1⟩=>?_)
 cases c with
 |true=>exact hb wh pins s1 σ H1 Q I1 q1
 |false=>exact⟨H1,I1,q1⟩
def zk7 (ha:PT X a tA)(hb:PW X (.BoolOp .Or (b::rest) pos) tB'):PW X (.BoolOp .Or (a::b::rest) pos) (tOr tA tB'):=by
 intro wh pins s σ H Q I h;refine isTrue_or (aQ (ha pins s σ H _ I h) fun c s1 ⟨H1,I1,q1⟩=>?_)
 cases c with
 |true=>exact⟨H1,I1,q1⟩
 |false=>exact hb wh pins s1 σ H1 Q I1 q1
def zgE (ha:PT X a tA):PT X (.UnaryOp .Not a pos) (Tr tA):=by
 intro pins s σ H Q I h;exact isTrue_not (ha pins s σ H (fun c H1=>Q (!c) H1) I h)
noncomputable def zjL (ta tb:TE):TE:=fun σ H Q=>ta σ H fun x H1=>∃c,x=.bl c/\if c=true then tb σ H1 Q else Q (.bl false) H1
noncomputable def Tt (ta tb:TE):TE:=fun σ H Q=>ta σ H fun x H1=>∃c,x=.bl c/\if c=true then Q (.bl true) H1 else tb σ H1 Q
def zgR {op}(h:PE X a t):PE X (.BoolOp op [a] pos) t:=fun pins s σ H Q I hw=>BoolOp_one (h pins s σ H Q I hw)
def zgq (ha:PE X a ta)(hb:PE X (.BoolOp .And (b::rest) pos) tb):PE X (.BoolOp .And (a::b::rest) pos) (zjL ta tb):=by
 intro pins s σ H Q I h;refine BoolOp_and (aQ (ha pins s σ H _ I h) fun v s1 ⟨x,H1,I1,r1,q1⟩=>?_);obtain⟨c,rfl,q1⟩:=q1;cases r1;refine xbk ?_
 cases c with
 |true=>exact hb pins s1 σ H1 Q I1 q1
 |false=>exact⟨.bl false,H1,I1,rfl,q1⟩
def zlJ (ha:PE X a ta)(hb:PE X (.BoolOp .Or (b::rest) pos) tb):PE X (.BoolOp .Or (a::b::rest) pos) (Tt ta tb):=by
 intro pins s σ H Q I h;refine BoolOp_or (aQ (ha pins s σ H _ I h) fun v s1 ⟨x,H1,I1,r1,q1⟩=>?_);obtain⟨c,rfl,q1⟩:=q1;cases r1;refine xbk ?_
 cases c with
 |false=>exact hb pins s1 σ H1 Q I1 q1
 |true=>exact⟨.bl true,H1,I1,rfl,q1⟩
def tIf (t:TT)(ta tb:TE):TE:=fun σ H Q=>t σ H fun c H1=>if c=true then ta σ H1 Q else tb σ H1 Q
def zcS (hc:PT X c tA)(ha:PE X a ta)(hb:PE X b tb):PE X (.IfExp c a b pos) (tIf tA ta tb):=by
 intro pins s σ H Q I h;refine wpAny_IfExp (aQ (hc pins s σ H _ I h) fun d s1 ⟨H1,I1,q1⟩=>?_)
 cases d with
 |true=>exact ha pins s1 σ H1 Q I1 q1
 |false=>exact hb pins s1 σ H1 Q I1 q1
end
def fW (K:Fgx)(H:Hp)(a:Addr)(xs:List V):Prop:=
 Rd H a (.lst xs)\/
  ∃(o:Obj) (its:Array Value) (n:Nat),K.lookup a=some o/\o.cls=.type "list"/\o.dict=none/\o.data=.seq its n/\its.size<=sizeLine/\Vals xs its.toList
def g_ (K:Fgx)(H:Hp)(a:Addr)(xs:List V):Prop:=
 Rd H a (.tup xs)\/
  ∃(o:Obj) (its:Array Value) (n:Nat),K.lookup a=some o/\o.cls=.type "tuple"/\o.data=.seq its n/\its.size<=sizeLine/\Vals xs its.toList
noncomputable def Ng:Value->Option V
 |.none=>some .non
 |.bool b=>some (.bl b)
 |.int i _=>some (.int i)
 |.str x _=>some (.str x)
 |.bytes b _=>some (.byt b)
 |.float b _=>some (.flt b)
 |.ref a=>some (.ref a)
 |.type n=>some (.ty n)
 |_=>none
theorem RelV.abs (r:RelV x u):Ng u=some x:=by
 cases x with
 |non=>cases r;rfl
 |bl _=>cases r;rfl
 |int _=>obtain⟨t,rfl⟩:=r;rfl
 |str _=>obtain⟨t,rfl⟩:=r;rfl
 |byt _=>obtain⟨t,rfl⟩:=r;rfl
 |flt _=>obtain⟨t,rfl⟩:=r;rfl
 |ref _=>cases r;rfl
 |ty _=>cases r;rfl
def RelV.inj (r:RelV x u)(q:RelV y u):x=y:=xaw (r.abs.symm.trans q.abs)
theorem Vals.inj:∀{xs ys:List V} {us:List Value},Vals xs us->Vals ys us->xs=ys
 |_,_,_,.nil,.nil=>rfl
 |_,_,_,.cons r t,.cons r' t'=>by rw[r.inj r',Vals.inj t t']
section
variable {X:Cx}{pins:Pnx}{σ:St}{H:Hp}{s:Shared}{a:Addr}{xs ys:List V}
def Inv.list (I:Inv X pins σ H s)(h:fW X.K H a xs):∃its:List Value,Vals xs its/\PlainL s.heap a its.toArray/\xs.length<=sizeLine:=by
 rcases h with h |⟨o,its,n,hk,hc,hd,hs,hz,r⟩
 ·obtain⟨z,its,n,r,e⟩:=h.ok I.hok;exact⟨its,r,⟨_,n,e,rfl,rfl,rfl⟩,z⟩
 ·refine⟨its.toList,r,⟨o,n,I.kIn a o hk,hc,hd,by simpa using hs⟩,?_⟩;have e:=r.length;simp only[xb8]at e;omega
def Inv.tuple (I:Inv X pins σ H s)(h:g_ X.K H a xs):∃its:List Value,Vals xs its/\IsTup s.heap a its.toArray/\xs.length<=sizeLine:=by
 rcases h with h |⟨o,its,n,hk,hc,hs,hz,r⟩
 ·obtain⟨z,its,r,p⟩:=h.ok I.hok;exact⟨its,r,p,z⟩
 ·refine⟨its.toList,r,⟨o,I.kIn a o hk,hc,n,by simpa using hs⟩,?_⟩;have e:=r.length;simp only[xb8]at e;omega
def Inv.list_inj (I:Inv X pins σ H s)(h:fW X.K H a xs)(h':fW X.K H a ys):xs=ys:=by
 obtain⟨its,r,⟨o,n,e,_,_,d⟩,_⟩:=I.list h;obtain⟨its',r',⟨o',n',e',_,_,d'⟩,_⟩:=I.list h';rw[e]at e';cases e';rw[d]at d'
 injection d' with d1 _
 have:its=its':=by simpa using congrArg Array.toList d1
 subst this;exact r.inj r'
def Inv.tuple_inj (I:Inv X pins σ H s)(h:g_ X.K H a xs)(h':g_ X.K H a ys):xs=ys:=by
 obtain⟨its,r,⟨o,e,_,n,d⟩,_⟩:=I.tuple h;obtain⟨its',r',⟨o',e',_,n',d'⟩,_⟩:=I.tuple h';rw[e]at e';cases e';rw[d]at d'
 injection d' with d1 _
 have:its=its':=by simpa using congrArg Array.toList d1
 subst this;exact r.inj r'
end
abbrev Cx.wish (X:Cx)(E:Value->Shared->Prop):Cx:={X with xe:=E}
abbrev Cx.nox (X:Cx):Cx:=X.wish fun _ _=>False
theorem Cx.Ok.wish {X:Cx}(ok:X.Ok)(E:Value->Shared->Prop):(X.wish E).Ok:=
 ⟨ok.mod,ok.kind,ok.glob,ok.blt,ok.above,ok.inj,ok.has,ok.cab,ok.hd,ok.frames,ok.stk,ok.exf,ok.bs,ok.bsz,ok.noex,ok.exfs,ok.funs,ok.frf⟩
def Cx.Ok.unwish {X:Cx}{E:Value->Shared->Prop}(ok:(X.wish E).Ok):X.Ok:=
 ⟨ok.mod,ok.kind,ok.glob,ok.blt,ok.above,ok.inj,ok.has,ok.cab,ok.hd,ok.frames,ok.stk,ok.exf,ok.bs,ok.bsz,ok.noex,ok.exfs,ok.funs,ok.frf⟩
section
variable {X:Cx}{pins:Pnx}{σ:St}{H:Hp}{s:Shared}{E:Value->Shared->Prop}
theorem Inv.wish (I:Inv X pins σ H s)(E:Value->Shared->Prop):Inv (X.wish E) pins σ H s:=⟨I.ok.wish E,I.os,I.bare,I.base,I.loc,I.cell,I.free,I.freeC,I.pin,I.hok,I.len⟩
theorem Inv.unwish (I:Inv (X.wish E) pins σ H s):Inv X pins σ H s:=⟨I.ok.unwish,I.os,I.bare,I.base,I.loc,I.cell,I.free,I.freeC,I.pin,I.hok,I.len⟩
theorem SP.unwish (h:SP (X.wish E) pins D f s'):SP X pins D f s':=by
 cases f with
 |next=>obtain⟨σ',H',I,q⟩:=h;exact⟨σ',H',I.unwish,q⟩
 |brk=>obtain⟨σ',H',I,q⟩:=h;exact⟨σ',H',I.unwish,q⟩
 |cont=>obtain⟨σ',H',I,q⟩:=h;exact⟨σ',H',I.unwish,q⟩
 |ret u=>obtain⟨v,σ',H',I,r,q⟩:=h;exact⟨v,σ',H',I.unwish,r,q⟩
theorem lK.nox {st:List Stmt}{t:TS}(h:lK X.nox st t):lK X st t:=fun pins s σ H D I hw=>
 xa3 (h pins s σ H D (I.wish _) hw) (fun _ _ q=>q.unwish) fun _ _ z=>False.elim z
end
section
variable {X:Cx}{st:Stmt}{rest:List Stmt}{t u:TS}{e:Expr}{te:TE}{pos:Pos}
def zlF:TS:=fun D σ H=>D.nx σ H
def Tz (t u:TS):TS:=fun D σ H=>t {D with nx:=u D} σ H
def Rh:lK X [] zlF:=fun _ _ σ H _ I h=>xbT ⟨σ,H,I,h⟩
def Hg (h1:PS X st t)(h2:lK X rest u):lK X (st::rest) (Tz t u):=by
  intro pins s σ H D I h;refine wpAny_execs_cons (aQ (h1 pins s σ H {D with nx:=u D} I h) fun f s1 q=>?_)
  cases f with
  |next=>
    obtain⟨σ',H',I',q⟩:=q;exact h2 pins s1 σ' H' D I' q
  |ret v=>exact q
  |brk=>exact q
  |cont=>exact q
def zel (h1:PS X st t):lK X [st] t:=by
 intro pins s σ H D I h;refine wpAny_execs_cons (aQ (h1 pins s σ H D I h) fun f s1 q=>?_)
 cases f with
 |next=>exact xbT q
 |ret v=>exact q
 |brk=>exact q
 |cont=>exact q
def Inv.quiet (I:Inv X pins σ H s):interactive X.env=false:=by simp[interactive,I.ok.kind]
def zjF (te:TE):TS:=fun D σ H=>te σ H fun _ H1=>D.nx σ H1
def Dj (he:PE X e te)(hs:swapsWith e none pos.line X.env=pure false:=by rfl):PS X (.Expr e pos) (zjF te):=by
 intro pins s σ H D I h;exact wpAny_Expr_any (aQ (he pins s σ H _ I h) fun v s1 ⟨x,H1,I1,r1,q1⟩=>⟨σ,H1,I1,q1⟩) I.quiet hs
def Tw (te:TE):TS:=fun D σ H=>te σ H D.rt
def zhr (he:PE X e te):PS X (.Return (some e) pos) (Tw te):=by
 intro pins s σ H D I h;exact wpAny_Return_some (aQ (he pins s σ H _ I h) fun v s1 ⟨x,H1,I1,r1,q1⟩=>⟨x,σ,H1,I1,r1,q1⟩)
def Tn (c:TT)(t u:TS):TS:=fun D σ H=>c σ H fun b H1=>if b=true then t D σ H1 else u D σ H1
def zj7 (hc:PT X c tc)(ha:lK X a t)(hb:lK X b u):PS X (.If c a b pos) (Tn tc t u):=by
 intro pins s σ H D I h;refine wpAny_If (aQ (hc pins s σ H _ I h) fun d s1 ⟨H1,I1,q1⟩=>?_)
 cases d with
 |true=>exact ha pins s1 σ H1 D I1 q1
 |false=>exact hb pins s1 σ H1 D I1 q1
end
abbrev TG:=V->St->Hp->(St->Hp->Prop)->Prop
abbrev Ej:=List V->St->Hp->(St->Hp->Prop)->Prop
def PG (X:Cx)(target:Expr)(t:TG):Prop:=
 ∀(pins:Pnx) (s:Shared) (σ:St) (H:Hp) (v:V) (u:Value) (Q:St->Hp->Prop),Inv X pins σ H s->RelV v u->t v σ H Q->
  wpAny (model X.prog X.w) X.A (assign target X.env u) (fun _ s'=>∃σ' H',Inv X pins σ' H' s'/\Q σ' H') X.xe s
def Ed (X:Cx)(ts:List Expr)(t:Ej):Prop:=
 ∀(pins:Pnx) (s:Shared) (σ:St) (H:Hp) (vs:List V) (us:List Value) (Q:St->Hp->Prop),Inv X pins σ H s->Vals vs us->t vs σ H Q->
  wpAny (model X.prog X.w) X.A (assignInOrder ((assignEach ts X.env).map (·.2)) us) (fun _ s'=>∃σ' H',Inv X pins σ' H' s'/\Q σ' H') X.xe s
abbrev El:=V->V->V->Hp->(Hp->Prop)->Prop
def Ef (X:Cx)(t:El):Prop:=
 ∀(pins:Pnx) (s:Shared) (σ:St) (H:Hp) (o i v:V) (ov iv u:Value) (Q:Hp->Prop),Inv X pins σ H s->RelV o ov->RelV i iv->RelV v u->t o i v H Q->
  wpAny (model X.prog X.w) X.A (setItem ov iv u) (fun _ s'=>∃H',Inv X pins σ H' s'/\Q H') X.xe s
section
variable {X:Cx}{pos:Pos}
def Pq (i:Nat):TG:=fun v σ H Q=>Q (σ.set i (some v)) H
def YM (hN:X.N.Nodup)(hi:X.N[i]? =some x)(hx:Loc X.env.scope x)(hf:X.fn x=true\/X.env.scope.names.lookup x=some .local:=by first |exact .inl rfl |exact .inr rfl |assumption):PG X (.Name x pos) (Pq i):=by
 intro pins s σ H v u Q I r h;exact xdE (zp I hN hi hx r (fun s' I'=>⟨_,H,I',h⟩) hf)
def Pr:Ej:=fun vs σ H Q=>vs=[]/\Q σ H
def zi5 (t:TG)(u:Ej):Ej:=fun vs σ H Q=>∃v r,vs=v::r/\t v σ H fun σ' H'=>u r σ' H' Q
def zea:Ed X [] Pr:=by
 intro pins s σ H vs us Q I r h;obtain⟨e,h⟩:=h;subst e;cases r;exact assignInOrder_nil ⟨σ,H,I,h⟩
def zdr (h1:PG X e t)(h2:Ed X es u)
    (hs:(assignEach (e::es) X.env).map (·.2)=assign e X.env::(assignEach es X.env).map (·.2):=by rfl):Ed X (e::es) (zi5 t u):=by
  intro pins s σ H vs us Q I r h;obtain⟨v,vr,e1,h⟩:=h;subst e1
  cases r with
  |cons r rr=>
    rw[hs];refine assignInOrder_cons (aQ (h1 pins s σ H _ _ _ I r h) fun _ s1 ⟨σ1,H1,I1,q1⟩=>?_);exact h2 pins s1 σ1 H1 _ _ Q I1 rr q1
noncomputable def Px (K:Fgx) (n:Nat) (t:Ej):TG:=fun v σ H Q=>∃a xs,v=.ref a/\g_ K H a xs/\xs.length=n/\t xs σ H Q
def zhE (hc:X.calm=true)(h:Ed X es t)
  (hn:(assignEach es X.env).length=n:=by rfl) (hst:(assignEach es X.env).findIdx? (·.1)=none:=by rfl):PG X (.Tuple es k pos) (Px X.K n t):=by
 intro pins s σ H v u Q I r hw;obtain⟨a,xs,e1,hq,hl,hw⟩:=hw;subst e1;cases r;obtain⟨its,rv,ht,hz⟩:=I.tuple hq;refine assign_Tuple_tuple (I.ok.hd hc) ht (by simp[hn, <-hl,rv.length]) hst fun h' hx=>?_;have I1:Inv X pins σ H {s with heap:=h'}:=I.kept (t':=s.toks) fun b o e=>hx b o (xaR (xar e)) e;exact h pins _ σ H xs _ Q I1 (by simpa using rv) hw
noncomputable def Pu (to ti:TE) (t:El):TG:=fun v σ H Q=>to σ H fun o H1=>ti σ H1 fun i H2=>t o i v H2 fun H3=>Q σ H3
def ziR (ho:PE X o to)(hi:PE X i ti)(hs:Ef X t)
  (ha : ∀ v, assign (.Subscript o i pos) X.env v = (do
   let ov <-holding [v] (eval o X.env)
   let iv <-holding [v,ov] (eval i X.env)
   standAt pos
   holding [v,ov,iv] (setItem ov iv v)
   release [v,ov,iv] []):=by intro _;rfl):PG X (.Subscript o i pos) (Pu to ti t):=by
 intro pins s σ H v u Q I r h;rw[ha];refine xaa (xbX (aQ (ho pins s σ H _ I h) fun ov s1 ⟨x,H1,I1,r1,q1⟩=>?_));refine xaa (xbX (aQ (hi pins s1 σ H1 _ I1 q1) fun iv s2 ⟨y,H2,I2,r2,q2⟩=>?_));refine xaa (xcU (xaa (xbX (aQ (hs pins s2 σ H2 x y v ov iv u _ I2 r1 r2 r q2) fun _ s3 ⟨H3,I3,q3⟩=>?_))));exact wpAny_release ⟨σ,H3,I3,q3⟩
def Ie (te:TE)(g:TG):TS:=fun D σ H=>te σ H fun x H1=>g x σ H1 D.nx
def zhY (he:PE X e te)(hg:PG X tg g)(hs:swapsWithSole [tg] e pos.line X.env=pure false:=by rfl)(hw:swappedStores [tg] e X.env=pure none:=by rfl)
  (h1:(assignEach [tg] X.env).map (·.2)=[assign tg X.env]:=by rfl):PS X (.Assign [tg] e pos) (Ie te g):=by
 intro pins s σ H D I h;refine wpAny_Assign_stores (aQ (he pins s σ H _ I h) fun v s1 ⟨x,H1,I1,r1,q1⟩=>?_) hs hw;rw[h1];exact aQ (hg pins s1 σ H1 x v _ I1 r1 q1) fun _ s2 q=>q
def YW (hN:X.N.Nodup)(hi:X.N[i]? =some x)(hx:Loc X.env.scope x)(he:PE X e te)(hs:swapsWith e (some (.Name x pos')) pos.line X.env=pure false:=by rfl)(hf:X.fn x=true\/X.env.scope.names.lookup x=some .local:=by first |exact .inl rfl |exact .inr rfl |assumption):
  PS X (.Assign [.Name x pos'] e pos) (Ie te (Pq i)):=by
 intro pins s σ H D I h;refine wpAny_Assign_Name (aQ (he pins s σ H _ I h) fun v s1 ⟨y,H1,I1,r1,q1⟩=>?_) hs;exact zp I1 hN hi hx r1 (fun s2 I2=>⟨_,H1,I2,q1⟩) hf
end
section
variable {X:Cx}{pos:Pos}
noncomputable def zd1 (c:TT) (tb:TS):TS:=fun D σ H=>∃W:Nat->St->Hp->Prop,(∃m,W m σ H)/\∀m σ H,W m σ H->
 c σ H fun b H1=>if b=true then ∃N:St->Hp->Prop,(∀σ' H',N σ' H'->∃m',m'<m/\W m' σ' H')/\tb {D with nx:=N,ct:=N,bk:=D.nx} σ H1 else D.nx σ H1
def zc7 (hp:PassesOwn (model X.prog X.w) X.A X.env X.xe)(hc:PT X c tc)(hb:lK X body tb):PS X (.While c body [] pos) (zd1 tc tb):=by
  intro pins s σ H D I h;obtain⟨W,⟨m0,w0⟩,turn⟩:=h;refine wpAny_While (codeAny_whileLoop (fun n s'=>∃σ' H',Inv X pins σ' H' s'/\W n σ' H') ?_ m0 ⟨σ,H,I,w0⟩);rintro n s1 ⟨σ1,H1,I1,w1⟩;refine xbU hp (aQ (hc pins s1 σ1 H1 _ I1 (turn n σ1 H1 w1)) fun b s2 ⟨H2,I2,q2⟩=>?_)
  cases b with
  |true=>
    obtain⟨N,hN,q2⟩:=q2;rw[tG rfl];refine xbU hp (aQ (hb pins s2 σ1 H2 _ I2 q2) fun f s3 q3=>?_)
    cases f with
    |next=>
      obtain⟨σ3,H3,I3,n3⟩:=q3;obtain⟨m',hm,w3⟩:=hN σ3 H3 n3;exact⟨m',hm,σ3,H3,I3,w3⟩
    |cont=>
      obtain⟨σ3,H3,I3,n3⟩:=q3;obtain⟨m',hm,w3⟩:=hN σ3 H3 n3;exact⟨m',hm,σ3,H3,I3,w3⟩
    |brk=>exact q3
    |ret v=>exact q3
  |false=>
    rw[xab xaz];exact xbT ⟨σ1,H2,I2,q2⟩
end
structure It where
 go:Nat->Hp->Prop
 yld:Nat->Hp->V->Hp->Prop
 stop:Nat->Hp->Prop
def lC (X:Cx)(pins:Pnx)(H:Hp)(b:Addr):Prop:=
 H b=none/\b≠X.env.locals/\b∉X.fs/\(b∈X.ex\/X.s₀.heap.objs.size<=b)/\(∀x c,X.env.cells.lookup x=some c->c≠b)/\∀p∈X.pn ++ pins,p.1≠b
def Inv.fpOk (I:Inv X pins σ H s)(hb:s.heap.objs.size<=b)(hn:H' b=none):lC X pins H' b:=by
 refine⟨hn,xdQ (xao I.lt hb),I.nofs hb,.inr (xau I.sz hb),fun x c e z=>?_,fun p hp z=>?_⟩
 ·obtain⟨v,q⟩:=I.cell x c e;exact absurd (xao q.lt (by rw[z];exact hb)) (xbE _)
 ·exact absurd (xao (xar (I.pin p hp).1) (by rw[z];exact hb)) (xbE _)
structure Turn (P:Program)(w:World)(K:Fgx)(tg:Expr)(J:It)(fp:List Addr)(it:Addr)(tn:Nat->Heap->Prop):Prop where
 mem:it∈fp
 obj:∀i h,tn i h->∀b∈fp,∃o,h.get? b=some o/\∀v,o.data≠ .cell v
 keep:∀i h h',tn i h->(∀b∈fp,∀o,h.get? b=some o->h'.get? b=some o)->tn i h'
 item:∀(X:Cx),X.prog=P->X.w=w->X.K=K->X.calm=true->∀(i:Nat) (pins:Pnx) (s:Shared) (σ:St) (H:Hp) (E:Value->Shared->Prop),Inv X pins σ H s->(∀b∈fp,lC X pins H b)->tn i s.heap->J.go i H->
  wpAny (model P w) X.A (pyNext (.ref it)) (fun r s1=>∃u,r=some u/\
   wpAny (model P w) X.A (letOwnedTupleGo tg (.ref it) u) (fun _ s2=>∃x H',Inv X pins σ H' s2/\RelV x u/\J.yld i H x H'/\tn (i + 1) s2.heap/\∀b∈fp,H' b=none) E s1) E s
 done:∀(X:Cx),X.prog=P->X.w=w->X.K=K->X.calm=true->∀(i:Nat) (pins:Pnx) (s:Shared) (σ:St) (H:Hp) (E:Value->Shared->Prop),Inv X pins σ H s->(∀b∈fp,lC X pins H b)->tn i s.heap->J.stop i H->
  wpAny (model P w) X.A (pyNext (.ref it)) (fun r s1=>r=none/\Inv X pins σ H s1) E s
 self:∀(A:Around) (i:Nat) (s:Shared) (Q:Value->Shared->Prop) (E:Value->Shared->Prop),tn i s.heap->Q (.ref it) s->wpAny (model P w) A (pyIter (.ref it)) Q E s
abbrev TI:=St->Hp->(It->Hp->Prop)->Prop
def PIE (X:Cx)(pins:Pnx)(σ:St)(tg:Expr)(R:It->Hp->Prop)(itv:Value)(s2:Shared):Prop:=
 ∃(it:Addr) (fp:List Addr) (tn:Nat->Heap->Prop) (J:It) (H':Hp),itv=.ref it/\Inv X pins σ H' s2/\Turn X.prog X.w X.K tg J fp it tn/\tn 0 s2.heap/\(∀b∈fp,lC X pins H' b)/\R J H'
def PI (X:Cx)(tg iter:Expr)(wi:TI):Prop:=
 ∀(pins:Pnx) (s:Shared) (σ:St) (H:Hp) (R:It->Hp->Prop),Inv X pins σ H s->wi σ H R->
  wpAny (model X.prog X.w) X.A (eval iter X.env) (fun v s1=>wpAny (model X.prog X.w) X.A (pyIter v) (PIE X pins σ tg R) X.xe s1) X.xe s
def Bc {M:Model}{A:Around}{E:Value->Shared->Prop}{s:Shared}{tg:Expr}{it:Addr}{u:Value}{o:Obj}{n:String}{vs:Array Value}{Q:Unit->Shared->Prop}(ho:s.heap.get? it=some o)(hc:o.cls=.type n)(hd:o.data=.fields vs)
    (hn:["enumerate","zip","dict_itemiterator","dict_reverseitemiterator","odict_iterator","itertools.zip_longest","itertools.pairwise"].contains n=false) (hQ:Q () s):wpAny M A (letOwnedTupleGo tg (.ref it) u) Q E s:=by
  unfold letOwnedTupleGo;cases tg<;>first
    |exact xaj hQ
    | (cases u<;>first
        |exact xaj hQ
        | (refine xaa (wpAny_load ho ?_)
           rw[hc,hd];show wpAny M A (if (["enumerate","zip","dict_itemiterator","dict_reverseitemiterator","odict_iterator","itertools.zip_longest","itertools.pairwise"].contains n && vs[0]? ==some (rawInt _))=true then _ else _) Q E s
           rw[xab (by intro h;rw[hn,xb2]at h;cases h)];exact xaj hQ))
noncomputable def UJ (K:Fgx) (a:Addr):It:=
 ⟨fun i H=>∃xs x,fW K H a xs/\xs[i]? =some x,fun i H x H'=>H'=H/\∀xs,fW K H a xs->xs[i]? =some x,fun i H=>∃xs,fW K H a xs/\xs.length<=i⟩
noncomputable def UL (K:Fgx) (a:Addr):It:=
 ⟨fun i H=>∃xs x,g_ K H a xs/\xs[i]? =some x,fun i H x H'=>H'=H/\∀xs,g_ K H a xs->xs[i]? =some x,fun i H=>∃xs,g_ K H a xs/\xs.length<=i⟩
noncomputable def IV (lo:Int) (n:Nat):It:=⟨fun i _=>i<n,fun i H x H'=>H'=H/\x=.int (lo + i),fun i _=>n<=i⟩
def zb4 {P:Program}{w:World}{K:Fgx}{tg:Expr}(a it:Addr):Turn P w K tg (UJ K a) [it] it (fun i h=>h.IsListIter it a i) where
 mem:=by simp
 obj:=fun i h st b hb=>by
  have e:b=it:=by simpa using hb
  subst e;obtain⟨o,e,c,d⟩:=st;exact⟨o,e,fun v z=>by rw[d]at z;cases z⟩
 keep:=fun i h h' st k=>st.at fun o e=>k it (by simp) o e
 item:=by
  intro X hP hw hK hc i pins s σ H E I hf st hg;subst hP hw hK;obtain⟨xs,x,hq,hx⟩:=hg;obtain⟨its,rv,p,hz⟩:=I.list hq;obtain⟨u,hu,ru⟩:=rv.get hx;obtain⟨f0,f1,f2,f3,f4,f5⟩:=hf it (by simp);refine wpAny_pyNext_list_item st p.isList (x:=u) (by simpa using hu) fun h' st' sb=>?_;have I1:Inv X pins σ H {s with heap:=h'}:=I.turned (t':=s.toks) (fun b o hb e=>(sb.2 b hb).trans e) f0 f1 f3 f4 f5;obtain⟨o,e,c,d⟩:=id st';exact⟨u,rfl,Bc (s:={s with heap:=h'}) e c d (by decide) ⟨x,H,I1,ru,⟨rfl,fun ys hy=>by rw[I.list_inj hy hq];exact hx⟩,st',fun b hb=>(hf b hb).1⟩⟩
 done:=by
  intro X hP hw hK hc i pins s σ H E I hf st hg;subst hP hw hK;obtain⟨xs,hq,hx⟩:=hg;obtain⟨its,rv,p,hz⟩:=I.list hq;obtain⟨f0,f1,f2,f3,f4,f5⟩:=hf it (by simp);have hl:=rv.length;exact wpAny_pyNext_list_end (I.ok.hd hc) st p.isList (by simp;omega) fun h' eb=>⟨rfl,I.turned (t':=s.toks) (fun b o hb e=>eb b o hb e) f0 f1 f3 f4 f5⟩
 self:=fun _ _ _ _ _ st h=>wpAny_pyIter_listiter st h
def zbU {P:Program}{w:World}{K:Fgx}{tg:Expr}(a it:Addr):Turn P w K tg (UL K a) [it] it (fun i h=>h.IsTupleIter it a i) where
 mem:=by simp
 obj:=fun i h st b hb=>by
  have e:b=it:=by simpa using hb
  subst e;obtain⟨o,e,c,d⟩:=st;exact⟨o,e,fun v z=>by rw[d]at z;cases z⟩
 keep:=fun i h h' st k=>st.at fun o e=>k it (by simp) o e
 item:=by
  intro X hP hw hK hc i pins s σ H E I hf st hg;subst hP hw hK;obtain⟨xs,x,hq,hx⟩:=hg;obtain⟨its,rv,p,hz⟩:=I.tuple hq;obtain⟨u,hu,ru⟩:=rv.get hx;obtain⟨f0,f1,f2,f3,f4,f5⟩:=hf it (by simp);refine wpAny_pyNext_tuple_item st (show s.heap.IsTuple a its.toArray from p) (x:=u) (by simpa using hu) fun h' st' sb=>?_;have I1:Inv X pins σ H {s with heap:=h'}:=I.turned (t':=s.toks) (fun b o hb e=>(sb.2 b hb).trans e) f0 f1 f3 f4 f5;obtain⟨o,e,c,d⟩:=id st';exact⟨u,rfl,Bc (s:={s with heap:=h'}) e c d (by decide) ⟨x,H,I1,ru,⟨rfl,fun ys hy=>by rw[I.tuple_inj hy hq];exact hx⟩,st',fun b hb=>(hf b hb).1⟩⟩
 done:=by
  intro X hP hw hK hc i pins s σ H E I hf st hg;subst hP hw hK;obtain⟨xs,hq,hx⟩:=hg;obtain⟨its,rv,p,hz⟩:=I.tuple hq;obtain⟨f0,f1,f2,f3,f4,f5⟩:=hf it (by simp);have hl:=rv.length;exact wpAny_pyNext_tuple_end (I.ok.hd hc) st (show s.heap.IsTuple a its.toArray from p) (by simp;omega) fun h' eb=>⟨rfl,I.turned (t':=s.toks) (fun b o hb e=>eb b o hb e) f0 f1 f3 f4 f5⟩
 self:=fun _ _ _ _ _ st h=>wpAny_pyIter_tupleiter st h
def zbO {P:Program}{w:World}{K:Fgx}{tg:Expr}(it:Addr)(lo:Int)(n:Nat):Turn P w K tg (IV lo n) [it] it (fun i h=>IsRangeIter h it (lo + (i:Nat) * 1) ((n:Int) - (i:Nat)) 1) where
 mem:=by simp
 obj:=fun i h st b hb=>by
  have e:b=it:=by simpa using hb
  subst e;exact ⟨_,st,fun v z=>by
   have z':Data.fields _=Data.cell v:=z;cases z'⟩
 keep:=fun i h h' st k=>k it (by simp) _ st
 item:=by
  intro X hP hw hK hc i pins s σ H E I hf st hg;subst hP hw hK;obtain⟨f0,f1,f2,f3,f4,f5⟩:=hf it (by simp);have W:=Walks.range (prog:=X.prog) (w:=X.w) (I.ok.hd hc) it lo 1 n;refine W.item i s _ _ hg st fun v h' tk hv st' kk=>?_;obtain⟨t,rfl⟩:=hv;have I1:Inv X pins σ H {s with heap:=h',toks:=tk}:=I.turned (fun b o hb e=>kk b o (by simpa using hb) e) f0 f1 f3 f4 f5;refine⟨_,rfl,Bc (s:={s with heap:=h',toks:=tk}) (n:="range_iterator") st' rfl rfl (by decide) ⟨.int (lo + i),H,I1,⟨t,?_⟩,⟨rfl,rfl⟩,st',fun b hb=>(hf b hb).1⟩⟩;rw[Int.mul_one]
 done:=by
  intro X hP hw hK hc i pins s σ H E I hf st hg;subst hP hw hK;obtain⟨f0,f1,f2,f3,f4,f5⟩:=hf it (by simp);exact wpAny_pyNext_range_end (I.ok.hd hc) st (by have:n<=i:=hg;omega) fun h' eb=>⟨rfl,I.turned (t':=s.toks) (fun b o hb e=>eb b o hb e) f0 f1 f3 f4 f5⟩
 self:=fun _ _ _ _ _ st h=>wpAny_pyIter_rangeiter st h
section
variable {X:Cx}{tg:Expr}
noncomputable def ziW (K:Fgx) (tl:TE):TI:=fun σ H R=>tl σ H fun x H1=>∃a,x=.ref a/\(∃xs,fW K H1 a xs)/\R (UJ K a) H1
noncomputable def Qa (K:Fgx) (tl:TE):TI:=fun σ H R=>tl σ H fun x H1=>∃a,x=.ref a/\(∃xs,g_ K H1 a xs)/\R (UL K a) H1
def zek {l:Expr}{tl:TE}(hl:PE X l tl):PI X tg l (ziW X.K tl):=by
 intro pins s σ H R I h;refine aQ (hl pins s σ H _ I h) fun v s1 ⟨x,H1,I1,r1,q1⟩=>?_;obtain⟨a,e,⟨xs,hq⟩,q⟩:=q1;subst e;cases r1;obtain⟨its,rv,p,hz⟩:=I1.list hq;refine xdF p.isList ?_;refine⟨s1.heap.objs.size,[s1.heap.objs.size],_,_,H1,rfl,I1.kept (t':=s1.toks) fun b o e=>xaf _ e,zb4 a _,⟨_,xaJ _ rfl,rfl,rfl⟩,fun b hb=>?_,q⟩;have e:b=s1.heap.objs.size:=by simpa using hb
 subst e;exact I1.fpOk (xad _) (I1.hok.fresh (xad _))
def zhw {l:Expr}{tl:TE}(hl:PE X l tl):PI X tg l (Qa X.K tl):=by
 intro pins s σ H R I h;refine aQ (hl pins s σ H _ I h) fun v s1 ⟨x,H1,I1,r1,q1⟩=>?_;obtain⟨a,e,⟨xs,hq⟩,q⟩:=q1;subst e;cases r1;obtain⟨its,rv,p,hz⟩:=I1.tuple hq;refine wpAny_pyIter_tuple (show s1.heap.IsTuple a its.toArray from p) ?_;refine⟨s1.heap.objs.size,[s1.heap.objs.size],_,_,H1,rfl,I1.kept (t':=s1.toks) fun b o e=>xaf _ e,zbU a _,⟨_,xaJ _ rfl,rfl,rfl⟩,fun b hb=>?_,q⟩;have e:b=s1.heap.objs.size:=by simpa using hb
 subst e;exact I1.fpOk (xad _) (I1.hok.fresh (xad _))
def zdu {pins:Pnx}{σ:St}{H:Hp}{s:Shared}{R:It->Hp->Prop}{E:Value->Shared->Prop}{lo hi:Int}{t u v:Tok}{tk:Nat}(I:Inv X pins σ H s)(h1: -(2 ^ 62)<=lo)(h2:lo<2 ^ 62)(h3: -(2 ^ 62)<=hi)(h4:hi<2 ^ 62)
  (q:R (IV lo (hi - lo).toNat) H):wpAny (model X.prog X.w) X.A (pyIter (.ref s.heap.objs.size)) (PIE X pins σ tg R) E {s with heap:=s.heap.push {cls:=.type "range",data:=.fields #[.int lo t,.int hi u,.int 1 v]},toks:=tk}:=by
 refine wpAny_pyIter_range (IsRange.new ..) (small_one h1 h2 h3 h4) ?_;have I1 : Inv X pins σ H { s with heap := s.heap.push { cls := .type "range", data := .fields #[.int lo t, .int hi u, .int 1 v] }, toks := tk } := I.kept fun b o e => xaf _ e;refine ⟨(s.heap.push {cls:=.type "range",data:=.fields #[.int lo t,.int hi u,.int 1 v]}).objs.size,[(s.heap.push {cls:=.type "range",data:=.fields #[.int lo t,.int hi u,.int 1 v]}).objs.size],_,_,H,rfl,
  I1.kept (t':=tk) fun b o e=>xaf _ e,zbO _ lo (hi - lo).toNat,?_,fun b hb=>?_,q⟩
 ·have e1:lo + ((0:Nat):Int) * 1=lo:=by simp
  have e2:(((hi - lo).toNat:Nat):Int) - ((0:Nat):Int)=Builtin.Range.rangeSize lo hi 1:=by rw[rangeSize_one];split<;>omega
  show IsRangeIter _ _ (lo + ((0:Nat):Int) * 1) ((((hi - lo).toNat:Nat):Int) - ((0:Nat):Int)) 1;rw[e1,e2];exact xaJ _ rfl
 ·have e:b=(s.heap.push {cls:=.type "range",data:=.fields #[.int lo t,.int hi u,.int 1 v]}).objs.size:=by simpa using hb
  subst e;exact I1.fpOk (xad _) (I1.hok.fresh (xad _))
noncomputable def yK (ta:TA):TI:=fun σ H R=>ta σ H fun vs H1=>∃j:Int,vs=[.int j]/\ -(2 ^ 62)<=j/\j<2 ^ 62/\R (IV 0 j.toNat) H1
def zb7 {a:Expr}{ta:TA}{p pos:Pos}(hg:Gl X "range")(hm:X.mg "range"=none)(ha:PA X [a] ta)(hs:starEach [a] X.env=[(false,eval a X.env)]:=by rfl):PI X tg (.Call (.Name "range" p) [a] [] pos) (yK ta):=by
  intro pins s σ H R I h;refine Call_ (Dd I hg hm boot_range (xbS (aQ (ha pos pins s σ H _ I h) fun us s1 ⟨vs,H1,I1,r1,q1⟩=>?_) hs rfl));obtain⟨j,e,q1,q2,q⟩:=q1;subst e
  cases r1 with
  |cons r rr=>
    cases rr;obtain⟨t,rfl⟩:=r;exact call_range_1 (zdu I1 (by omega) (by omega) q1 q2 (by simpa using q))
noncomputable def Tj (wi:TI) (g:TG) (tb:TS):TS:=fun D σ H=>wi σ H fun J H1=>∃W:Nat->Nat->St->Hp->Prop,(∃m,W 0 m σ H1)/\∀i m σ H,W i m σ H->
 (J.stop i H/\D.nx σ H)\/(J.go i H/\∃N:St->Hp->Prop,(∀σ' H',N σ' H'->∃m',m'<m/\W (i + 1) m' σ' H')/\∀x H',J.yld i H x H'->g x σ H' fun σ2 H2=>tb {D with nx:=N,ct:=N,bk:=D.nx} σ2 H2)
noncomputable def G_ (fp:List Addr) (h:Heap):Pnx:=fp.filterMap fun b=>(h.get? b).map fun o=>(b,o)
def JT (hb:b∈fp)(e:h.get? b=some o):(b,o)∈G_ fp h:=xch.mpr ⟨b,hb,by rw[e];rfl⟩
def zb9 (hp:p∈G_ fp h):p.1∈fp/\h.get? p.1=some p.2:=by
  obtain⟨b,hb,e⟩:=xch.mp hp
  cases q:h.get? b with
  |none=>rw[q]at e;cases e
  |some o=>
    rw[q]at e;have e':(b,o)=p:=xaw e;subst e';exact⟨hb,q⟩
def Inv.pinned (I:Inv X pins σ H s)(hf:∀b∈fp,lC X pins H b)(ho:∀b∈fp,∃o,s.heap.get? b=some o/\∀v,o.data≠ .cell v):Inv X (pins ++ G_ fp s.heap) σ H s:=
 I.pins_of fun p hp=>(xay.mp hp).elim (fun z=>I.pin p (xaT _ z)) fun z=>by
  obtain⟨hb,e⟩:=zb9 z;obtain⟨f0,f1,f2,_⟩:=hf p.1 hb;obtain⟨o,e',d⟩:=ho p.1 hb;rw[e]at e';cases e';exact⟨e,f0,f1,f2,d⟩
def Inv.unpinned (I:Inv X (pins ++ pl) σ H s):Inv X pins σ H s:=I.pins_of fun p hp=>I.pin p (xaT _ (xc5 _ hp))
def YS (hp:PassesOwn (model X.prog X.w) X.A X.env X.xe)(hc:X.calm=true)(hi:PI X tg iter wi)(hg:PG X tg g)(hb:lK X body tb)
  (hs:∀x,foldedSetIterable iter X.env x=pure x:=by intro _;rfl):PS X (.For tg iter body [] pos) (Tj wi g tb):=by
 intro pins s σ H D I h;refine wpAny_For (aQ (hi pins s σ H _ I h) fun v s1 h1=>aQ h1 fun itv s2 h2=>?_) hs;obtain⟨it,fp,tn,J,H2,e,I2,T,st2,f2,W,⟨m0,w0⟩,turn⟩:=h2;subst e
 -- what stays true of the iterator's objects through the loop
 have stat:∀{H':Hp},(∀b∈fp,H' b=none)->∀b∈fp,lC X pins H' b:=fun hn b hb=>⟨hn b hb,(f2 b hb).2⟩;refine codeAny_forLoop_any (fun n s'=>∃i σ' H',Inv X pins σ' H' s'/\tn i s'.heap/\(∀b∈fp,H' b=none)/\W i n σ' H') ?_ m0 ⟨0,σ,H2,I2,st2,fun b hb=>(f2 b hb).1,w0⟩;rintro n s3 ⟨i,σ3,H3,I3,st3,fr3,w3⟩;rcases turn i n σ3 H3 w3 with⟨stop,qn⟩ |⟨go,N,hN,step⟩
 ·refine xbU hp (aQ (T.done X rfl rfl rfl hc i pins s3 σ3 H3 X.xe I3 (stat fr3) st3 stop) fun r s4 ⟨hr,I4⟩=>?_);subst hr;exact xbT ⟨σ3,H3,I4,qn⟩
 ·refine xbU hp (aQ (T.item X rfl rfl rfl hc i pins s3 σ3 H3 X.xe I3 (stat fr3) st3 go) fun r s4 ⟨u,hr,h4⟩=>?_);subst hr;refine xbU hp (aQ h4 fun _ s5 ⟨x,H5,I5,r5,y5,st5,fr5⟩=>?_);have I5':=I5.pinned (stat fr5) (T.obj _ _ st5);refine xbU hp (aQ (hg _ s5 σ3 H5 x u _ I5' r5 (step x H5 y5)) fun _ s6 ⟨σ6,H6,I6,q6⟩=>?_);refine xbU hp (aQ (hb _ s6 σ6 H6 _ I6 q6) fun f s7 q7=>?_);have again:∀{σ7:St} {H7:Hp},Inv X (pins ++ G_ fp s5.heap) σ7 H7 s7->N σ7 H7->∃m,m<n/\∃i σ' H',Inv X pins σ' H' s7/\tn i s7.heap/\(∀b∈fp,H' b=none)/\W i m σ' H':=fun {σ7 H7} I7 n7=>by
   obtain⟨m',hm,w7⟩:=hN σ7 H7 n7;refine⟨m',hm,i + 1,σ7,H7,I7.unpinned,T.keep _ _ _ st5 fun b hb o e=>(I7.pin (b,o) (xaT _ (xaT _ (JT hb e)))).1,fun b hb=>?_,w7⟩;obtain⟨o,e,d⟩:=T.obj _ _ st5 b hb;exact(I7.pin (b,o) (xaT _ (xaT _ (JT hb e)))).2.1
  cases f with
  |next=>obtain⟨σ7,H7,I7,n7⟩:=q7;exact again I7 n7
  |cont=>obtain⟨σ7,H7,I7,n7⟩:=q7;exact again I7 n7
  |brk=>obtain⟨σ7,H7,I7,q7⟩:=q7;exact⟨σ7,H7,I7.unpinned,q7⟩
  |ret v=>obtain⟨x7,σ7,H7,I7,r7,q7⟩:=q7;exact⟨x7,σ7,H7,I7.unpinned,r7,q7⟩
end
def Um {c:TT}{tb:TS}{D:Ends}{σ:St}{H:Hp}(Pv:St->Hp->Prop)(μ:St->Hp->Nat)(h0:Pv σ H)
  (hs:∀σ H,Pv σ H->c σ H fun b H1=>if b=true then tb {D with nx:=fun σ' H'=>Pv σ' H'/\μ σ' H'<μ σ H,ct:=fun σ' H'=>Pv σ' H'/\μ σ' H'<μ σ H,bk:=D.nx} σ H1 else D.nx σ H1)
  (mono:∀σ H Q Q',(∀b H1,Q b H1->Q' b H1)->c σ H Q->c σ H Q'):zd1 c tb D σ H:=by
 refine⟨fun m σ H=>m=μ σ H/\Pv σ H,⟨_,rfl,h0⟩,?_⟩;rintro m σ H ⟨rfl,p⟩;refine mono σ H _ _ (fun b H1 q=>?_) (hs σ H p)
 cases b with
 |true=>exact⟨_,fun σ' H' ⟨p',l⟩=>⟨_,l,rfl,p'⟩,q⟩
 |false=>exact q
abbrev R2:=V->V->Hp->VK->Prop
def fU (X:Cx)(f:Value->Value->Sem Value)(r:R2):Prop:=
 ∀(pins:Pnx) (s:Shared) (σ:St) (H:Hp) (x y:V) (v u:Value) (Q:VK),Inv X pins σ H s->RelV x v->RelV y u->r x y H Q->
  wpAny (model X.prog X.w) X.A (f v u) (EP X pins σ Q) X.xe s
def I_ (X:Cx)(f:Value->Sem Value)(r:V->Hp->VK->Prop):Prop:=
 ∀(pins:Pnx) (s:Shared) (σ:St) (H:Hp) (x:V) (v:Value) (Q:VK),Inv X pins σ H s->RelV x v->r x H Q->
  wpAny (model X.prog X.w) X.A (f v) (EP X pins σ Q) X.xe s
def lW (X:Cx)(f:Value)(r:List V->Hp->VK->Prop):Prop:=
 ∀(pins:Pnx) (s:Shared) (σ:St) (H:Hp) (xs:List V) (us:List Value) (Q:VK),Inv X pins σ H s->Vals xs us->r xs H Q->
  wpAny (model X.prog X.w) X.A (call f us) (EP X pins σ Q) X.xe s
def Nf (X:Cx)(r:V->Hp->(Bool->Hp->Prop)->Prop):Prop:=
 ∀(pins:Pnx) (s:Shared) (σ:St) (H:Hp) (x:V) (v:Value) (Q:Bool->Hp->Prop),Inv X pins σ H s->RelV x v->r x H Q->
  wpAny (model X.prog X.w) X.A (truthy v) (TP X pins σ Q) X.xe s
def Dz (r:R2)(ta tb:TE):TE:=fun σ H Q=>ta σ H fun x H1=>tb σ H1 fun y H2=>r x y H2 Q
def tUn (r:V->Hp->VK->Prop)(ta:TE):TE:=fun σ H Q=>ta σ H fun x H1=>r x H1 Q
noncomputable def rI (C:Int->Int->Prop) (g:Int->Int->V):R2:=fun x y H Q=>∃i j,x=.int i/\y=.int j/\C i j/\Q (g i j) H
def tK (g:Int->Int->V):R2:=fun x y H Q=>∃i j,x=.int i/\y=.int j/\Q (g i j) H
def rU (g:Int->V):V->Hp->VK->Prop:=fun x H Q=>∃i,x=.int i/\Q (g i) H
section
variable {X:Cx}{a b c:Expr}{ta tb tc:TE}{pos:Pos}
def Ai (ha:PE X a ta)(hb:PE X b tb){pins:Pnx}{s:Shared}{σ:St}{H:Hp}{R:V->V->Hp->Prop}(I:Inv X pins σ H s)
  (h:ta σ H fun x H1=>tb σ H1 fun y H2=>R x y H2) {Q:Value->Shared->Prop} {f:Value->Value->Sem Value}
  (hf:∀v u s2 x y H2,Inv X pins σ H2 s2->RelV x v->RelV y u->R x y H2->wpAny (model X.prog X.w) X.A (f v u) Q X.xe s2):
  wpAny (model X.prog X.w) X.A (eval a X.env) (fun v s₁=>wpAny (model X.prog X.w) X.A (eval b X.env) (fun u s₂=>wpAny (model X.prog X.w) X.A (f v u) Q X.xe s₂) X.xe s₁) X.xe s:=by
 refine aQ (ha pins s σ H _ I h) fun v s1 ⟨x,H1,I1,r1,q1⟩=>?_;refine aQ (hb pins s1 σ H1 _ I1 q1) fun u s2 ⟨y,H2,I2,r2,q2⟩=>?_;exact hf v u s2 x y H2 I2 r1 r2 q2
def YJ {op:Operator}{r:R2}(ho:fU X (binaryOp op) r)(ha:PE X a ta)(hb:PE X b tb):PE X (.BinOp a op b pos) (Dz r ta tb):=by
 intro pins s σ H Q I h;exact wpAny_BinOp (Ai ha hb I h fun v u s2 x y H2 I2 rx ry q=>ho pins s2 σ H2 x y v u Q I2 rx ry q)
def zi4 (ho:I_ X (unaryOp op) r)(ha:PE X a ta):PE X (.UnaryOp op a pos) (tUn r ta):=by
 intro pins s σ H Q I h;exact UnaryOp_ (aQ (ha pins s σ H _ I h) fun v s1 ⟨x,H1,I1,r1,q1⟩=>ho pins s1 σ H1 x v Q I1 r1 q1)
def Kg {f:Value->Value->Sem Value}{C:Int->Int->Prop}{g:Int->Int->Int}
  (rule:∀(i j:Int) (t u:Tok) (s:Shared) (Q:Value->Shared->Prop) (E:Value->Shared->Prop),C i j->Q (.int (g i j) s.toks) {s with toks:=s.toks + 1}->wpAny (model X.prog X.w) X.A (f (.int i t) (.int j u)) Q E s):
  fU X f (rI C fun i j=>.int (g i j)):=by
 intro pins s σ H x y v u Q I rx ry h;obtain⟨i,j,rfl,rfl,hc,q⟩:=h;obtain⟨t,rfl⟩:=rx;obtain⟨t',rfl⟩:=ry;exact rule i j t t' s _ _ hc ⟨.int (g i j),H,I.tok _,⟨_,rfl⟩,q⟩
def G5 {f:Value->Value->Sem Value}{g:Int->Int->Int}
  (rule:∀(i j:Int) (t u:Tok) (s:Shared) (Q:Value->Shared->Prop) (E:Value->Shared->Prop),Q (.int (g i j) s.toks) {s with toks:=s.toks + 1}->wpAny (model X.prog X.w) X.A (f (.int i t) (.int j u)) Q E s):
  fU X f (tK fun i j=>.int (g i j)):=by
 intro pins s σ H x y v u Q I rx ry h;obtain⟨i,j,rfl,rfl,q⟩:=h;obtain⟨t,rfl⟩:=rx;obtain⟨t',rfl⟩:=ry;exact rule i j t t' s _ _ ⟨.int (g i j),H,I.tok _,⟨_,rfl⟩,q⟩
def yU {f:Value->Value->Sem Value}{g:Int->Int->Bool}
  (rule:∀(i j:Int) (t u:Tok) (s:Shared) (Q:Value->Shared->Prop) (E:Value->Shared->Prop),Q (.bool (g i j)) s->wpAny (model X.prog X.w) X.A (f (.int i t) (.int j u)) Q E s):
  fU X f (tK fun i j=>.bl (g i j)):=by
 intro pins s σ H x y v u Q I rx ry h;obtain⟨i,j,rfl,rfl,q⟩:=h;obtain⟨t,rfl⟩:=rx;obtain⟨t',rfl⟩:=ry;exact rule i j t t' s _ _ ⟨.bl (g i j),H,I,rfl,q⟩
def DW (i j:Int):Prop:=0<j/\j<1073741824
def Aa (i j:Int):Prop:=0<=j/\j<=1000000/\i.natAbs<2 ^ 64
def yu (i j:Int):Prop:=(-(2 ^ 64)<i/\i<2 ^ 64)\/(-(2 ^ 64)<j/\j<2 ^ 64)
def yu.ok (h:yu i j):IntMulOk i j:=by
 rcases h with⟨h1,h2⟩ |⟨h1,h2⟩
 ·exact .of_left (intBits_le_64 h1 h2)
 ·exact .of_right (intBits_le_64 h1 h2)
def zg0:fU X (binaryOp .Add) (tK fun i j=>.int (i + j)):=G5 fun _ _ _ _ _ _ _ q=>add_int q
def xW:fU X (binaryOp .Sub) (tK fun i j=>.int (i - j)):=G5 fun _ _ _ _ _ _ _ q=>sub_int q
def nq:fU X (binaryOp .FloorDiv) (rI DW fun i j=>.int (i / j)):=Kg fun i j _ _ _ _ _ hc q=>by
 have h1:(0:Int)<j:=hc.1;have h2:j<1073741824:=hc.2;exact floordiv_int (by omega) (by rw[Int.fdiv_eq_ediv_of_nonneg i (by omega)];exact q) (.inl (PyProof.noPylong_small (by omega)))
def fM:fU X (binaryOp .Mod) (rI (fun _ j=>0<j) fun i j=>.int (i % j)):=Kg fun i j _ _ _ _ _ hc q=>by
 have h1:(0:Int)<j:=hc;exact mod_int' (by omega) (by rw[Int.fmod_eq_emod_of_nonneg i (by omega)];exact q)
def Dh:fU X (binaryOp .Pow) (rI Aa fun i j=>.int (i ^ j.toNat)):=Kg fun _ _ _ _ _ _ _ hc q=>pow_int_small hc.1 hc.2.1 hc.2.2 q
def unI {f:Value->Sem Value}{g:Int->Int}
  (rule:∀(i:Int) (t:Tok) (s:Shared) (Q:Value->Shared->Prop) (E:Value->Shared->Prop),Q (.int (g i) s.toks) {s with toks:=s.toks + 1}->wpAny (model X.prog X.w) X.A (f (.int i t)) Q E s):
  I_ X f (rU fun i=>.int (g i)):=by
 intro pins s σ H x v Q I rx h;obtain⟨i,rfl,q⟩:=h;obtain⟨t,rfl⟩:=rx;exact rule i t s _ _ ⟨.int (g i),H,I.tok _,⟨_,rfl⟩,q⟩
def zhN:I_ X (unaryOp .USub) (rU fun i=>.int (-i)):=unI fun _ _ _ _ _ q=>neg_int q
end
noncomputable def zj:V->V->Bool
 |.non,.non=>true |.non,.int _=>true |.int _,.non=>true |.non,.bl _=>true |.bl _,.non=>true |.non,.str _=>true |.str _,.non=>true
 |.int _,.int _=>true |.bl _,.bl _=>true |.str _,.str _=>true |.byt _,.byt _=>true
 |.int _,.str _=>true |.str _,.int _=>true |.bl _,.str _=>true |.str _,.bl _=>true
 |_,_=>false
def rEq:R2:=fun x y H Q=>zj x y=true/\Q (.bl (decide (x=y))) H
def rNe:R2:=fun x y H Q=>zj x y=true/\Q (.bl (!decide (x=y))) H
def VL:decide (V.int i=V.int j)=(i==j):=by
 rw[xaQ]
 simp
def Jt:decide (V.bl i=V.bl j)=(i==j):=by
 rw[xaQ]
 simp
def VN:decide (V.str i=V.str j)=(i==j):=by
 rw[xaQ]
 simp
def VJ:decide (V.byt i=V.byt j)=(i.toList==j.toList):=by
 rw[xaQ];cases i;cases j
 simp
section
variable {X:Cx}{a b c:Expr}{ta tb tc:TE}{pos:Pos}
def fG (I:Inv X pins σ H s)(q:Q (.bl k) H)(e:k=k'):EP X pins σ Q (.bool k') s:=by
 subst e;exact⟨.bl k,H,I,rfl,q⟩
def zkh:fU X (compareOp .Eq) rEq:=by
  intro pins s σ H x y v u Q I rx ry h;obtain⟨hs,q⟩:=h
  cases x with
  |non=>
    cases rx
    cases y with
    |non=>cases ry;exact PySem.EqNone.eq_none_none (fG I q (by simp))
    |bl j=>cases ry;exact PySem.EqNone.eq_none_bool (fG I q (by simp))
    |int j=>obtain⟨t',rfl⟩:=ry;exact PySem.EqNone.eq_none_int (fG I q (by simp))
    |str j=>obtain⟨t',rfl⟩:=ry;exact PySem.EqNone.eq_none_str (fG I q (by simp))
    |_=>exact absurd (show false=true from hs) xaz
  |bl i=>
    cases rx
    cases y with
    |non=>cases ry;exact PySem.EqNone.eq_bool_none (fG I q (by simp))
    |bl j=>cases ry;exact eq_bool (fG I q Jt)
    |str j=>obtain⟨t',rfl⟩:=ry;exact PySem.EqMixed.eq_bool_str (fG I q (by simp))
    |_=>exact absurd (show false=true from hs) xaz
  |int i=>
    obtain⟨t,rfl⟩:=rx
    cases y with
    |non=>cases ry;exact PySem.EqNone.eq_int_none (fG I q (by simp))
    |int j=>obtain⟨t',rfl⟩:=ry;exact eq_int (fG I q VL)
    |str j=>obtain⟨t',rfl⟩:=ry;exact PySem.EqMixed.eq_int_str (fG I q (by simp))
    |_=>exact absurd (show false=true from hs) xaz
  |str i=>
    obtain⟨t,rfl⟩:=rx
    cases y with
    |non=>cases ry;exact PySem.EqNone.eq_str_none (fG I q (by simp))
    |bl j=>cases ry;exact PySem.EqMixed.eq_str_bool (fG I q (by simp))
    |int j=>obtain⟨t',rfl⟩:=ry;exact PySem.EqMixed.eq_str_int (fG I q (by simp))
    |str j=>obtain⟨t',rfl⟩:=ry;exact eq_str (fG I q VN)
    |_=>exact absurd (show false=true from hs) xaz
  |byt i=>
    obtain⟨t,rfl⟩:=rx
    cases y with
    |byt j=>obtain⟨t',rfl⟩:=ry;exact PySem.W.eq_bytes (fG I q VJ)
    |_=>exact absurd (show false=true from hs) xaz
  |_=>cases y<;>exact absurd (show false=true from hs) xaz
def zlr:fU X (compareOp .NotEq) rNe:=by
  intro pins s σ H x y v u Q I rx ry h;obtain⟨hs,q⟩:=h
  cases x with
  |non=>
    cases rx
    cases y with
    |non=>cases ry;exact PySem.EqNone.ne_none_none (fG I q (by simp))
    |bl j=>cases ry;exact PySem.EqNone.ne_none_bool (fG I q (by simp))
    |int j=>obtain⟨t',rfl⟩:=ry;exact PySem.EqNone.ne_none_int (fG I q (by simp))
    |str j=>obtain⟨t',rfl⟩:=ry;exact PySem.EqNone.ne_none_str (fG I q (by simp))
    |_=>exact absurd (show false=true from hs) xaz
  |bl i=>
    cases rx
    cases y with
    |non=>cases ry;exact PySem.EqNone.ne_bool_none (fG I q (by simp))
    |bl j=>cases ry;exact ne_bool (fG I q (congrArg not Jt))
    |str j=>obtain⟨t',rfl⟩:=ry;exact PySem.EqMixed.ne_bool_str (fG I q (by simp))
    |_=>exact absurd (show false=true from hs) xaz
  |int i=>
    obtain⟨t,rfl⟩:=rx
    cases y with
    |non=>cases ry;exact PySem.EqNone.ne_int_none (fG I q (by simp))
    |int j=>obtain⟨t',rfl⟩:=ry;exact ne_int (fG I q (congrArg not VL))
    |str j=>obtain⟨t',rfl⟩:=ry;exact PySem.EqMixed.ne_int_str (fG I q (by simp))
    |_=>exact absurd (show false=true from hs) xaz
  |str i=>
    obtain⟨t,rfl⟩:=rx
    cases y with
    |non=>cases ry;exact PySem.EqNone.ne_str_none (fG I q (by simp))
    |bl j=>cases ry;exact PySem.EqMixed.ne_str_bool (fG I q (by simp))
    |int j=>obtain⟨t',rfl⟩:=ry;exact PySem.EqMixed.ne_str_int (fG I q (by simp))
    |str j=>obtain⟨t',rfl⟩:=ry;exact ne_str (fG I q (congrArg not VN))
    |_=>exact absurd (show false=true from hs) xaz
  |byt i=>
    obtain⟨t,rfl⟩:=rx
    cases y with
    |byt j=>obtain⟨t',rfl⟩:=ry;exact PySem.W.ne_bytes (fG I q (congrArg not VJ))
    |_=>exact absurd (show false=true from hs) xaz
  |_=>cases y<;>exact absurd (show false=true from hs) xaz
def zjw:fU X (compareOp .Lt) (tK fun i j=>.bl (decide (i<j))):=yU fun _ _ _ _ _ _ _ q=>lt_int q
def zlq:fU X (compareOp .LtE) (tK fun i j=>.bl (decide (i<=j))):=yU fun _ _ _ _ _ _ _ q=>le_int q
def zlz:fU X (compareOp .Gt) (tK fun i j=>.bl (decide (j<i))):=yU fun _ _ _ _ _ _ _ q=>gt_int q
def zlk:fU X (compareOp .GtE) (tK fun i j=>.bl (decide (j<=i))):=yU fun _ _ _ _ _ _ _ q=>ge_int q
def zcc:fU X (compareOp .In) (fun x y H Q=>∃i j,x=.str i/\y=.str j/\Q (.bl (!(Builtin.Str.occurrences j i 0 j.length 1).isEmpty)) H):=by
 intro pins s σ H x y v u Q I rx ry h;obtain⟨i,j,rfl,rfl,q⟩:=h;obtain⟨t,rfl⟩:=rx;obtain⟨t',rfl⟩:=ry;exact in_str (fG I q rfl)
def zhm:fU X (compareOp .Is) (fun x y H Q=>y=.non/\Q (.bl (decide (x=.non))) H):=by
 intro pins s σ H x y v u Q I rx ry h;obtain⟨rfl,q⟩:=h;cases ry;refine is_none_gen (fG I q ?_);cases x<;>first
  |(cases rx;rfl)
  |(obtain⟨t,rfl⟩:=rx;rfl)
def zfN:fU X (compareOp .IsNot) (fun x y H Q=>y=.non/\Q (.bl (!decide (x=.non))) H):=by
 intro pins s σ H x y v u Q I rx ry h;obtain⟨rfl,q⟩:=h;cases ry;refine isnot_none_gen (fG I q ?_);cases x<;>first
  |(cases rx;rfl)
  |(obtain⟨t,rfl⟩:=rx;rfl)
def zbg:fU X (compareOp .NotIn) (fun x y H Q=>∃i j,x=.str i/\y=.str j/\Q (.bl (!(!(Builtin.Str.occurrences j i 0 j.length 1).isEmpty))) H):=by
 intro pins s σ H x y v u Q I rx ry h;obtain⟨i,j,rfl,rfl,q⟩:=h;obtain⟨t,rfl⟩:=rx;obtain⟨t',rfl⟩:=ry;exact notIn_str (fG I q rfl)
def fU.or (h:fU X f r)(h':fU X f r'):fU X f (fun x y H Q=>r x y H Q\/r' x y H Q):=by
 intro pins s σ H x y v u Q I rx ry q;rcases q with q |q
 ·exact h pins s σ H x y v u Q I rx ry q
 ·exact h' pins s σ H x y v u Q I rx ry q
def zeZ {op:CmpOp}{r:R2}(ho:fU X (compareOp op) r)(ha:PE X a ta)(hb:PE X b tb)(hm:behindInMarks op b=false):PE X (.Compare a [op] [b] pos) (Dz r ta tb):=by
 intro pins s σ H Q I h;exact wpAny_Compare1 (Ai ha hb I h fun v u s2 x y H2 I2 rx ry q=>ho pins s2 σ H2 x y v u Q I2 rx ry q) hm
def TF (t:TE):TT:=fun σ H Q=>t σ H fun x H'=>∃k,x=.bl k/\Q k H'
def zfq (ho:fU X (compareOp op) r)(ha:PE X a ta)(hb:PE X b tb)(hm:behindInMarks op b=false):PT X (.Compare a [op] [b] pos) (TF (Dz r ta tb)):=by
 intro pins s σ H Q I h;refine wpAny_isTrue_Compare1 (aQ (ha pins s σ H _ I h) fun v s1 ⟨x,H1,I1,r1,q1⟩=>aQ (hb pins s1 σ H1 _ I1 q1) fun u s2 ⟨y,H2,I2,r2,q2⟩=>
  aQ (ho pins s2 σ H2 x y v u _ I2 r1 r2 q2) fun c s3 ⟨z,H3,I3,r3,k,e,q3⟩=>?_) hm
 subst e;cases r3;exact xbk ⟨H3,I3,q3⟩
noncomputable def Ti (r r':R2) (ta tb tc:TE):TE:=fun σ H Q=>ta σ H fun x H1=>tb σ H1 fun y H2=>r x y H2 fun z H3=>∃k,z=.bl k/\
 (if k=true then tc σ H3 fun w' H4=>r' y w' H4 Q else Q (.bl false) H3)
def zdJ (ho:fU X (compareOp op) r)(ho':fU X (compareOp op') r')(ha:PE X a ta)(hb:PE X b tb)(hc:PE X c tc)
  (hm:lastMarks [op,op'] [b,c]=false:=by with_unfolding_all rfl):PE X (.Compare a [op,op'] [b,c] pos) (Ti r r' ta tb tc):=by
 intro pins s σ H Q I h;refine Compare_chain (aQ (ha pins s σ H _ I h) fun v s1 ⟨x, H1, I1, r1, q1⟩ => chain_link (aQ (hb pins s1 σ H1 _ I1 q1) fun u s2 ⟨y,H2,I2,r2,q2⟩=>
  aQ (ho pins s2 σ H2 x y v u _ I2 r1 r2 q2) fun d s3 ⟨z,H3,I3,r3,k,e,q3⟩=>?_)) hm
 subst e;cases r3;refine xbk ?_
 cases k with
 |false=>exact ite_ff ⟨.bl false,H3,I3,rfl,q3⟩
 |true=>exact ite_tt (chain_last (aQ (hc pins s3 σ H3 _ I3 q3) fun w' s4 ⟨z',H4,I4,r4,q4⟩=>ho' pins s4 σ H4 y z' u w' Q I4 r2 r4 q4))
def zc4 (ho:fU X (compareOp op) r)(ho':fU X (compareOp op') r')(ha:PE X a ta)(hb:PE X b tb)(hc:PE X c tc)
    (hm:lastMarks [op,op'] [b,c]=false:=by with_unfolding_all rfl):PT X (.Compare a [op,op'] [b,c] pos) (TF (Ti r r' ta tb tc)):=by
  intro pins s σ H Q I h;refine isTrue_chain (aQ (ha pins s σ H _ I h) fun v s1 ⟨x, H1, I1, r1, q1⟩ => test_link (aQ (hb pins s1 σ H1 _ I1 q1) fun u s2 ⟨y,H2,I2,r2,q2⟩=>
    aQ (ho pins s2 σ H2 x y v u _ I2 r1 r2 q2) fun d s3 ⟨z,H3,I3,r3,k,e,q3⟩=>?_)) hm
  subst e;cases r3;refine xbk ?_
  cases k with
  |false=>
    obtain⟨k',e',q'⟩:=q3;cases e';exact ite_ff ⟨H3,I3,q'⟩
  |true=>
    refine ite_tt (test_last (aQ (hc pins s3 σ H3 _ I3 q3) fun w' s4 ⟨z',H4,I4,r4,q4⟩=>aQ (ho' pins s4 σ H4 y z' u w' _ I4 r2 r4 q4) fun d' s5 ⟨z2,H5,I5,r5,k2,e2,q5⟩=>?_));subst e2;cases r5;exact xbk ⟨H5,I5,q5⟩
def Ag (K:Fgx)(x:V)(H:Hp)(k:Bool):Prop:=
 match x with
 |.non=>k=false
 |.bl b=>k=b
 |.int i=>k=(i !=0)
 |.str y=>y.length<=sizeLine/\k=((y.length:Int) !=0)
 |.byt y=>y.size<=sizeLine/\k=((y.size:Int) !=0)
 |.ref p=>(∃xs,fW K H p xs/\k= !xs.isEmpty)\/(∃xs,g_ K H p xs/\k= !xs.isEmpty)\/∃kvs,H p=some (.dK kvs)/\k= !kvs.isEmpty
 |_=>False
theorem zbV (r:KV kvs vs):(!vs.isEmpty)= !kvs.isEmpty:=by
 cases r<;>rfl
def WQ (r:Vals xs its):(!its.toArray.isEmpty)= !xs.isEmpty:=by
 cases r<;>simp
def yP:(sizeLine:Nat)<2 ^ 63:=by rw[xav];decide
def zhL:Nf X (fun x H Q=>∃k,Ag X.K x H k/\Q k H):=by
  intro pins s σ H x v Q I rx h;obtain⟨k,e,q⟩:=h;have hl:=yP;have hs:sizeLine=16777216:=xav
  cases x with
  |non=>
    cases rx;have e':k=false:=e;subst e';exact truthy_none ⟨H,I,q⟩
  |bl b=>
    cases rx;have e':k=b:=e;subst e';exact xbk ⟨H,I,q⟩
  |int i=>
    obtain⟨t,rfl⟩:=rx;have e':k=(i !=0):=e;subst e';exact PySem.P.truthy_int ⟨H,I,q⟩
  |str y=>
    obtain⟨t,rfl⟩:=rx;obtain⟨hy,e'⟩:y.length<=sizeLine/\k=((y.length:Int) !=0):=e;subst e';exact PySem.P.truthy_str (by omega) ⟨H,I.tok _,q⟩
  |byt y=>
    obtain⟨t,rfl⟩:=rx;obtain⟨hy,e'⟩:y.size<=sizeLine/\k=((y.size:Int) !=0):=e;subst e';exact PySem.W.truthy_bytes (by omega) ⟨H,I.tok _,q⟩
  |ref p=>
    cases rx;have e':(∃xs,fW X.K H p xs/\k= !xs.isEmpty)\/(∃xs,g_ X.K H p xs/\k= !xs.isEmpty)\/∃kvs,H p=some (.dK kvs)/\k= !kvs.isEmpty:=e;rcases e' with⟨xs,hx,e'⟩ |⟨xs,hx,e'⟩ |⟨kvs,hx,e'⟩
    · subst e';obtain⟨its,r,pl,hz⟩:=I.list hx;have hlen:=r.length;exact wpAny_truthy_list pl.isList (by simp only[xai];omega) ⟨H,I.tok _,by rw[WQ r];exact q⟩
    · subst e';obtain⟨its,r,pl,hz⟩:=I.tuple hx;have hlen:=r.length;exact truthy_tuple pl (by simp only[xai];omega) ⟨H,I.tok _,by rw[WQ r];exact q⟩
    · subst e';obtain⟨hz,hS,vs,r,m⟩:kvs.length<=sizeLine/\(p==sysModules)=false/\∃vs,KV kvs vs/\s.heap.DictOf (nH X.prog X.w) p vs:=I.hok p _ hx;have hlen:kvs.length=vs.length:=xdA r;exact wpAny_truthy_dict hS m (by omega) ⟨H,I.tok _,by rw[zbV r];exact q⟩
  |_=>exact(show False from e).elim
def zc2 (ha:PE X a ta)(he:∀whole,isTrue a X.env whole=(do let v <-whole;standAt a.pos;holding [v] (truthy v))):
  PT X a (fun σ H Q=>ta σ H fun x H'=>∃k,Ag X.K x H' k/\Q k H'):=by
 intro pins s σ H Q I h;exact isTrue_plain (aQ (ha pins s σ H _ I h) fun v s1 ⟨x,H1,I1,r1,q1⟩=>zhL pins s1 σ H1 x v Q I1 r1 q1) (he _)
def zbL:fU X (binaryOp .Add) (fun x y H Q=>∃i j,x=.str i/\y=.str j/\i.length + j.length<=sizeLine/\Q (.str (i ++ j)) H):=by
 intro pins s σ H x y v u Q I rx ry h;obtain⟨i,j,rfl,rfl,hz,q⟩:=h;obtain⟨t,rfl⟩:=rx;obtain⟨t',rfl⟩:=ry;exact add_str (fun t' tk=>⟨.str (i ++ j),H,I.tok _,⟨_,rfl⟩,q⟩) hz
def vals1 (r:Vals [x] us):∃u,us=[u]/\RelV x u:=by
 cases r with
 |cons r1 r2=>cases r2;exact⟨_,rfl,r1⟩
def vals2 (r:Vals [x,y] us):∃u w',us=[u,w']/\RelV x u/\RelV y w':=by
  cases r with
  |cons r1 r2=>
    cases r2 with
    |cons r3 r4=>cases r4;exact⟨_,_,rfl,r1,r3⟩
def zcm (hc:X.calm=true):lW X (.builtin "min") (fun xs H Q=>∃i j,xs=[.int i,.int j]/\Q (.int (if j<i then j else i)) H):=by
 intro pins s σ H xs us Q I r h;obtain⟨i,j,rfl,q⟩:=h;obtain⟨u,w',rfl,⟨t,rfl⟩,⟨t',rfl⟩⟩:=vals2 r;refine min_two_ints (I.ok.hd hc) fun h' tk k=>⟨_,H,I.kept k,?_,q⟩
 by_cases hj:j<i
 ·rw[tG hj,tG hj];exact⟨_,rfl⟩
 ·rw[xab hj,xab hj];exact⟨_,rfl⟩
def xM:lW X (.type "str") (fun xs H Q=>∃i,xs=[.int i]/\i.natAbs.log2<1920/\Q (.str (toString i)) H):=by
 intro pins s σ H xs us Q I r h;obtain⟨i,rfl,hz,q⟩:=h;obtain⟨u,rfl,t,rfl⟩:=vals1 r;exact PySem.P.str_of_int hz ⟨.str _,H,I.tok _,⟨_,rfl⟩,q⟩
end
structure ObjM (h:Heap)(x dx C:Addr)(mA:Mgx):Prop where
 obj:h.get? x=some (PySem.W.instObj C dx)
 ns:h.Ns1 dx mA
 ne:dx≠x
def JQ {h:Heap}{dx:Addr}{mA:Mgx}(n:h.Ns1 dx mA):∃od,h.get? dx=some od/\∀name,PySem.W.lookIn name od=some (mA name):=by
 obtain⟨o,es,ep,ho,hd,hk,_,hm⟩:=n;refine⟨o,ho,fun name=>?_⟩;have e:=hm name;unfold nsFind findBy at e;rw[<-xdu]at e;unfold PySem.W.lookIn;rw[hd];dsimp only
 split
 ·rename_i y q;rw[q]at e;exact congrArg some e
 ·rename_i q;rw[q]at e;have a:es.toList.any (·.refKey)=false:=by
   rw[xeK];intro y hy;obtain⟨z,t,hkey⟩:=hk y (Array.mem_toList_iff.mp hy)
   simp[DictEntry.refKey,hkey]
  have a':¬ es.toList.any (·.refKey)=true:=by rw[a];exact xaz
  rw[xab a'];exact congrArg some e
def ObjM.look (I:ObjM h x dx C mA):∃od,PySem.W.InstAt h x (PySem.W.instObj C dx) C (some od)/\∀name,PySem.W.lookIn name od=some (mA name):=
 let ⟨od,ho,hl⟩:=JQ I.ns
 ⟨od,⟨I.obj,rfl,rfl,ho⟩,hl⟩
section
variable {prog:Program}{w:World}{A:Around}{E:Value->Shared->Prop}{s:Shared}{K:Fgx}{x dx C f:Addr}{mA:Mgx}{name:Str}{v:Value}
def zee (X:K.In s.heap)(I:ObjM s.heap x dx C mA)
  (hs:PySem.W.findIn K (.ref C) "__setattr__"=some (some (.builtin "object.__setattr__"))) (hp:PySem.W.plainOver K C=true) (ht:PySem.W.takerIn K C name=some none) (hh:PySem.W.hasDictIn K C=true)
  (hw:PySem.Within mA ns) (hsz:ns.length<=sizeLine)
  (h:∀h',ObjM h' x dx C (fun y=>if y=name then some v else mA y)->Heap.SameBut dx s.heap h'->Q () {s with heap:=h',toks:=s.toks + 2}):
  wpAny (model prog w) A (setAttr (.ref x) name v) Q E s:=by
 obtain⟨od,J,hl⟩:=I.look;refine xeL X J hs (PySem.W.osa_open (s:={s with toks:=s.toks + 1}) (r:=none) X J hp ht fun b=>?_);obtain⟨cd,hc,hd'⟩:=xcw hh;have hx:s.heap.get? x=some ⟨.ref C,some dx,.plain, #[]⟩:=I.obj;refine xaa (xaj (xaa (xaa (xdp hx (xaa (xbG (s:={s with toks:=s.toks + 1}) (xdj X hc) ?_))))));rw[hd'];refine xaj (a:=some dx) (xaa (xaj (xaa ?_)));refine wpAny_nsSet1 (s:={s with toks:=s.toks + 1}) I.ns fun h' hn2 hs2=>?_;obtain⟨oD,esD,epD,hoD,hdD,hcD⟩:=hn2.count (PySem.Within.cons name v hw);refine xaa (wpAny_lookBehind hoD (by rw[hdD];exact pastItsLine_dict (xau hcD (by rw[xal];omega))) ?_);exact xaj (h _ ⟨(hs2.2 _ (xbA I.ne)).trans I.obj,hn2,I.ne⟩ hs2)
def zdG (X:K.In s.heap)(hm:PySem.W.makesIn K C=true)
  (hi:PySem.W.findIn K (.ref C) "__init__"=some (some (.ref f))) (hf:PySem.W.typeIn K (.ref f)=some (.type "function"))
  (h:codeAny (model prog w) (A.under (.builtin "type.__call__" ⟨.ref C::vs,kw⟩)) (.call (.ref f) ⟨.ref (s.heap.objs.size + 1)::vs,kw⟩) (PySem.W.InitBack (s.heap.objs.size + 1) R)
   {s with heap:=(s.heap.push PySem.W.emptyDict).push (PySem.W.instObj C s.heap.objs.size)}):
  codeAny (model prog w) A (.call (.ref C) ⟨vs,kw⟩) R s:=by
 obtain⟨hh,g,d,t,os⟩:=s;exact PySem.W.make_core (PySem.W.makes_of X hm) (xcx X hi) (fun self=>PySem.W.bind_fn X self hf) (.inl rfl) h
end
noncomputable def fK (f:Str) (v:V):List (Str×V)->List (Str×V)
 | []=>[(f,v)]
 |(g,x)::r=>if g=f then(g,v)::r else(g,x)::fK f v r
theorem Xk (f g:Str)(v:V):∀fs:List (Str×V),(fK f v fs).lookup g=if g=f then some v else fs.lookup g
  | []=>by
    show List.lookup g [(f,v)]=_
    by_cases h:g=f
    · have hb:(g==f)=true:=xaZ.mpr h;simp only[List.lookup,hb,tG h]
    · have hb:(g==f)=false:=xbj.mpr h;simp only[List.lookup,hb,xab h]
  |(k,x)::r=>by
    have ih:=Xk f g v r;rw[show fK f v ((k,x)::r)=(if k=f then(k,v)::r else(k,x)::fK f v r) from rfl]
    by_cases hk:k=f
    · rw[tG hk]
      by_cases h:g=k
      · have hb:(g==k)=true:=xaZ.mpr h;simp only[List.lookup,hb,tG (h.trans hk)]
      · have hb:(g==k)=false:=xbj.mpr h;simp only[List.lookup,hb,xab (fun e:g=f=>h (e.trans hk.symm))]
    · rw[xab hk]
      by_cases h:g=k
      · have hb:(g==k)=true:=xaZ.mpr h;simp only[List.lookup,hb,xab (fun e:g=f=>hk (h.symm.trans e))]
      · have hb:(g==k)=false:=xbj.mpr h;simp only[List.lookup,hb];exact ih
theorem Qk (f:Str)(v:V):∀fs:List (Str×V),f∈(fK f v fs).map (·.1)/\∀g,g∈fs.map (·.1)->g∈(fK f v fs).map (·.1)
  | []=>⟨by simp[fK],fun g h=>by simp at h⟩
  |(k,x)::r=>by
    obtain⟨i1,i2⟩:=Qk f v r;rw[show fK f v ((k,x)::r)=(if k=f then(k,v)::r else(k,x)::fK f v r) from rfl]
    by_cases hk:k=f
    · rw[tG hk];subst hk;exact⟨by simp,fun g h=>by simpa using h⟩
    · rw[xab hk];refine⟨?_,fun g h=>?_⟩
      · rw[xak];exact xan _ i1
      · rw[xak]at h ⊢;rcases xaq.mp h with e |e
        · exact xaq.mpr (.inl e)
        · exact xan _ (i2 g e)
theorem Xd (f:Str)(v:V):∀fs:List (Str×V),(fK f v fs).length<=fs.length + 1
  | []=>by simp[fK]
  |(k,x)::r=>by
    have ih:=Xd f v r;rw[show fK f v ((k,x)::r)=(if k=f then(k,v)::r else(k,x)::fK f v r) from rfl]
    by_cases hk:k=f
    · rw[tG hk,xal,xal];omega
    · rw[xab hk,xal,xal];omega
def kE.some_of (r:kE (some v) o):∃u,o=some u/\RelV v u:=by
 cases o with
 |none=>exact(show False from r).elim
 |some u=>exact⟨u,rfl,r⟩
theorem zci (r:RelV v u):PySem.W.handedIn u=true:=by
 cases v with
 |non=>cases (show u=Value.none from r);rfl
 |bl b=>cases (show u=Value.bool b from r);rfl
 |int i=>obtain⟨t,e⟩:=(show ∃t,u=Value.int i t from r);cases e;rfl
 |str x=>obtain⟨t,e⟩:=(show ∃t,u=Value.str x t from r);cases e;rfl
 |byt b=>obtain⟨t,e⟩:=(show ∃t,u=Value.bytes b t from r);cases e;rfl
 |flt b=>obtain⟨t,e⟩:=(show ∃t,u=Value.float b t from r);cases e;rfl
 |ref a=>cases (show u=Value.ref a from r);rfl
 |ty n=>cases (show u=Value.type n from r);rfl
section
variable {P:Program}{w:World}{H H':Hp}{h h':Heap}{a C dx:Addr}{fs fs':List (Str×V)}
def WM (hok:gH P w H h)(e:H a=some (.ins C dx fs)):∃mA,ObjM h a dx C mA/\(∀f,kE (fs.lookup f) (mA f))/\PySem.Within mA (fs.map (·.1))/\fs.length<=1000/\H dx=some (.own a):=by
 obtain⟨d,z,ne,ob,mA,n,r,q⟩:=(show gj P w H h a (.ins C dx fs) from hok a _ e);exact⟨mA,⟨ob,n,ne⟩,r,q,z,d⟩
end
structure Cls (K:Fgx)(C:Addr):Prop where
 pg:PySem.W.plainGet K C Str.empty=true
 hd:PySem.W.hasDictIn K C=true
 po:PySem.W.plainOver K C=true
 sa:PySem.W.findIn K (.ref C) "__setattr__"=some (some (.builtin "object.__setattr__"))
def Cls.get {K:Fgx}{C:Addr}(c:Cls K C)(f:Str):PySem.W.plainGet K C f=true:=c.pg
def Af (K:Fgx)(C:Addr)(f:Str):Prop:=PySem.W.findIn K (.ref C) f=some none
theorem Af.taker {K:Fgx}{C:Addr}{f:Str}(n:Af K C f):PySem.W.takerIn K C f=some none:=by
 unfold PySem.W.takerIn;rw[show PySem.W.findIn K (.ref C) f=some none from n];rfl
structure Con (K:Fgx)(C:Addr)(f:Str)(v:V)(u:Value):Prop where
 at_:PySem.W.findIn K (.ref C) f=some (some u)
 rel:RelV v u
 get:PySem.W.specialIn K u "__get__"=some none
 cp:PySem.W.copiedNames.contains f=false
structure Meth (K:Fgx)(C:Addr)(m:Str)(f:Addr):Prop where
 at_:PySem.W.findIn K (.ref C) m=some (some (.ref f))
 fn:PySem.W.isFn K (.ref f)=true
 kp:PySem.W.keepIn K (.ref f)=true
section
variable {X:Cx}{pins:Pnx}{σ:St}{H:Hp}{s:Shared}{a C dx:Addr}{fs:List (Str×V)}{f:Str}{v:V}{A:Around}{E:Value->Shared->Prop}
def zbE (I:Inv X pins σ H s)(e:H a=some (.ins C dx fs))(c:Cls X.K C)(n:Af X.K C f)(hl:fs.length<1000)(ry:RelV y u)
  (h:∀s',Inv X pins σ (upd H a (.ins C dx (fK f y fs))) s'->Q () s'):wpAny (model X.prog X.w) A (setAttr (.ref a) f u) Q E s:=by
 obtain⟨mA,O,r,wi,_,ho⟩:=WM I.hok e;have hz:(fs.map (·.1)).length<=sizeLine:=by rw[xap,xav];omega
 refine zee I.kIn O c.sa c.po n.taker c.hd wi hz fun h' O' sb=>h _ ?_;have hd:∃o,h'.get? dx=some o:=let ⟨o,_,_,e',_⟩:=O'.ns;⟨o,e'⟩
 refine I.write (x:=a) (e:=dx) (by rw[e];exact True.intro) (.inr ho) (fun b q hb z=>(sb.2 b hb).trans z) hd ?_;refine⟨by rw[aZ O.ne];exact ho,?_,O.ne,O'.obj,_,O'.ns,fun g=>?_,fun g hg=>?_⟩
 ·have:=Xd f y fs;omega
 ·show kE ((fK f y fs).lookup g) (if g=f then some u else mA g)
  rw[Xk]
  by_cases q:g=f
  ·rw[tG q,tG q];exact ry
  ·rw[xab q,xab q];exact r g
 ·by_cases q:g=f
  ·rw[q];exact(Qk f y fs).1
  ·refine(Qk f y fs).2 g (wi g fun z=>hg ?_);show(if g=f then some u else mA g)=none
   rw[xab q];exact z
def Inv.made (I:Inv X pins σ H s):Inv X pins σ (upd (upd H s.heap.objs.size (.own (s.heap.objs.size + 1))) (s.heap.objs.size + 1) (.ins C s.heap.objs.size []))
  {s with heap:=(s.heap.push PySem.W.emptyDict).push (PySem.W.instObj C s.heap.objs.size)}:=by
 have e1:(s.heap.push PySem.W.emptyDict).get? s.heap.objs.size=some PySem.W.emptyDict:=xaJ s.heap rfl;have e2:((s.heap.push PySem.W.emptyDict).push (PySem.W.instObj C s.heap.objs.size)).get? (s.heap.objs.size + 1)=some (PySem.W.instObj C s.heap.objs.size):=by
  have:=xaJ (s.heap.push PySem.W.emptyDict) (o:=PySem.W.instObj C s.heap.objs.size) rfl
  rwa [xee]at this
 have e3:(s.heap.push PySem.W.emptyDict).Ns s.heap.objs.size (fun _=>none):=⟨PySem.W.emptyDict, #[],_,e1,rfl,(fun e he=>absurd he (by simp)),fun _=>rfl⟩;have I1:=I.laid (a:=s.heap.objs.size) (o:=.own (s.heap.objs.size + 1)) (h':=s.heap.push PySem.W.emptyDict) (t':=s.toks) (fun b u q=>xaf _ q) (xad _) ⟨_,e1⟩;refine I1.laid (a:=s.heap.objs.size + 1) (o:=.ins C s.heap.objs.size []) (t':=s.toks) (fun b u q=>xaf _ q) (xez (xee _ _)) ?_;have ne:s.heap.objs.size≠s.heap.objs.size + 1:=xaR (xbP _);refine⟨by rw[aZ ne,gq],xbL _,ne,e2,fun _=>none,(Heap.Ns1.of_empty e3).at fun o q=>xaf _ q,fun _=>True.intro,fun y hy=>absurd rfl hy⟩
def zfA (hb:attributeBase e f env (eval e env)=eval e env)
  (h:wpAny (model prog w) A (eval e env) (fun o s₁=>wpAny (model prog w) A (getAttr o f true) Q E s₁) E s):wpAny (model prog w) A (eval (.Attribute e f pos) env) Q E s:=
 Attribute_any_ h (by rw[arm_eval_Attribute,hb])
end
noncomputable def Sg (K:Fgx) (ta tv:TE) (f:Str):TS:=fun D σ H=>tv σ H fun y H1=>ta σ H1 fun x H2=>∃a C dx fs,x=.ref a/\H2 a=some (.ins C dx fs)/\Cls K C/\Af K C f/\fs.length<1000/\
 D.nx σ (upd H2 a (.ins C dx (fK f y fs)))
section
variable {X:Cx}{o e value:Expr}{f:Str}{pos pos' tpos:Pos}{ta tv:TE}
def zg3 (ha:PE X o ta)(hv:PE X value tv)(hs:swapsWith value (some (.Attribute o f pos')) pos.line X.env=pure false):PS X (.Assign [.Attribute o f pos'] value pos) (Sg X.K ta tv f):=by
 intro pins s σ H D I h;refine xc3 (aQ (hv pins s σ H _ I h) fun u s1 ⟨y,H1,I1,ry,q⟩=>aQ (ha pins s1 σ H1 _ I1 q) fun ov s2 ⟨x,H2,I2,rx,a,C,dx,fs,ex,ea,c,n,l,q2⟩=>?_) hs;subst ex;obtain rfl:ov=Value.ref a:=rx;exact zbE I2 ea c n l ry fun s3 I3=>⟨σ,_,I3,q2⟩
noncomputable def Bt:V->V->Hp->VK->Prop:=fun x y H Q=>∃i j,x=.int i/\y=.int j/\Q (.int (i + j)) H
end
section
variable {X:Cx}{pins:Pnx}{σ:St}{H:Hp}{s:Shared}{A:Around}{E:Value->Shared->Prop}{Q:Value->Shared->Prop}{c:Value}{b:Bool}
inductive TyOf (K:Fgx)(H:Hp):V->Value->Prop where
 |non:TyOf K H .non (.type "NoneType")
 |bl (x:Bool):TyOf K H (.bl x) (.type "bool")
 |int (i:Int):TyOf K H (.int i) (.type "int")
 |str (x:Str):TyOf K H (.str x) (.type "str")
 |flt (x:UInt64):TyOf K H (.flt x) (.type "float")
 |lst {a:Addr} {xs:List V} (e:H a=some (.lst xs)):TyOf K H (.ref a) (.type "list")
 |frz {a:Addr} {o:Obj} {xs:List V} (e:H a=some (.frz o (.lst xs))):TyOf K H (.ref a) (.type "list")
 |tup {a:Addr} {xs:List V} (e:H a=some (.tup xs)):TyOf K H (.ref a) (.type "tuple")
 |dK {a:Addr} {kvs:List (Key×V)} (e:H a=some (.dK kvs)):TyOf K H (.ref a) (.type "dict")
 |dT {a:Addr} {kvs:List (List Key×V)} (e:H a=some (.dT kvs)):TyOf K H (.ref a) (.type "dict")
 |ins {a C dx:Addr} {fs:List (Str×V)} (e:H a=some (.ins C dx fs)) (cl:Cls K C) (ha:PySem.W.findIn K (.ref C) "__class__"=some (some (.builtin "object.__class__")))
   (hn:PySem.W.specialIn K (.builtin "object.__class__") "__get__"=some (some (.builtin "getset_descriptor.__get__"))) (htk:PySem.W.takesIn K (.builtin "object.__class__")=some true)
   (hm:PySem.W.mroIn K C (.type "object")=some true):TyOf K H (.ref a) (.ref C)
def JK (I:Inv X pins σ H s)(rx:RelV x u)(ty:TyOf X.K H x t)(e:PySem.W.kitOne X.K t c=some b)(h:∀tk,Q (.bool b) {s with toks:=tk}):
    wpAny (model X.prog X.w) A (call (.builtin "isinstance") [u,c]) Q E s:=by
  cases ty with
  |non=>cases (show u=Value.none from rx);exact xa5 PySem.W.kitx_none I.kIn True.intro e (fun z=>nomatch z) h
  |bl y=>cases (show u=Value.bool y from rx);exact xa5 PySem.W.kitx_bool I.kIn True.intro e (fun z=>nomatch z) h
  |int i=>obtain⟨t,q⟩:=(show ∃t,u=Value.int i t from rx);cases q;exact xa5 PySem.W.kitx_int I.kIn True.intro e (fun z=>nomatch z) h
  |str y=>obtain⟨t,q⟩:=(show ∃t,u=Value.str y t from rx);cases q;exact xa5 PySem.W.kitx_str I.kIn True.intro e (fun z=>nomatch z) h
  |flt y=>obtain⟨t,q⟩:=(show ∃t,u=Value.float y t from rx);cases q;exact xa5 PySem.W.kitx_float I.kIn True.intro e (fun z=>nomatch z) h
  | @lst a xs ea=>
    cases (show u=Value.ref a from rx);obtain⟨_,_,n,_,h1⟩:=(show gj X.prog X.w H s.heap a (.lst xs) from I.hok a _ ea);exact xa5 xdG I.kIn ⟨_,h1,rfl⟩ e (fun z=>nomatch z) h
  | @frz a ob xs ea=>
    cases (show u=Value.ref a from rx);obtain⟨_,_,_,n,_,h1⟩:=(show gj X.prog X.w H s.heap a (.frz ob (.lst xs)) from I.hok a _ ea);exact xa5 xdG I.kIn ⟨_,h1,rfl⟩ e (fun z=>nomatch z) h
  | @tup a xs ea=>
    cases (show u=Value.ref a from rx);obtain⟨_,_,_,p⟩:=(show gj X.prog X.w H s.heap a (.tup xs) from I.hok a _ ea);obtain⟨o,h1,h2,_⟩:=p;exact xa5 xeA I.kIn ⟨o,h1,h2⟩ e (fun z=>nomatch z) h
  | @dK a kvs ea=>
    cases (show u=Value.ref a from rx);obtain⟨_,_,vs,_,p⟩:=(show gj X.prog X.w H s.heap a (.dK kvs) from I.hok a _ ea);obtain⟨o,es,ep,h1,h2,_⟩:=p;exact xa5 xdH I.kIn ⟨o,h1,h2.1⟩ e (fun z=>nomatch z) h
  | @dT a kvs ea=>
    cases (show u=Value.ref a from rx);obtain⟨_,_,xs,_,o,es,ep,h1,h2,_⟩:=(show gj X.prog X.w H s.heap a (.dT kvs) from I.hok a _ ea);exact xa5 xdH I.kIn ⟨o,h1,h2.1⟩ e (fun z=>nomatch z) h
  | @ins a C dx fs ea cl ha hn htk hm=>
    cases (show u=Value.ref a from rx);obtain⟨mA,O,_⟩:=WM I.hok ea;obtain⟨od,J,_⟩:=O.look;exact xa5 (PySem.W.kitx_own (cl.get _) cl.hd ha hn htk hm) I.kIn J e (fun z=>nomatch z) h
end
structure Room (k:Nat)(A:Around):Prop where
 hd:A.handled=none
 dp:A.depth + 3 * k + 5<recursionLimit
 un:A.units + 16 * k + 200<cLine
def Room.mono (r:Room k A)(h:j<=k):Room j A:=⟨r.hd,by have:=r.dp;omega,by have:=r.un;omega⟩
theorem Room.deeper (r:Room (k + 1) A)(env:Env):Room k (A.deeper env):=
 ⟨r.hd,by have:=r.dp;show A.depth + 1 + 3 * k + 5<_;omega,by have:=r.un;show A.units + 3 + 16 * k + 200<_;omega⟩
def zbN {A:Around}{C:Addr}{us:List Value}{kw:List (Str×Value)}:(A.under (.builtin "type.__call__" ⟨.ref C::us,kw⟩)).depth=A.depth + 1:=by
 first |rfl |simp[Around.under,Code.weight,Code.isCreation,Code.isGuard,Code.isCaller,Code.frames,Code.isFrame,guardIds]
def zb1 {A:Around}{C:Addr}{us:List Value}{kw:List (Str×Value)}:(A.under (.builtin "type.__call__" ⟨.ref C::us,kw⟩)).units=A.units + 1:=by
 first |rfl |simp[Around.under,Code.cUnits,Code.frames,Code.isFrame]
def Room.make (r:Room (k + 1) A)(C:Addr)(us:List Value)(kw:List (Str×Value)):Room k (A.under (.builtin "type.__call__" ⟨.ref C::us,kw⟩)):=
 ⟨r.hd,by have:=r.dp;rw[zbN];omega,by have:=r.un;rw[zb1];omega⟩
theorem Room.depth (r:Room k A):A.depth<recursionLimit:=by have:=r.dp;omega
theorem Room.units (r:Room k A):A.units + 64<cLine:=by have:=r.un;omega
def Tq:TA:=fun _ H Q=>Q [] H
def Ih (ta:TE)(tr:TA):TA:=fun σ H Q=>ta σ H fun x H1=>tr σ H1 fun xs H2=>Q (x::xs) H2
section
variable {X:Cx}{e:Expr}{es:List Expr}{te:TE}{t:TA}{pos:Pos}
def wU:PA X [] Tq:=fun _ _ _ _ H Q I h=>xdI ⟨[],H,I,.nil,h⟩
def q_ (ha:PE X e te)(hr:PA X es t)(hs:starEach (e::es) X.env=(false,eval e X.env)::starEach es X.env:=by rfl):PA X (e::es) (Ih te t):=by
 intro pos pins s σ H Q I h;rw[hs];show wpAny _ _ (spliced ((false,eval e X.env)::backTo pos (starEach es X.env))) _ _ s;refine xbq (aQ (ha pins s σ H _ I h) fun u s1 ⟨x,H1,I1,r1,q1⟩=>?_);exact aQ (hr pos pins s1 σ H1 _ I1 q1) fun us s2 ⟨xs,H2,I2,r2,q2⟩=>⟨x::xs,H2,I2,.cons r1 r2,q2⟩
noncomputable def TV (t:TA):TE:=fun σ H Q=>t σ H fun xs H1=>xs.length<=sizeLine/\∀p,H1 p=none->Q (.ref p) (upd H1 p (.tup xs))
noncomputable def Tp (t:TA):TE:=fun σ H Q=>t σ H fun xs H1=>xs.length<=sizeLine/\∀p,H1 p=none->Q (.ref p) (upd H1 p (.lst xs))
def YL {x1}(h:PA X es t):PE X (.Tuple es x1 pos) (TV t):=by
 intro pins s σ H Q I hq;refine wpAny_Tuple_spliced (aQ (h pos pins s σ H _ I hq) fun us s1 ⟨xs,H1,I1,r,z,q⟩=>⟨by rw[<-r.length];exact z,?_⟩);have hf:H1 s1.heap.objs.size=none:=I1.hok.fresh (xad _);refine⟨.ref s1.heap.objs.size,upd H1 s1.heap.objs.size (.tup xs),I1.laid (t':=s1.toks) (fun b u e=>xaf _ e) (xad _) ?_,rfl,q _ hf⟩;exact⟨z,us,r,⟨_,xaJ _ rfl,rfl,_,rfl⟩⟩
def zf3 (h:PA X es t):PE X (.List es pos) (Tp t):=by
 intro pins s σ H Q I hq;refine wpAny_List_spliced (aQ (h pos pins s σ H _ I hq) fun us s1 ⟨xs,H1,I1,r,z,q⟩=>⟨by rw[<-r.length];exact z,?_⟩);have hf:H1 s1.heap.objs.size=none:=I1.hok.fresh (xad _);refine⟨.ref s1.heap.objs.size,upd H1 s1.heap.objs.size (.lst xs),I1.laid (t':=s1.toks) (fun b u e=>xaf _ e) (xad _) ?_,rfl,q _ hf⟩;exact⟨z,us,0,r,xaJ _ rfl⟩
end
abbrev Sp:=List V->Hp->VK->XK->Prop
abbrev nQ:=List Env->Hp->Shared->XK->Value->Shared->Prop
structure Env0 (P:Program)(w:World)(K:Fgx)(mg:Mgx)(base:Heap)(A:Around)(outer:List Env)(s:Shared)(H:Hp):Prop where
 frames:A.frames=some outer
 mod:Mod K mg base
 bs:∀b o,base.get? b=some o->s.heap.get? b=some o/\H b=none
 bsz:base.objs.size<=s.heap.objs.size
 funs:s.heap.FunFrames base outer
 frf:∀b∈frs outer,H b=none
 hok:gH P w H s.heap
 bare:AllBare s.gens
def CE (outer:List Env)(P:Program)(w:World)(H:Hp)(s:Shared)(Q:VK)(u:Value)(s':Shared):Prop:=
 ∃v H',s'.os=s.os/\AllBare s'.gens/\Un (frs outer) [] H H' s.heap s'.heap/\gH P w H' s'.heap/\RelV v u/\Q v H'
def CR (CX:nQ)(outer:List Env)(P:Program)(w:World)(H:Hp)(s:Shared)(Q:VK)(E:XK)(r:Result)(s':Shared):Prop:=
 match r with
 |.ok (.ret u)=>CE outer P w H s Q u s'
 |.ok _=>False
 |.error e=>CX outer H s E e s'
structure FnOk (P:Program)(w:World)(K:Fgx)(mg:Mgx)(base:Heap)(CX:nQ)(k:Nat)(f:Addr)(fd:FuncData)(ps:List Str)(sp:Sp):Prop where
 len:∀vs H Q E,sp vs H Q E->vs.length=ps.length
 run:∀(A:Around) (outer:List Env) (s:Shared) (H:Hp) (args:Args) (us:List Value) (vs:List V) (Q:VK) (E:XK),Room k A->Env0 P w K mg base A outer s H->BindsTo s fd args (ps.zip us)->Vals vs us->sp vs H Q E->
  codeAny (model P w) A (.call (.ref f) args) (CR CX outer P w H s Q E) s
theorem FnOk.mono {P:Program}{w:World}{K:Fgx}{mg:Mgx}{base:Heap}{CX:nQ}{j k:Nat}{f:Addr}{fd:FuncData}{ps:List Str}{sp:Sp}(F:FnOk P w K mg base CX j f fd ps sp)(h:j<=k):
  FnOk P w K mg base CX k f fd ps sp:=⟨F.len,fun A outer s H args us vs Q E hr=>F.run A outer s H args us vs Q E (hr.mono h)⟩
def Env0.make {P:Program}{w:World}{K:Fgx}{mg:Mgx}{base:Heap}{A:Around}{outer:List Env}{s:Shared}{H:Hp}(e:Env0 P w K mg base A outer s H)(C:Addr)(us:List Value)(kw:List (Str×Value)):
  Env0 P w K mg base (A.under (.builtin "type.__call__" ⟨.ref C::us,kw⟩)) outer s H:=⟨by first |exact e.frames |(simpa [Around.under,Code.envs,Code.isFrame,pushEnvs] using e.frames),e.mod,e.bs,e.bsz,e.funs,e.frf,e.hok,e.bare⟩
section
variable {X:Cx}{pins:Pnx}{σ:St}{H:Hp}{s s':Shared}
def Inv.env0 (I:Inv X pins σ H s):Env0 X.prog X.w X.K X.mg X.base X.A X.stack s H:=
 ⟨I.ok.frames,I.ok.mod,I.bs,xau I.ok.bsz I.sz,I.stack,I.stkFree,I.hok,I.bare⟩
def Inv.after (I:Inv X pins σ H s)(h:CE X.stack X.prog X.w H s Q u s'):EP X pins σ Q u s':=by
 obtain⟨v,H',os,bare,un,hok,r,q⟩:=h;obtain⟨hh,g,d,t,os'⟩:=s';obtain rfl:os'=s.os:=os;exact⟨v,H',I.call (h':=hh) (g':=g) (d':=d) (t':=t) (ch:=[]) un hok bare (fun b z=>absurd z (by simp)),r,q⟩
end
noncomputable def zkk (sp:Sp) (dvs:List V) (E:XK) (t:TA):TE:=fun σ H Q=>t σ H fun vs H1=>sp (vs ++ dvs) H1 Q E
noncomputable def zjv (C:Addr) (sp:Sp) (dvs:List V) (E:XK) (t:TA):TE:=fun σ H Q=>t σ H fun vs H1=>∀x dx,H1 x=none->H1 dx=none->dx≠x->
 sp (.ref x::(vs ++ dvs)) (upd (upd H1 dx (.own x)) x (.ins C dx [])) (fun v H2=>v=.non/\Q (.ref x) H2) E
def Binds (K:Fgx)(fd:FuncData)(ps:List Str)(ds:List Value):Prop:=
 ∀(s:Shared) (us:List Value),K.In s.heap->(us ++ ds).length=ps.length->BindsTo s fd ⟨us,[]⟩ (ps.zip (us ++ ds))
def Binds.all {K:Fgx}{fd:FuncData}{ps:List Str}(h:∀us:List Value,us.length=ps.length->bindArgs fd ⟨us,[]⟩=pure (ps.zip us)):Binds K fd ps []:=fun s us _ hl=>by
 rw[xaH]at hl ⊢;exact .of_eq (h us hl)
def Passes (CX:nQ)(X:Cx)(E:XK):Prop:=∀(pins:Pnx) (σ:St) (H:Hp) (s:Shared) (e:Value) (s':Shared),Inv X pins σ H s->CX X.stack H s E e s'->X.xe e s'
section
variable {X:Cx}{CX:nQ}{k:Nat}{f C:Addr}{fd:FuncData}{ps:List Str}{sp:Sp}{dvs:List V}{ds:List Value}{E:XK}{x m:Str}{p pos apos:Pos}{e o:Expr}{es:List Expr}{ta:TE}{t:TA}
def zgu (F:FnOk X.prog X.w X.K X.mg X.base CX k f fd ps sp)(hr:Room k X.A)(hb:Binds X.K fd ps ds)(hd:Vals dvs ds)(hx:Passes CX X E)
    (I:Inv X pins σ H s) (r:Vals vs us) (h:sp (vs ++ dvs) H Q E):wpAny (model X.prog X.w) X.A (call (.ref f) us) (EP X pins σ Q) X.xe s:=by
  have r2:Vals (vs ++ dvs) (us ++ ds):=r.append hd;have hl:(us ++ ds).length=ps.length:=by rw[<-r2.length];exact F.len _ _ _ _ h
  refine xcy (xcs (F.run X.A X.stack s H ⟨us,[]⟩ (us ++ ds) (vs ++ dvs) Q E hr I.env0 (hb s us I.kIn hl) r2 h) fun r s' hq=>?_)
  cases r with
  |error e=>exact hx pins σ H s e s' I hq
  |ok fl=>
    cases fl with
    |ret u=>exact I.after hq
    |next=>exact False.elim hq
    |brk=>exact False.elim hq
    |cont=>exact False.elim hq
def zeq (F:FnOk X.prog X.w X.K X.mg X.base CX k f fd ps sp)(hr:Room k X.A)(hg:Gl X x)(hm:X.mg x=some (.ref f))(hk:PySem.W.keepIn X.K (.ref f)=true)(hb:Binds X.K fd ps ds)(hd:Vals dvs ds)(hx:Passes CX X E)
  (ha:PA X (e::es) t) (hdb:(x==("__debug__":Str))=false:=by decide) (he:starEach (e::es) X.env=(false,eval e X.env)::starEach es X.env:=by rfl) (hpl:(backTo pos (starEach es X.env)).any (·.1)=false:=by rfl):
  PE X (.Call (.Name x p) (e::es) [] pos) (zkk sp dvs E t):=by
 intro pins s σ H Q I h;refine xbH (tZ I hg hm ?_ hdb);refine xci (h₀:=X.base) I.ok.mod.kin hk (aQ (ha pos pins s σ H _ I h) fun us s1 ⟨vs,H1,I1,r,q⟩=>⟨I1.kIn,?_⟩) he hpl;exact zgu F hr hb hd hx I1 r q
structure Mk (K:Fgx)(C f:Addr):Prop where
 makes:PySem.W.makesIn K C=true
 init:PySem.W.findIn K (.ref C) "__init__"=some (some (.ref f))
 fn:PySem.W.isFn K (.ref f)=true
 kp:PySem.W.keepIn K (.ref C)=true
def zdI (M:Mk X.K C f)(F:FnOk X.prog X.w X.K X.mg X.base CX k f fd ps sp)(hr:Room (k + 1) X.A)(hb:Binds X.K fd ps ds)(hd:Vals dvs ds)
    (hx:Passes CX X E) (I:Inv X pins σ H s) (r:Vals vs us)
    (h:∀x dx,H x=none->H dx=none->dx≠x->sp (.ref x::(vs ++ dvs)) (upd (upd H dx (.own x)) x (.ins C dx [])) (fun v H2=>v=.non/\Q (.ref x) H2) E):
    wpAny (model X.prog X.w) X.A (call (.ref C) us) (EP X pins σ Q) X.xe s:=by
  have hq:=h (s.heap.objs.size + 1) s.heap.objs.size (I.hok.fresh (xcC _)) (I.hok.fresh (xad _)) (xaR (xbP _));have I2:=Inv.made (C:=C) I;have r2:Vals (V.ref (s.heap.objs.size + 1)::(vs ++ dvs)) (Value.ref (s.heap.objs.size + 1)::(us ++ ds)):=.cons rfl (r.append hd);have hl:(Value.ref (s.heap.objs.size + 1)::us ++ ds).length=ps.length:=by
    have e:=r2.length;rw[F.len _ _ _ _ hq]at e;exact e.symm
  refine xcy (zdG (f := f) I.kIn M.makes M.init (xaZ.mp M.fn) (xcs (F.run _ X.stack _ _ ⟨Value.ref (s.heap.objs.size + 1)::us,[]⟩ (Value.ref (s.heap.objs.size + 1)::(us ++ ds)) _ _ E (hr.make C us [])
    (I2.env0.make C us []) (hb _ (Value.ref (s.heap.objs.size + 1)::us) I2.kIn hl) r2 hq) fun r s' hq'=>?_))
  cases r with
  |error e=>exact hx pins σ _ _ e s' I2 hq'
  |ok fl=>
    cases fl with
    |ret u=>
      obtain⟨v,H',I3,rv,ev,q3⟩:=I2.after hq';subst ev;exact⟨rv,⟨V.ref (s.heap.objs.size + 1),H',I3,rfl,q3⟩⟩
    |next=>exact False.elim hq'
    |brk=>exact False.elim hq'
    |cont=>exact False.elim hq'
def zen (M:Mk X.K C f)(F:FnOk X.prog X.w X.K X.mg X.base CX k f fd ps sp)(hr:Room (k + 1) X.A)(hg:Gl X x)(hm:X.mg x=some (.ref C))(hb:Binds X.K fd ps ds)(hd:Vals dvs ds)(hx:Passes CX X E)
  (ha:PA X (e::es) t) (hdb:(x==("__debug__":Str))=false:=by decide) (he:starEach (e::es) X.env=(false,eval e X.env)::starEach es X.env:=by rfl) (hpl:(backTo pos (starEach es X.env)).any (·.1)=false:=by rfl):
  PE X (.Call (.Name x p) (e::es) [] pos) (zjv C sp dvs E t):=by
 intro pins s σ H Q I h;refine xbH (tZ I hg hm ?_ hdb);refine xci (h₀:=X.base) I.ok.mod.kin M.kp (aQ (ha pos pins s σ H _ I h) fun us s1 ⟨vs,H1,I1,r,q⟩=>⟨I1.kIn,?_⟩) he hpl;exact zdI M F hr hb hd hx I1 r q
end
section
variable {X:Cx}{CX:nQ}{k:Nat}{f C:Addr}{fd:FuncData}{ps ks:List Str}{sp:Sp}{E:XK}{x m:Str}{p pos apos kpos:Pos}{e o:Expr}{es:List Expr}{kws:List Keyword}{te ta:TE}{t tk:TA}{nm:Option Str}
structure KBinds (K:Fgx)(fd:FuncData)(ps ks:List Str)(g:List Value->List Value->List Value)(gV:List V->List V->List V):Prop where
 to:∀(s:Shared) (us ws:List Value),K.In s.heap->(g us ws).length=ps.length->BindsTo s fd ⟨us,ks.zip ws⟩ (ps.zip (g us ws))
 rel:∀{vs:List V} {us:List Value} {zs:List V} {ws:List Value},Vals vs us->Vals zs ws->Vals (gV vs zs) (g us ws)
variable {g:List Value->List Value->List Value}{gV:List V->List V->List V}
end
structure FnScope (N P:List Str)(sc:Scope):Prop where
 kind:sc.kind=.function
 co:sc.isCoroutine=false
 gen:sc.isGenerator=false
 nd:N.Nodup
 pre:N.take P.length=P
 par:∀x∈P,sc.names.lookup x=some .local\/sc.names.lookup x=some .cell
 nofree:∀y∈sc.names,y.2≠ .free
theorem Vf {kindOf:Str->Option NameKind}{x:Str}:∀{binds:List (Str×Value)} {m:Mgx},(∀v,(x,v)∉binds)->bindL kindOf binds m x=m x
  | [],_,_=>rfl
  |(n,v)::r,m,h=>by
    unfold bindL;rw[Vf fun w hw=>h w (xan _ hw)]
    split
    · have:x≠n:=by rintro rfl;exact h v xaD
      simp[this]
    · rfl
theorem Vd {kindOf:Str->Option NameKind}{x:Str}:∀{binds:List (Str×Value)} {m:Mgx},(∀v,(x,v)∉binds)->bindC kindOf binds m x=m x
  | [],_,_=>rfl
  |(n,v)::r,m,h=>by
    unfold bindC;rw[Vd fun w hw=>h w (xan _ hw)]
    split
    · rfl
    · have:x≠n:=by rintro rfl;exact h v xaD
      simp[this]
theorem Ve {kindOf:Str->Option NameKind}{x:Str}{v:Value}:∀{P:List Str} {vs:List Value} {i:Nat} {m:Mgx},P.Nodup->P[i]? =some x->vs[i]? =some v->kindOf x=some .local->
    bindL kindOf (P.zip vs) m x=some v
  | [],_,_,_,_,h,_,_=>by simp at h
  |_::_,[],_,_,_,_,h,_=>by simp at h
  |p::P,w::vs,0,m,nd,h1,h2,hk=>by
    simp at h1 h2;subst h1;subst h2
    show bindL kindOf ((p,w)::P.zip vs) m p=_;unfold bindL;rw[Vf fun v hv=>(xc6.mp nd).1 (xd8 hv).1,tG hk]
    simp
  |p::P,w::vs,i + 1,m,nd,h1,h2,hk=>by
    show bindL kindOf ((p,w)::P.zip vs) m x=_;unfold bindL;exact Ve (i:=i) (xc6.mp nd).2 (by simpa using h1) (by simpa using h2) hk
theorem Vc {kindOf:Str->Option NameKind}{x:Str}{v:Value}:∀{P:List Str} {vs:List Value} {i:Nat} {m:Mgx},P.Nodup->P[i]? =some x->vs[i]? =some v->kindOf x≠some .local->
    bindC kindOf (P.zip vs) m x=some v
  | [],_,_,_,_,h,_,_=>by simp at h
  |_::_,[],_,_,_,_,h,_=>by simp at h
  |p::P,w::vs,0,m,nd,h1,h2,hk=>by
    simp at h1 h2;subst h1;subst h2
    show bindC kindOf ((p,w)::P.zip vs) m p=_;unfold bindC;rw[Vd fun v hv=>(xc6.mp nd).1 (xd8 hv).1,xab hk]
    simp
  |p::P,w::vs,i + 1,m,nd,h1,h2,hk=>by
    show bindC kindOf ((p,w)::P.zip vs) m x=_;unfold bindC;exact Vc (i:=i) (xc6.mp nd).2 (by simpa using h1) (by simpa using h2) hk
def start (N:List Str)(vs:List V):St:=vs.map some ++ List.replicate (N.length - vs.length) none
noncomputable def kY (CX:nQ) (P:Program) (w:World) (K:Fgx) (mg:Mgx) (base:Heap) (N:List Str) (qual:Str) (scope:Scope) (f:Addr) (cd:Value) (A:Around) (outer:List Env) (s:Shared) (H:Hp) (E:XK):Cx where
 prog:=P
 w:=w
 K:=K
 mg:=mg
 base:=base
 A:=A.deeper (envOfC qual scope s.heap.objs.size f cd)
 N:=N
 s₀:=s
 H₀:=H
 env:=envOfC qual scope s.heap.objs.size f cd
 outer:=outer
 stack:=envOfC qual scope s.heap.objs.size f cd::outer
 ex:=[]
 calm:=true
 fn:=fun _=>true
 pn:=[]
 xe:=fun e s'=>wpAny (model P w) (A.deeper (envOfC qual scope s.heap.objs.size f cd)) (leaving (envOfC qual scope s.heap.objs.size f cd) e) (fun _ s''=>CX outer H s E e s'') (fun e' s''=>CX outer H s E e' s'') s'
def Vp {sc:Scope}{n:Nat}{x:Str}(h:sc.names.lookup x=some .cell):∃c,(cellsFrom n sc.names []).lookup x=some c:=by
 have q:=xd9 sc.names n [] (.inl h);exact xb4.mp q
def zcj {CX:nQ}{P:Program}{w:World}{K:Fgx}{mg:Mgx}{base:Heap}{N ps:List Str}{qual:Str}{scope:Scope}{f:Addr}{cd:Value}{A:Around}{outer:List Env}{s s1:Shared}{H:Hp}{E:XK}{us:List Value}{vs:List V}
  (S:FnScope N ps scope) (hd:A.handled=none) (e0:Env0 P w K mg base A outer s H) (hl:vs.length=ps.length) (r:Vals vs us)
  (x:InCallC s s.heap.objs.size (bindL (envOfC qual scope s.heap.objs.size f cd).kindOf (ps.zip us) fun _=>none) (cellsFrom (s.heap.objs.size + 1) scope.names []) (bindC (envOfC qual scope s.heap.objs.size f cd).kindOf (ps.zip us) fun _=>none) s1):
  Inv (kY CX P w K mg base N qual scope f cd A outer s H E) [] (start N vs) H s1:=by
 have hpl:ps.length<=N.length:=by have:=congrArg List.length S.pre;rw[xaU]at this;omega
 obtain ⟨h1, tk, rfl, hk⟩ := x.done;have noA : ∀ b : Addr, b ∉ (kY CX P w K mg base N qual scope f cd A outer s H E).ex := fun b z => absurd (show b ∈ ([] : List Addr) from z) (by simp);refine ⟨⟨e0.mod,S.kind,rfl,rfl,xad _,fun y z c h1 h2=>?_,fun y hy=>?_,fun y c _ h=>?_,fun _=>hd,Around.frames_deeper e0.frames,.inr ⟨rfl,rfl⟩,fun b z=>absurd z (noA b),e0.bs,e0.bsz,fun b _ _=>noA b,fun b z=>absurd z (noA b),e0.funs,e0.frf⟩,
  rfl,e0.bare,Un.kept hk,⟨_,x.toInCall.ns,fun i y v h1 h2 h3=>?_⟩,fun y c h=>⟨_,x.cell y c h⟩,e0.hok.fresh (xad _),fun y c h=>?_,fun p hp=>absurd (show p∈([]:Pnx) from hp) (by simp),e0.hok.kept hk,?_⟩
 ·exact name_of_addr x.apart (xb9 h1) (xb9 h2)
 ·have hy:scope.names.lookup y=some .cell\/scope.names.lookup y=some .free:=hy;rcases hy with hy |hy
  ·exact Vp hy
  ·exact absurd rfl (S.nofree _ (xb9 hy))
 ·exact xey (x.above y c (xb9 h))
 ·have hi:i<vs.length:=by
   unfold start at h2
   by_cases hi:i<vs.length
   ·exact hi
   ·rw[xa4 (by simpa using hi)]at h2;rw[xcc]at h2;split at h2<;>cases h2
  have ha:vs[i]? =some v:=by
   unfold start at h2;rw[xa0 (by simpa using hi),xax]at h2
   cases e:vs[i]? with
   |none=>rw[e]at h2;cases h2
   |some a=>rw[e]at h2;cases h2;rfl
  obtain⟨u,hu,rv⟩:=r.get ha;have hp:ps[i]? =some y:=by
   rw[<-S.pre,List.getElem?_take_of_lt (by omega)];exact h1
  have ndP:ps.Nodup:=by rw[<-S.pre];exact S.nd.sublist (List.take_sublist _ _)
  refine⟨u,rv,?_⟩;rcases S.par y (xaW hp) with k |k
  ·exact .inl ⟨k,Ve ndP hp hu k⟩
  ·obtain⟨c,e⟩:=Vp (n:=s.heap.objs.size + 1) k;refine .inr ⟨.inl k,c,e,?_⟩;have q:=x.cell y c e;rw[Vc ndP hp hu (by show scope.names.lookup y≠_;rw[k];decide)]at q;exact q
 ·exact e0.hok.fresh (xey (x.above y c (xb9 h)))
 ·unfold start;show _=N.length;rw[xam,xap,List.length_replicate];omega
def Ph {CX:nQ}{P:Program}{w:World}{K:Fgx}{mg:Mgx}{base:Heap}{k:Nat}{f:Addr}{name qual:Str}{params:Arguments}{body:List Stmt}{scope:Scope}{dV kV doc pm cdv ct oc:Value}{an od:Option Addr}
    {osl:Array (Option Value)} {N ps:List Str} {sp:Sp} (lk:K.lookup f=some ⟨oc,od,.func (PySem.W.fnOf name qual params body scope dV kV doc pm an cdv ct),osl⟩) (hcd:PySem.W.codeIn K cdv qual=true) (S:FnScope N ps scope)
    (len:∀vs H Q E,sp vs H Q E->vs.length=ps.length)
    (hbody:∀(A:Around) (outer:List Env) (s:Shared) (H:Hp) (vs:List V) (Q:VK) (E:XK),Room k (A.deeper (envOfC qual scope s.heap.objs.size f cdv))->sp vs H Q E->
      ∃t,lK (kY CX P w K mg base N qual scope f cdv A outer s H E) body t/\t {nx:=fun _ H'=>Q .non H',rt:=Q} (start N vs) H):
    FnOk P w K mg base CX (k + 1) f (PySem.W.fnOf name qual params body scope dV kV doc pm an cdv ct) ps sp:=by
  refine⟨len,fun A outer s H args us vs Q E hr e0 hb r hsp=>?_⟩;have hl:=len _ _ _ _ hsp;have KX:K.In s.heap:=e0.mod.kin.keeps fun b o e=>(e0.bs b o e).1;have lim:s.heap.NoLimit:=e0.mod.nolimit.keeps fun b o e=>(e0.bs b o e).1;have hkind:∀y∈ps.zip us,scope.names.lookup y.1=some .local\/(scope.names.lookup y.1=some .cell/\((cellsFrom (s.heap.objs.size + 1) scope.names []).lookup y.1).isSome=true):=fun⟨n,v⟩ hy=>by
    rcases S.par n (xd8 hy).1 with q |q
    · exact .inl q
    · exact .inr ⟨q,xd9 _ _ _ (.inl q)⟩
  refine codeAny_call_function hr.depth (KX _ _ lk) rfl S.co S.gen rfl (PySem.W.codeRec_of KX hcd) (hb _ _ _ _ ?_);refine wpAny_newFunctionEnv_cells S.kind hkind fun env he s1 x=>?_;subst he;refine⟨lim.keeps x.toInCall.keep,codeAny_func ?_⟩;obtain⟨t,ht,hq⟩:=hbody A outer s H vs Q E (hr.deeper _) hsp;have I:Inv (kY CX P w K mg base N qual scope f cdv A outer s H E) [] (start N vs) H s1:=zcj S hr.hd e0 hl r x;refine xa3 (ht [] s1 (start N vs) H _ I hq) (fun fl s' hs=>?_) fun e s' hs=>hs;have fin:∀{σ':St} {H':Hp} {v:V} {u:Value},Inv (kY CX P w K mg base N qual scope f cdv A outer s H E) [] σ' H' s'->RelV v u->Q v H'->CE outer P w H s Q u s':=
    fun {σ' H' v u} J rv q=>⟨v,H',J.os,J.bare,J.base,J.hok,rv,q⟩
  cases fl with
  |ret u=>
    obtain⟨v,σ',H',J,rv,q⟩:=hs;exact fin J rv q
  |next=>
    obtain⟨σ',H',J,q⟩:=hs;exact fin (v:=V.non) (u:=Value.none) J rfl q
  |brk=>
    obtain⟨_,_,_,q⟩:=hs;exact False.elim q
  |cont=>
    obtain⟨_,_,_,q⟩:=hs;exact False.elim q
section
variable {X:Cx}{x:Str}{p pos:Pos}{e:Expr}{es:List Expr}{t:TA}{id T:String}{r:List V->Hp->VK->Prop}
def Tg (r:List V->Hp->VK->Prop)(t:TA):TE:=fun σ H Q=>t σ H fun vs H1=>r vs H1 Q
def Km (hc:lW X (.builtin id) r)(hg:Gl X x)(hm:X.mg x=none)(hv:bootBuiltins x=some (.builtin id))(ha:PA X (e::es) t)(hn:x≠"__name__":=by decide)(hdb:(x==("__debug__":Str))=false:=by decide)
  (he:starEach (e::es) X.env=(false,eval e X.env)::starEach es X.env:=by rfl) (hpl:(backTo pos (starEach es X.env)).any (·.1)=false:=by rfl):PE X (.Call (.Name x p) (e::es) [] pos) (Tg r t):=by
 intro pins s σ H Q I h;refine xbH (Dd I hg hm hv ?_ hn hdb);exact xc7 (aQ (ha pos pins s σ H _ I h) fun us s1 ⟨vs,H1,I1,r1,q1⟩=>hc pins s1 σ H1 vs us Q I1 r1 q1) he hpl
def YH (hc:lW X (.type T) r)(hg:Gl X x)(hm:X.mg x=none)(hv:bootBuiltins x=some (.type T))(ha:PA X (e::es) t)(hn:x≠"__name__":=by decide)(hdb:(x==("__debug__":Str))=false:=by decide)
  (he:starEach (e::es) X.env=(false,eval e X.env)::starEach es X.env:=by rfl) (hpl:(backTo pos (starEach es X.env)).any (·.1)=false:=by rfl):PE X (.Call (.Name x p) (e::es) [] pos) (Tg r t):=by
 intro pins s σ H Q I h;refine xbH (Dd I hg hm hv ?_ hn hdb);exact xbS (aQ (ha pos pins s σ H _ I h) fun us s1 ⟨vs,H1,I1,r1,q1⟩=>hc pins s1 σ H1 vs us Q I1 r1 q1) he hpl
end
end L2
namespace HT
open PySem PyProof.Rows
section
open PySem.SeqAt
open PySem.AutoSeq1 (wpAny_loadPart')
open PySem.MeetsSeq PySem.MeetsSeq2 PySem.MeetsSeq3
end
section
variable {prog:Program}{w:World}{A:Around}{E:Value->Shared->Prop}{s:Shared}
def zey (ht:IsTup s.heap t vs.toArray)(hb:IsTup s.heap b ws.toArray)(hv:vs≠ [])
  (h1:ws=[]->Q (.ref t) s) (h2:ws≠ []->Q (.ref s.heap.objs.size) {s with heap:=s.heap.push {cls:=.type "tuple",data:=.seq (vs ++ ws).toArray}})
  (hsz:vs.length + ws.length<=sizeLine):wpAny (model prog w) A (binaryOp .Add (.ref t) (.ref b)) Q E s:=by
 obtain⟨⟨cls,dd,data,sl⟩,ho,hc,n,hd⟩:=id ht;obtain⟨⟨cls2,dd2,data2,sl2⟩,ho2,hc2,n2,hd2⟩:=id hb;simp only at hc hd hc2 hd2;subst hc hd hc2 hd2;have e:vs.toArray ++ ws.toArray=(vs ++ ws).toArray:=by simp
 by_cases hw:ws=[]
 ·exact concat_meets ⟨_,ho,rfl⟩ ⟨_,ho2,rfl⟩ noFill_tuple_add seq_tuple_add xea xd4 (xdR _ _)
   (tuple_addW1 t b vs.toArray ws.toArray n n2 dd dd2 sl sl2 (by simpa using hv) (by simp[hw])) ⟨ho,ho2,h1 hw⟩
 ·refine concat_meets ⟨_,ho,rfl⟩ ⟨_,ho2,rfl⟩ noFill_tuple_add seq_tuple_add xea xd4 (xdR _ _)
   (tuple_addW2 t b vs.toArray ws.toArray n n2 dd dd2 sl sl2 (by simpa using hv) (by simpa using hw) (by rw[xai,xai];exact hsz)) ⟨ho,ho2,?_⟩
  rw[e];exact h2 hw
noncomputable def fj (n d:Nat):Option Int->Nat
 |none=>d
 |some v=>if v<0 then(v + (n:Int)).toNat else min v.toNat n
theorem ZJ (n d:Nat):fj n d none=d:=rfl
def Kv (n d k:Nat):fj n d (some (k:Int))=min k n:=by
 show(if (k:Int)<0 then((k:Int) + (n:Int)).toNat else min (k:Int).toNat n)=min k n
 rw[xab (by omega),xbw]
def zhq (n d:Nat)(hd:d<=n)(o:Option Int):fj n d o<=n:=by
  cases o with
  |none=>exact hd
  |some v=>
    show(if v<0 then(v + (n:Int)).toNat else min v.toNat n)<=n
    by_cases hv:v<0
    · rw[tG hv];omega
    · rw[xab hv];exact xdS _ _
def Vt (v:Int)(n d:Nat):(if v<0 then max (v + (n:Int)) 0 else min v (n:Int))=((fj n d (some v):Nat):Int):=by
 show(if v<0 then max (v + (n:Int)) 0 else min v (n:Int))=(((if v<0 then(v + (n:Int)).toNat else min v.toNat n):Nat):Int)
 by_cases hv:v<0
 ·simp only[tG hv];omega
 ·simp only[xab hv];omega
def zbH (lo hi:Option Int)(n:Nat):Builtin.Slice.sliceAdjust lo hi 1 (n:Int)=(((fj n 0 lo:Nat):Int),((fj n n hi:Nat):Int)):=by
 have h1:¬ ((1:Int)<0):=by omega
 unfold Builtin.Slice.sliceAdjust;simp only[h1,xek];refine Prod.ext ?_ ?_
 ·cases lo with
  |none=>rfl
  |some v=>exact Vt v n 0
 ·cases hi with
  |none=>rfl
  |some v=>exact Vt v n n
def zbG (i j:Nat):Builtin.Slice.slicePlaces (i:Int) (j:Int) 1=j - i:=by
 unfold Builtin.Slice.slicePlaces;have h1:(1:Int) > 0:=by omega
 simp only[h1,xbb,Int.ediv_one]
 split<;>omega
def zaU (p:IsPart v o)(h:Q o s):wpAny (model prog w) A (Builtin.Slice.slicePartIndex v) Q E s:=by
 cases p with
 |none=>exact slicePart_none h
 |int i t=>exact slicePart_int h
def zaz {sl:Addr}{vl vu:Value}{lo hi:Option Int}{n:Nat}{Q:Int×Int×Nat->Shared->Prop}(hs:s.heap.IsSliceOf sl vl vu .none)(pl:IsPart vl lo)(pu:IsPart vu hi)
  (h:Q (((fj n 0 lo:Nat):Int),1,fj n n hi - fj n 0 lo) s):wpAny (model prog w) A (Builtin.Slice.sliceApplied (.ref sl) (pure (n:Int))) Q E s:=by
 obtain⟨os,hos,hcs,hds⟩:=id hs;unfold Builtin.Slice.sliceApplied Builtin.Slice.sliceFields;refine xaa (xaa (xbu hos hds (x:=vl) rfl (xaa (xbu hos hds (x:=vu) rfl (xaa (xbu hos hds (x:=.none) rfl (xaj ?_)))))));refine xaa (slicePart_none ?_);show wpAny _ _ (if ((1:Int)==0)=true then _ else _) _ _ s
 rw[xab (by decide)];refine xaa (zaU pl (xaa (zaU pu (xaa (xaj ?_)))));show wpAny _ _ (match Builtin.Slice.sliceAdjust lo hi 1 (n:Int) with |(lo,hi)=>pure (lo,(1:Int),Builtin.Slice.slicePlaces lo hi 1)) _ _ s
 rw[zbH lo hi n];show wpAny _ _ (pure (((fj n 0 lo:Nat):Int),(1:Int),Builtin.Slice.slicePlaces ((fj n 0 lo:Nat):Int) ((fj n n hi:Nat):Int) 1)) _ _ s;rw[zbG];exact xaj h
def zdA (xs:Array Value)(i k:Nat):((List.range k).filterMap fun(m:Nat)=>xs[((i:Int) + (m:Int) * 1).toNat]?).toArray=((xs.toList.drop i).take k).toArray:=by
 have e:(fun(m:Nat)=>xs[((i:Int) + (m:Int) * 1).toNat]?)=fun m=>xs[i + m]? :=by
  funext m;have:((i:Int) + (m:Int) * 1).toNat=i + m:=by omega
  rw[this]
 rw[e];have:=pick_run xs i k;rw[xeB]at this;have e2:((fun x=>xs[x]?) ∘ fun x=>i + x)=fun m=>xs[i + m]? :=rfl;rw[e2]at this;rw[this]
def zap {t sl:Addr}{items:Array Value}{vl vu:Value}{lo hi:Option Int}{Q:Value->Shared->Prop}(ht:IsTup s.heap t items)(hs:s.heap.IsSliceOf sl vl vu .none)(pl:IsPart vl lo)(pu:IsPart vu hi)
  (hw:¬ (fj items.size 0 lo=0/\fj items.size items.size hi=items.size))
  (h:Q (.ref s.heap.objs.size) {s with heap:=s.heap.push {cls:=.type "tuple",data:=.seq ((items.toList.drop (fj items.size 0 lo)).take (fj items.size items.size hi - fj items.size 0 lo)).toArray}})
  (hsz:items.size<=sizeLine):wpAny (model prog w) A (getItem (.ref t) (.ref sl)) Q E s:=by
 have htake:sizeOk (.seq ((items.toList.drop (fj items.size 0 lo)).take (fj items.size items.size hi - fj items.size 0 lo)).toArray):=by
  show((items.toList.drop (fj items.size 0 lo)).take (fj items.size items.size hi - fj items.size 0 lo)).toArray.size<=sizeLine;rw[xai,xaU,xbe,xb8];omega
 have hj:fj items.size items.size hi<=items.size:=zhq _ _ (xad _) hi;obtain⟨os,hos,hcs,hds⟩:=id hs;have hTs:s.TypeIs (.ref sl) "slice":=⟨os,hos,hcs⟩;unfold getItem
 try with_reducible refine xbX ?_
 first |refine xaa (xaj ?_) |skip
 refine xaa (wpAny_sequenceKey ht.typeIs (by decide) ?_);refine xaa (xcP (name:=Str.ofString "__getitem__") ht.typeIs xcb
  (xcW xcb ht.typeIs entry_tuple_getitem ?_ (args_tuple_getitem _ _)))
 show wpAny _ _ (Builtin.Tuple.tupleItemsOf (.ref t) >>=_) _ _ s;refine xaa (tupleItemsOf_ ht ?_);refine xaa (wpAny_typeOf hTs ?_);rw[tG (by decide)];refine xaa (zaz hs pl pu ?_);have hno:¬ ((((fj items.size 0 lo:Nat):Int)==0 && (1:Int)==1 && (fj items.size items.size hi - fj items.size 0 lo)==items.size)=true):=by
  intro q;rw[xac,xac]at q;have q1:((fj items.size 0 lo:Nat):Int)=0:=eq_of_beq q.1.1;have q2:fj items.size items.size hi - fj items.size 0 lo=items.size:=eq_of_beq q.2;exact hw ⟨by omega,by omega⟩
 show wpAny _ _ (if (((fj items.size 0 lo:Nat):Int)==0 && (1:Int)==1 && (fj items.size items.size hi - fj items.size 0 lo)==items.size)=true then _ else _) _ _ s
 rw[xab hno,zdA]
 first
  |exact xaa (m:=Builtin.Tuple.tupleExact _) (xbl (xaj ⟨_,rfl,xaj h⟩) htake)
  |exact xaa (m:=Builtin.Tuple.tupleExact _) (xbl (xaa (xaj (xaj ⟨_,rfl,xaj h⟩))) htake)
  |exact xaa (xaa (m:=Builtin.Tuple.tupleExact _) (xbl (xaj (xaj ⟨_,rfl,xaj h⟩)) htake))
  |exact xaa (xaa (m:=Builtin.Tuple.tupleExact _) (xbl (xaj ⟨_,rfl,xaj h⟩) htake))
end
end HT
namespace L2
open PySem PySem.Spec PyProof.Rows
abbrev TO:=St->Hp->(Option Int->Hp->Prop)->Prop
def PO (X:Cx)(e:Option Expr)(t:TO):Prop:=
 ∀(pins:Pnx) (s:Shared) (σ:St) (H:Hp) (Q:Option Int->Hp->Prop),Inv X pins σ H s->t σ H Q->
  wpAny (model X.prog X.w) X.A (evalPart e X.env) (fun u s'=>∃o H',Inv X pins σ H' s'/\IsPart u o/\Q o H') X.xe s
def zfx:TO:=fun _ H Q=>Q none H
def zjf (t:TE):TO:=fun σ H Q=>t σ H fun x H1=>∃i,x=.int i/\Q (some i) H1
section
variable {X:Cx}{e:Expr}{te:TE}{lo hi:Option Expr}{tl th:TO}{pos p2:Pos}
def zfC:PO X none zfx:=by
 intro pins s σ H Q I h;rw[evalPart_none];exact xaj ⟨none,H,I,.none,h⟩
def zeX (h:PE X e te):PO X (some e) (zjf te):=by
 intro pins s σ H Q I hw;rw[evalPart_some];refine aQ (h pins s σ H _ I hw) fun u s1 ⟨x,H1,I1,r1,q1⟩=>?_;obtain⟨i,rfl,q⟩:=q1;obtain⟨t,rfl⟩:=r1;exact⟨some i,H1,I1,.int i t,q⟩
def zH (X:Cx)(r:V->Option Int->Option Int->Hp->VK->Prop):Prop:=
 ∀(pins:Pnx) (s:Shared) (σ:St) (H:Hp) (x:V) (v vl vu:Value) (lo hi:Option Int) (sl:Addr) (Q:VK),Inv X pins σ H s->RelV x v->s.heap.IsSliceOf sl vl vu .none->IsPart vl lo->IsPart vu hi->r x lo hi H Q->
  ∃T id,typeLookup (.type T) "__getitem__"=pure (some (.builtin id))/\s.TypeIs v T/\wpAny (model X.prog X.w) X.A (getItem v (.ref sl)) (EP X pins σ Q) X.xe s
def zH.or (h:zH X r)(h':zH X r'):zH X (fun x lo hi H Q=>r x lo hi H Q\/r' x lo hi H Q):=by
 intro pins s σ H x v vl vu lo hi sl Q I rx hs pl pu q;rcases q with q |q
 ·exact h pins s σ H x v vl vu lo hi sl Q I rx hs pl pu q
 ·exact h' pins s σ H x v vl vu lo hi sl Q I rx hs pl pu q
noncomputable def tSl (r:V->Option Int->Option Int->Hp->VK->Prop) (te:TE) (tl th:TO):TE:=fun σ H Q=>te σ H fun x H1=>tl σ H1 fun l H2=>th σ H2 fun u H3=>r x l u H3 Q
def YK (hr:zH X r)(he:PE X e te)(hl:PO X lo tl)(hu:PO X hi th):PE X (.Subscript e (.Slice lo hi none p2) pos) (tSl r te tl th):=by
 intro pins s σ H Q I h;refine Subscript_ (aQ (he pins s σ H _ I h) fun v s1 ⟨x,H1,I1,r1,q1⟩=>?_);refine wpAny_Slice (aQ (hl pins s1 σ H1 _ I1 q1) fun vl s2 ⟨l,H2,I2,pl,q2⟩=>aQ (hu pins s2 σ H2 _ I2 q2) fun vu s3 ⟨u,H3,I3,pu,q3⟩=>?_);rw[evalPart_none];refine xaj ?_;have I4:Inv X pins σ H3 {s3 with heap:=s3.heap.push {cls:=.type "slice",data:=.fields #[vl,vu,.none]}}:=I3.kept (t':=s3.toks) fun b ob q=>xaf _ q;obtain⟨T,id,hT,ht,hg⟩:=hr pins {s3 with heap:=s3.heap.push {cls:=.type "slice",data:=.fields #[vl,vu,.none]}} σ H3 x v vl vu l u s3.heap.objs.size Q I4 r1 (Heap.IsSliceOf.new ..) pl pu q3;show wpAny (model X.prog X.w) X.A (subscriptTail e (.Slice lo hi none p2) v (.ref s3.heap.objs.size)) (EP X pins σ Q) X.xe {s3 with heap:=s3.heap.push {cls:=.type "slice",data:=.fields #[vl,vu,.none]}};exact tail_any (ops:=[.ref s3.heap.objs.size,v]) ht hT hg (by with_unfolding_all rfl)
noncomputable def pC (xs:List V) (lo hi:Option Int):List V:=(xs.drop (HT.fj xs.length 0 lo)).take (HT.fj xs.length xs.length hi - HT.fj xs.length 0 lo)
def Vz (xs:List V)(lo hi:Option Int):(pC xs lo hi).length<=xs.length:=by
 unfold pC;rw[xaU,xbe];omega
def RJ (K:Fgx):V->Option Int->Option Int->Hp->VK->Prop:=fun x lo hi H Q=>∃a xs,x=.ref a/\g_ K H a xs/\
 ¬ (HT.fj xs.length 0 lo=0/\HT.fj xs.length xs.length hi=xs.length)/\∀p,H p=none->Q (.ref p) (upd H p (.tup (pC xs lo hi)))
def zib:zH X (RJ X.K):=by
 intro pins s σ H x v vl vu lo hi sl Q I rx hs pl pu h;obtain⟨a,xs,rfl,hx,hw,q⟩:=h;cases rx;obtain⟨its,r,ht,hz⟩:=I.tuple hx;have hlen:its.toArray.size=xs.length:=by rw[xai];exact r.length.symm
 refine⟨"tuple",_,xcb.lookup,ht.typeIs,?_⟩;refine HT.zap ht hs pl pu (by rw[hlen];exact hw) ?_ (by rw[hlen];exact hz);rw[hlen];refine⟨.ref s.heap.objs.size,_,I.laid (t':=s.toks) (o:=.tup (pC xs lo hi)) (fun b ob q=>xaf _ q) (xad _) ?_,rfl,q _ (I.hok.fresh (xad _))⟩;exact⟨xau (Vz xs lo hi) hz,_,(r.drop (HT.fj xs.length 0 lo)).take (HT.fj xs.length xs.length hi - HT.fj xs.length 0 lo),IsTup.new _ _⟩
noncomputable def Y8 (K:Fgx):R2:=fun x y H Q=>∃a b xs ys,x=.ref a/\y=.ref b/\g_ K H a xs/\g_ K H b ys/\xs≠ []/\xs.length + ys.length<=sizeLine/\
 (ys=[]->Q (.ref a) H)/\(ys≠ []->∀p,H p=none->Q (.ref p) (upd H p (.tup (xs ++ ys))))
def Vals.nil_iff (r:Vals xs us):us=[] ↔ xs=[]:=by
 cases r with
 |nil=>simp
 |cons _ _=>simp
def zfm:fU X (binaryOp .Add) (Y8 X.K):=by
 intro pins s σ H x y v u Q I rx ry h;obtain⟨a,b,xs,ys,rfl,rfl,ha,hb,hx,hz,q1,q2⟩:=h;cases rx;cases ry;obtain⟨its,r1,p1,_⟩:=I.tuple ha;obtain⟨its2,r2,p2,_⟩:=I.tuple hb;refine HT.zey p1 p2 (fun z=>hx (r1.nil_iff.mp z)) (fun z=>⟨.ref a,H,I,rfl,q1 (r2.nil_iff.mp z)⟩) (fun z=>?_) (by rw[<-r1.length, <-r2.length];exact hz);refine⟨.ref s.heap.objs.size,_,I.laid (t':=s.toks) (o:=.tup (xs ++ ys)) (fun b ob q=>xaf _ q) (xad _) ?_,rfl,q2 (fun w=>z (r2.nil_iff.mpr w)) _ (I.hok.fresh (xad _))⟩;exact⟨by rw[xam];exact hz,_,r1.append r2,IsTup.new _ _⟩
end
noncomputable def sS (n:Nat) (i:Int):Option Nat:=if 0<=i then(if i<n then some i.toNat else none) else if -(n:Int)<=i then some (i + n).toNat else none
def eG {α:Type}(xs:List α)(i:Int):Option α:=(sS xs.length i).bind fun j=>xs[j]?
def WX (h:sS n i=some j):seqIndex? i n=some j/\j<n/\ -(n:Int)<=i/\i<n:=by
 unfold sS at h
 by_cases h0:0<=i
 ·rw[tG h0]at h
  by_cases h1:i<n
  ·rw[tG h1]at h;have e:i.toNat=j:=xaw h;exact⟨by rw[xeb h0 h1,e],by omega,by omega,h1⟩
  ·rw[xab h1]at h;cases h
 ·rw[xab h0]at h
  by_cases h1: -(n:Int)<=i
  ·rw[tG h1]at h;have e:(i + n).toNat=j:=xaw h;exact⟨by rw[seqIndex_neg (by omega) h1,e],by omega,h1,by omega⟩
  ·rw[xab h1]at h;cases h
def Nk (h:eG xs i=some v):∃j,seqIndex? i xs.length=some j/\xs[j]? =some v/\j<xs.length/\ -(xs.length:Int)<=i/\i<xs.length:=by
  unfold eG at h
  cases e:sS xs.length i with
  |none=>rw[e]at h;cases h
  |some j=>
    rw[e]at h;obtain⟨h1,h2,h3,h4⟩:=WX e;exact⟨j,h1,h,h2,h3,h4⟩
def gR {α:Type}{xs:List α}{j:Nat}{v:α}(h:xs[j]? =some v):eG xs (j:Int)=some v:=by
 have hj:j<xs.length:=(xag.mp h).1;have e:sS xs.length (j:Int)=some j:=by
  unfold sS;rw[tG (by omega),tG (by omega)];simp
 unfold eG;rw[e];exact h
def M8 (b:Expr):Prop:=∀o i,subscripted b false o i=operate [o,i] (getItem o i)
def xH (X:Cx)(r:R2):Prop:=
 ∀(value slice:Expr) (pins:Pnx) (s:Shared) (σ:St) (H:Hp) (x y:V) (v u:Value) (Q:VK),Inv X pins σ H s->RelV x v->RelV y u->r x y H Q->
  subscripted slice false v u=operate [v,u] (getItem v u)->wpAny (model X.prog X.w) X.A (subscriptTail value slice v u) (EP X pins σ Q) X.xe s
def Ae (X:Cx)(id:String)(r:V->List V->Hp->VK->Prop):Prop:=
 ∀(pins:Pnx) (s:Shared) (σ:St) (H:Hp) (x:V) (xs:List V) (v:Value) (us:List Value) (Q:VK),Inv X pins σ H s->RelV x v->Vals xs us->r x xs H Q->
  wpAny (model X.prog X.w) X.A (call (.builtin id) (v::us)) (EP X pins σ Q) X.xe s
section
variable {X:Cx}{a b:Expr}{ta tb:TE}{pos:Pos}
def xH.or (h:xH X r)(h':xH X r'):xH X (fun x y H Q=>r x y H Q\/r' x y H Q):=by
 intro value slice pins s σ H x y v u Q I rx ry q hs;rcases q with q |q
 ·exact h value slice pins s σ H x y v u Q I rx ry q hs
 ·exact h' value slice pins s σ H x y v u Q I rx ry q hs
def zkY (hr:xH X r)(ha:PE X a ta)(hb:PE X b tb)(hs:M8 b):PE X (.Subscript a b pos) (Dz r ta tb):=by
 intro pins s σ H Q I h;exact Subscript_ (Ai ha hb I h fun v u s2 x y H2 I2 rx ry q=>hr a b pins s2 σ H2 x y v u Q I2 rx ry q (hs _ _))
noncomputable def Bu (K:Fgx):R2:=fun x y H Q=>∃p xs i v,x=.ref p/\y=.int i/\fW K H p xs/\eG xs i=some v/\Q v H
noncomputable def Bw (K:Fgx):R2:=fun x y H Q=>∃p xs i v,x=.ref p/\y=.int i/\g_ K H p xs/\eG xs i=some v/\Q v H
noncomputable def Bv:R2:=fun x y H Q=>∃z i c,x=.str z/\y=.int i/\z.length<=sizeLine/\eG z.cps.toList i=some c/\Q (.str ⟨#[c]⟩) H
def zfL:xH X (Bu X.K):=by
 intro value slice pins s σ H x y v u Q I rx ry h hs;obtain⟨p,xs,i,z,rfl,rfl,hq,he,q⟩:=h;cases rx;obtain⟨t,rfl⟩:=ry;obtain⟨its,r,pl,hz⟩:=I.list hq;obtain⟨j,h1,h2,h3,h4,h5⟩:=Nk he;obtain⟨w,ew,rw'⟩:=r.get h2;have hl:=r.length;have hn:=yP;have fin:EP X pins σ Q w s:=⟨z,H,I,rw',q⟩
 by_cases h0:0<=i
 ·have hj:i.toNat=j:=by
   rw[xeb h0 h5]at h1;exact xaw h1
  exact item_listR pl.isList h0 (by omega) (by rw[hj];simpa using ew) fin hs
 ·have hj:(i + (its.toArray.size:Int)).toNat=j:=by
   rw[seqIndex_neg (by omega) h4]at h1;rw[xai, <-hl];exact xaw h1
  exact subscriptTail_builtinR (x:=w) pl.isList.typeIs slot_list_getitem.lookup
   (wpAny_getItem_list_neg (Q:=fun r s'=>r=w/\EP X pins σ Q r s') pl.isList (by omega) (by rw[xai]<;>omega) (by omega) (by rw[hj];simpa using ew) ⟨rfl,fin⟩) hs
def zh0:xH X (Bw X.K):=by
 intro value slice pins s σ H x y v u Q I rx ry h hs;obtain⟨p,xs,i,z,rfl,rfl,hq,he,q⟩:=h;cases rx;obtain⟨t,rfl⟩:=ry;obtain⟨its,r,pl,hz⟩:=I.tuple hq;obtain⟨j,h1,h2,h3,h4,h5⟩:=Nk he;obtain⟨w,ew,rw'⟩:=r.get h2;have hl:=r.length;have hn:=yP;have fin:EP X pins σ Q w s:=⟨z,H,I,rw',q⟩;exact subscriptTail_builtinR (x:=w) pl.typeIs xdv.lookup
  (getItem_tuple (j:=j) (Q:=fun r s'=>r=w/\EP X pins σ Q r s') pl (by omega) (by omega) (by rw[xai, <-hl];exact h1) (by simpa using ew) ⟨rfl,fin⟩) hs
def zgT:xH X Bv:=by
 intro value slice pins s σ H x y v u Q I rx ry h hs;obtain⟨z,i,c,rfl,rfl,hz,he,q⟩:=h;obtain⟨t,rfl⟩:=rx;obtain⟨t',rfl⟩:=ry;obtain⟨j,h1,h2,h3,h4,h5⟩:=Nk he;have hl:z.cps.toList.length=z.length:=by simp[Str.length]
 rw [hl] at h1 h4 h5;have hn := yP;exact tail_any (xcN s z t) slot_str_getitem.lookup (getItem_str (c := c) (by
  have e1:decide (i< -(2 ^ 63:Int))=false:=xat (by omega);have e2:decide (i >=2 ^ 63)=false:=xat (by omega);rw[e1,e2,xdC]) (by rw[h1];simpa using h2) ⟨.str ⟨#[c]⟩,H,I.tok _,⟨_,rfl⟩,q⟩) hs
def Rz (K:Fgx):R2:=fun x y H Q=>Bu K x y H Q\/Bw K x y H Q\/Bv x y H Q
def zbK (its:List Value)(n j:Nat)(u:Value):Obj.mapSeq (·.setIfInBounds j u) {cls:=.type "list",data:=.seq its.toArray n}={cls:=.type "list",data:=.seq (its.set j u).toArray n}:=by
 simp[Obj.mapSeq]
theorem Inv.lst (I:Inv X pins σ H s)(h:H p=some (.lst xs)):
  ∃(its:List Value) (n:Nat),Vals xs its/\s.heap.get? p=some {cls:=.type "list",data:=.seq its.toArray n}/\xs.length<=sizeLine:=by
 obtain⟨z,its,n,r,e⟩:=I.hok p _ h;exact⟨its,n,r,e,z⟩
def Inv.lstUpd {pins:Pnx}{σ:St}{H:Hp}{s:Shared}{p:Addr}{xs ys:List V}{its its':List Value}{n n':Nat}{f:Obj->Obj}(I:Inv X pins σ H s)(h:H p=some (.lst xs))
  (ho:s.heap.get? p=some {cls:=.type "list",data:=.seq its.toArray n}) (hf:f {cls:=.type "list",data:=.seq its.toArray n}={cls:=.type "list",data:=.seq its'.toArray n'}) (r:Vals ys its') (hz:ys.length<=sizeLine) (t:Nat):
  Inv X pins σ (upd H p (.lst ys)) {s with heap:=s.heap.update p f,toks:=t}:=by
 have e:(s.heap.update p f).get? p=some {cls:=.type "list",data:=.seq its'.toArray n'}:=by
  rw[xbn f ho (by rw[hf]<;>rfl),hf]
 refine I.write (x:=p) (e:=p) (by rw[h];trivial) (.inl rfl) (fun b u hb q=>(xa2 _ _ (xbA hb)).trans q) ⟨_,e⟩ ?_;exact⟨hz,its',n',r,e⟩
def zjP:V->V->V->Hp->(Hp->Prop)->Prop:=fun o i v H Q=>∃p xs k j,o=.ref p/\i=.int k/\H p=some (.lst xs)/\sS xs.length k=some j/\Q (upd H p (.lst (xs.set j v)))
def set_list:Ef X zjP:=by
 intro pins s σ H o i v ov iv u Q I ro ri rv h;obtain⟨p,xs,k,j,rfl,rfl,hp,hj,q⟩:=h;cases ro;obtain⟨t,rfl⟩:=ri;obtain⟨its,n,r,ho,hz⟩:=I.lst hp;obtain⟨h1,h2,h3,h4⟩:=WX hj;have hl:=r.length;have hn:=yP;have I':Inv X pins σ (upd H p (.lst (xs.set j v))) {s with heap:=s.heap.update p (Obj.mapSeq (·.setIfInBounds j u))}:=
  I.lstUpd hp ho (zbK its n j u) (r.set rv j) (by rw[xaL];exact hz) s.toks
 by_cases h0:0<=k
 ·have hk:k.toNat=j:=by
   rw[xeb h0 h4]at h1;exact xaw h1
  exact PySem.W.ki_setAt ho h0 (by omega) (by rw[xai, <-hl];exact h4) (by rw[hk];exact⟨_,I',q⟩)
 ·have hk:(k + (its.toArray.size:Int)).toNat=j:=by
   rw[seqIndex_neg (by omega) h3]at h1;rw[xai, <-hl];exact xaw h1
  exact PySem.W.ki_setBack ho (by omega) (by rw[xai, <-hl];exact h3) (by omega) (by rw[hk];exact⟨_,I',q⟩)
def za4 (lo hi:Option Int)(n:Nat):(sliceBounds lo hi none n).1=((HT.fj n 0 lo:Nat):Int)/\(sliceBounds lo hi none n).2.1=((HT.fj n n hi:Nat):Int)/\(sliceBounds lo hi none n).2.2=1:=by
  refine⟨?_,?_,rfl⟩
  · cases lo with
    |none=>simp[sliceBounds,HT.fj]
    |some i=>
      simp only[sliceBounds,HT.fj,xdT,show(1:Int) > 0 by decide,xbb]
      by_cases h:i<0
      · simp only[h,xbb]<;>omega
      · simp only[h,xek]<;>omega
  · cases hi with
    |none=>simp[sliceBounds,HT.fj]
    |some i=>
      simp only[sliceBounds,HT.fj,xdT,show(1:Int) > 0 by decide,xbb]
      by_cases h:i<0
      · simp only[h,xbb]<;>omega
      · simp only[h,xek]<;>omega
theorem zaZ (its:List Value)(lo hi:Option Int):slicePick its.toArray lo hi none=((its.drop (HT.fj its.length 0 lo)).take (HT.fj its.length its.length hi - HT.fj its.length 0 lo)).toArray:=by
 obtain⟨h1,h2,h3⟩:=za4 lo hi its.toArray.size;unfold slicePick;rw[h1,h2,h3];simp only[sliceRange_one,pick_run,xai]<;>rfl
def RD (K:Fgx):V->Option Int->Option Int->Hp->VK->Prop:=fun x lo hi H Q=>∃a xs,x=.ref a/\fW K H a xs/\∀p,H p=none->Q (.ref p) (upd H p (.lst (pC xs lo hi)))
def zeF:zH X (RD X.K):=by
 intro pins s σ H x v vl vu lo hi sl Q I rx hs pl pu h;obtain⟨a,xs,rfl,hx,q⟩:=h;cases rx;obtain⟨its,r,ht,hz⟩:=I.list hx;have hlen:=r.length;refine⟨"list",_,slot_list_getitem.lookup,ht.isList.typeIs,?_⟩;refine wpAny_getItem_list_slice ht.isList hs pl pu .none (by simp) ?_ (by rw[xai]<;>omega)
 rw[zaZ, <-hlen];refine⟨.ref s.heap.objs.size,_,I.laid (t':=s.toks) (o:=.lst (pC xs lo hi)) (fun b ob q=>xaf _ q) (xad _) ?_,rfl,q _ (I.hok.fresh (xad _))⟩;exact⟨xau (Vz xs lo hi) hz,_,0,(r.drop (HT.fj xs.length 0 lo)).take (HT.fj xs.length xs.length hi - HT.fj xs.length 0 lo),xaJ _ rfl⟩
noncomputable def xQ:V->Bool
 |.non=>true
 |.bl _=>true
 |.int _=>true
 |.str _=>true
 |_=>false
noncomputable def yG:V->V->Bool
 |.non,.non=>true
 |.bl a,.bl b=>a==b
 |.bl a,.int b=>(if a then 1 else 0)==b
 |.int a,.bl b=>a==(if b then 1 else 0)
 |.int a,.int b=>a==b
 |.str a,.str b=>a==b
 |_,_=>false
def ziC (ry:RelV y u)(rx:RelV x v)(fy:xQ y=true)(fx:xQ x=true):SeqAt.EqAt A s u v (yG y x):=by
  cases y with
  |non=>
    cases ry
    cases x with
    |non=>cases rx;exact xc8 _
    |bl b=>cases rx;exact SeqAt.EqAt.none_bool b
    |int b=>obtain⟨t,rfl⟩:=rx;exact SeqAt.EqAt.none_int b t
    |str b=>obtain⟨t,rfl⟩:=rx;exact SeqAt.EqAt.none_str b t
    |_=>exact absurd (show false=true from fx) xaz
  |bl a=>
    cases ry
    cases x with
    |non=>cases rx;exact SeqAt.EqAt.bool_none a
    |bl b=>cases rx;exact SeqAt.EqAt.bool_bool a b
    |int b=>obtain⟨t,rfl⟩:=rx;exact SeqAt.EqAt.bool_int a b t
    |str b=>obtain⟨t,rfl⟩:=rx;exact SeqAt.EqAt.bool_str a b t
    |_=>exact absurd (show false=true from fx) xaz
  |int a=>
    obtain⟨t',rfl⟩:=ry
    cases x with
    |non=>cases rx;exact SeqAt.EqAt.int_none a t'
    |bl b=>cases rx;exact SeqAt.EqAt.int_bool a t' b
    |int b=>obtain⟨t,rfl⟩:=rx;exact SeqAt.EqAt.int_int a t' b t
    |str b=>obtain⟨t,rfl⟩:=rx;exact xds a t' b t
    |_=>exact absurd (show false=true from fx) xaz
  |str a=>
    obtain⟨t',rfl⟩:=ry
    cases x with
    |non=>cases rx;exact SeqAt.EqAt.str_none a t'
    |bl b=>cases rx;exact SeqAt.EqAt.str_bool a t' b
    |int b=>obtain⟨t,rfl⟩:=rx;exact xdt a t' b t
    |str b=>obtain⟨t,rfl⟩:=rx;exact SeqAt.EqAt.str_str a t' b t
    |_=>exact absurd (show false=true from fx) xaz
  |_=>exact absurd (show false=true from fy) xaz
noncomputable def sJ (x:V) (u:Value):Bool:=match u with
 |.none=>yG .non x
 |.bool b=>yG (.bl b) x
 |.int i _=>yG (.int i) x
 |.str z _=>yG (.str z) x
 |_=>false
def V6 (r:RelV y u)(f:xQ y=true):sJ x u=yG y x:=by
 cases y with
 |non=>cases r;rfl
 |bl b=>cases r;rfl
 |int i=>obtain⟨t,rfl⟩:=r;rfl
 |str z=>obtain⟨t,rfl⟩:=r;rfl
 |_=>exact absurd (show false=true from f) xaz
theorem Em:∀{xs:List V} {us:List Value},Vals xs us->xs.all xQ=true->us.any (sJ x)=xs.any fun y=>yG y x
  |_,_,.nil,_=>rfl
  |y::xs,u::us,.cons r t,f=>by
    rw[xbs,xac]at f;rw[xbm,xbm,V6 r f.1,Em t f.2]
theorem GP (rx:RelV x v)(fx:xQ x=true):∀{xs:List V} {us:List Value},Vals xs us->xs.all xQ=true->∀u∈us,SeqAt.EqAt A s u v (sJ x u)
  |_,_,.nil,_=>fun u hu=>by cases hu
  |y::xs,u::us,.cons r t,f=>fun u' hu=>by
    rw[xbs,xac]at f;rcases xaq.mp hu with rfl |hu
    · rw[V6 r f.1];exact ziC r rx f.1 fx
    · exact GP rx fx t f.2 u' hu
def inV (x:V)(xs:List V):Bool:=xs.any fun y=>yG y x
noncomputable def Ks (K:Fgx) (neg:Bool):R2:=fun x y H Q=>∃p xs,y=.ref p/\(fW K H p xs\/g_ K H p xs)/\xQ x=true/\xs.all xQ=true/\Q (.bl (if neg then !inV x xs else inV x xs)) H
def zcb:fU X (compareOp .In) (Ks X.K false):=by
 intro pins s σ H x y v u Q I rx ry h;obtain⟨p,xs,rfl,hq,fx,fs,q⟩:=h;cases ry;rcases hq with hq |hq
 ·obtain⟨its,r,pl,hz⟩:=I.list hq;refine SeqAt.in_listAt (sJ x) pl.isList (fun w hw=>GP rx fx r fs w (by simpa using hw)) ⟨.bl _,H,I,rfl,?_⟩;rw[show its.toArray.any (sJ x)=its.any (sJ x) by simp,Em r fs];exact q
 ·obtain⟨its,r,pl,hz⟩:=I.tuple hq;refine SeqAt.in_tupleAt (sJ x) pl (fun w hw=>GP rx fx r fs w (by simpa using hw)) ⟨.bl _,H,I,rfl,?_⟩;rw[show its.toArray.any (sJ x)=its.any (sJ x) by simp,Em r fs];exact q
def za3:fU X (compareOp .NotIn) (Ks X.K true):=by
 intro pins s σ H x y v u Q I rx ry h;obtain⟨p,xs,rfl,hq,fx,fs,q⟩:=h;cases ry;rcases hq with hq |hq
 ·obtain⟨its,r,pl,hz⟩:=I.list hq;refine SeqAt.notIn_listAt (sJ x) pl.isList (fun w hw=>GP rx fx r fs w (by simpa using hw)) ⟨.bl _,H,I,rfl,?_⟩;rw[show its.toArray.any (sJ x)=its.any (sJ x) by simp,Em r fs];exact q
 ·obtain⟨its,r,pl,hz⟩:=I.tuple hq;refine SeqAt.notIn_tupleAt (sJ x) pl (fun w hw=>GP rx fx r fs w (by simpa using hw)) ⟨.bl _,H,I,rfl,?_⟩;rw[show its.toArray.any (sJ x)=its.any (sJ x) by simp,Em r fs];exact q
def za6:lW X (.builtin "len") (fun xs H Q=>∃p ys,xs=[.ref p]/\(fW X.K H p ys\/g_ X.K H p ys)/\Q (.int ys.length) H):=by
 intro pins s σ H xs us Q I r h;obtain⟨p,ys,rfl,hq,q⟩:=h;obtain⟨u,rfl,rx⟩:=vals1 r;cases rx;have hn:=yP;rcases hq with hq |hq
 ·obtain⟨its,r',pl,hz⟩:=I.list hq;have hlen:=r'.length;exact Calls.call_len_list pl.isList (by simp only[xai]<;>omega) ⟨.int ys.length,H,I.tok _,⟨s.toks + 1,by rw[xai,hlen]⟩,q⟩
 ·obtain⟨its,r',pl,hz⟩:=I.tuple hq;have hlen:=r'.length;exact len_tuple pl (by simp only[xai]<;>omega) ⟨.int ys.length,H,I.tok _,⟨s.toks + 1,by rw[xai,hlen]⟩,q⟩
def za9:lW X (.builtin "len") (fun xs H Q=>∃z,xs=[.str z]/\z.length<=sizeLine/\Q (.int z.length) H):=by
 intro pins s σ H xs us Q I r h;obtain⟨z,rfl,hz,q⟩:=h;obtain⟨u,rfl,t,rfl⟩:=vals1 r;have hn:=yP;exact len_str (by omega) ⟨.int z.length,H,I.tok _,⟨_,rfl⟩,q⟩
def lW.or (h:lW X f r)(h':lW X f r'):lW X f (fun xs H Q=>r xs H Q\/r' xs H Q):=by
 intro pins s σ H xs us Q I rs q;rcases q with q |q
 ·exact h pins s σ H xs us Q I rs q
 ·exact h' pins s σ H xs us Q I rs q
def zbi:lW X (.type "list") (fun xs H Q=>∃p ys,xs=[.ref p]/\(fW X.K H p ys\/g_ X.K H p ys)/\∀l,H l=none->Q (.ref l) (upd H l (.lst ys))):=by
 intro pins s σ H xs us Q I r h;obtain⟨p,ys,rfl,hq,q⟩:=h;obtain⟨u,rfl,rx⟩:=vals1 r;cases rx;have fin:∀(its:List Value),Vals ys its->ys.length<=sizeLine->∀(h':Heap) (c':Nat),(∀b o',s.heap.get? b=some o'->h'.get? b=some o')->
   h'.get? s.heap.objs.size=some {cls:=.type "list",dict:=none,data:=.seq its.toArray c',slots:= #[]}->EP X pins σ Q (.ref s.heap.objs.size) {s with heap:=h'}:=fun its r' hz h' c' kp e=>
  ⟨.ref s.heap.objs.size,_,I.laid (t':=s.toks) kp (xad _) (show gj X.prog X.w _ h' _ (.lst ys) from⟨hz,its,c',r',e⟩),rfl,q _ (I.hok.fresh (xad _))⟩
 rcases hq with hq |hq
 ·obtain⟨its,r',pl,hz⟩:=I.list hq;have hlen:=r'.length;obtain⟨o,ho,hc,n,hd⟩:=pl.isList;exact call_list_seq p (.inl rfl) ho hc hd (fun h' c' kp e=>fin its r' hz h' c' kp e) (by simp only[xai]<;>omega)
 ·obtain⟨its,r',pl,hz⟩:=I.tuple hq;have hlen:=r'.length;obtain⟨o,ho,hc,n,hd⟩:=pl;exact call_list_seq p (.inr rfl) ho hc hd (fun h' c' kp e=>fin its r' hz h' c' kp e) (by simp only[xai]<;>omega)
def zN:lW X (.type "tuple") (fun xs H Q=>∃p ys,xs=[.ref p]/\((fW X.K H p ys/\∀l,H l=none->Q (.ref l) (upd H l (.tup ys)))\/(g_ X.K H p ys/\Q (.ref p) H))):=by
 intro pins s σ H xs us Q I r h;obtain⟨p,ys,rfl,h⟩:=h;obtain⟨u,rfl,rx⟩:=vals1 r;cases rx;rcases h with⟨hq,q⟩ |⟨hq,q⟩
 ·obtain⟨its,r',pl,hz⟩:=I.list hq;have hlen:=r'.length;refine call_tuple_list pl.isList (fun h' kp=>?_) (by simp only[xai]<;>omega)
  have I1:Inv X pins σ H {s with heap:=h'}:=I.kept (t':=s.toks) kp;have I2:Inv X pins σ (upd H h'.objs.size (.tup ys)) {s with heap:=h'.push {cls:=.type "tuple",data:=.seq its.toArray}}:=
   I1.laid (t':=s.toks) (fun b o e=>xaf _ e) (xad _) (show gj X.prog X.w _ _ _ (.tup ys) from⟨hz,its,r',IsTup.new _ _⟩)
  exact⟨.ref h'.objs.size,_,I2,rfl,q _ (I1.hok.fresh (xad _))⟩
 ·obtain⟨its,r',pl,hz⟩:=I.tuple hq;exact call_tuple_same pl ⟨.ref p,H,I,rfl,q⟩
def Uc (K:Fgx)(T:String)(x:V)(H:Hp):Prop:=match x with
 |.str _=>T="str"
 |.int _=>T="int"
 |.ref p=>(T="list"/\∃xs,fW K H p xs)\/(T="tuple"/\∃o,K.lookup p=some o/\o.cls=.type "tuple"/\o.dict=none)\/
   (T="dict"/\((∃kvs,H p=some (.dK kvs))\/∃kvs,H p=some (.dT kvs)))\/(T="set"/\∃S n,H p=some (.set S n))
 |_=>False
def zdP (I:Inv X pins σ H s)(r:RelV x v)(ty:Uc X.K T x H):
    s.TypeIs v T/\∀a,v=.ref a->∃ob,s.heap.get? a=some ob/\ob.dict=none:=by
  cases x with
  |str z=>
    obtain⟨t,rfl⟩:=r;cases (show T="str" from ty);exact⟨xcN s z t,fun _ e=>nomatch e⟩
  |int i=>
    obtain⟨t,rfl⟩:=r;cases (show T="int" from ty);exact⟨typeIs_int s i t,fun _ e=>nomatch e⟩
  |ref p=>
    cases r;rcases ty with⟨rfl,xs,hq⟩ |⟨rfl,o,hk,hc,hd⟩ |⟨rfl,hk⟩ |⟨rfl,S,n,hk⟩
    · obtain⟨its,_,pl,_⟩:=I.list hq;refine⟨pl.isList.typeIs,fun a e=>?_⟩;cases e;obtain⟨o,n,e,c,hd,_⟩:=pl;exact⟨o,e,hd⟩
    · refine⟨⟨o,I.kIn p o hk,hc⟩,fun a e=>?_⟩;cases e;exact⟨o,I.kIn _ o hk,hd⟩
    · have z:∃o,s.heap.get? p=some o/\o.ExactDict:=by
        rcases hk with⟨kvs,hk⟩ |⟨kvs,hk⟩
        · obtain⟨_,_,_,_,o,_,_,e,ex,_⟩:=I.hok p _ hk;exact⟨o,e,ex⟩
        · obtain⟨_,_,_,_,o,_,_,e,ex,_⟩:=I.hok p _ hk;exact⟨o,e,ex⟩
      obtain⟨o,e,ex⟩:=z;refine⟨⟨o,e,ex.1⟩,fun a e2=>?_⟩;cases e2;exact⟨o,e,ex.2.1⟩
    · obtain⟨o,_,_,_,e,ex,_⟩:=I.hok p _ hk;refine⟨⟨o,e,ex.1⟩,fun a e2=>?_⟩;cases e2;exact⟨o,e,ex.2.1⟩
  |_=>exact False.elim ty
noncomputable def Tf (K:Fgx) (T:String) (r:V->List V->Hp->VK->Prop) (to:TE):TE:=fun σ H Q=>to σ H fun x H1=>Uc K T x H1/\r x [] H1 Q
noncomputable def tBM (K:Fgx) (T:String) (r:V->List V->Hp->VK->Prop) (to:TE) (t:TA):TE:=fun σ H Q=>to σ H fun x H1=>Uc K T x H1/\t σ H1 fun xs H2=>r x xs H2 Q
variable {o e:Expr}{es:List Expr}{to:TE}{t:TA}{name:Str}{apos cpos:Pos}{T id:String}{r:V->List V->Hp->VK->Prop}
def zgg (pa:PlainAttrs T)(slot:Slot T name id)(hty:typeOf (.builtin id)=pure (.type "method_descriptor"))(hm:Ae X id r)(ho:PE X o to)
  (hbase:attributeBase o name X.env (eval o X.env)=eval o X.env:=by rfl) (hline:(apos.endLine==cpos.line)=true:=by rfl):PE X (.Call (.Attribute o name apos) [] [] cpos) (Tf X.K T r to):=by
 intro pins s σ H Q I h;refine xd5 hbase hline (aQ (ho pins s σ H _ I h) fun v s1 ⟨x,H1,I1,r1,ty,q1⟩=>?_);obtain⟨h1,h2⟩:=zdP I1 r1 ty;exact⟨T,id,pa,slot,hty,h1,h2,xbR rfl (xet (hm pins s1 σ H1 x [] v [] Q I1 r1 .nil q1))⟩
def Kl (pa:PlainAttrs T)(slot:Slot T name id)(hty:typeOf (.builtin id)=pure (.type "method_descriptor"))(hm:Ae X id r)(ho:PE X o to)(ha:PA X (e::es) t)
  (hbase:attributeBase o name X.env (eval o X.env)=eval o X.env:=by rfl)
  (hfew : ((backTo cpos (starEach (e::es) X.env)).all (fun x=> !x.1) && (backToKw cpos (keywordEach [] X.env)).all (fun x=>x.1.isSome)
   && decide ((e::es).length + ([]:List Keyword).length + (if ([]:List Keyword).isEmpty then 0 else 1)<30))=true:=by rfl)
  (hline:(apos.endLine==cpos.line)=true:=by rfl) (hs:starEach (e::es) X.env=(false,eval e X.env)::starEach es X.env:=by rfl) (hplain:(backTo cpos (starEach es X.env)).any (·.1)=false:=by rfl):
  PE X (.Call (.Attribute o name apos) (e::es) [] cpos) (tBM X.K T r to t):=by
 intro pins s σ H Q I h;refine wpAny_Call_method_late hbase hfew hline rfl (aQ (ho pins s σ H _ I h) fun v s1 ⟨x,H1,I1,r1,ty,q1⟩=>?_);obtain⟨h1,h2⟩:=zdP I1 r1 ty;refine⟨T,id,pa,slot,hty,h1,h2,?_⟩;have hA:=ha cpos pins s1 σ H1 _ I1 q1;rw[hs]at hA ⊢;refine xbR (by show(false || (backTo cpos (starEach es X.env)).any (·.1))=false;rw[hplain]<;>rfl) (xc9 ?_)
 exact aQ hA fun us s2 ⟨vs,H2,I2,r2,q2⟩=>hm pins s2 σ H2 x vs v us Q I2 r1 r2 q2
end
def U0 (X:Cx)(id:String)(r:V->List V->Hp->VK->Prop):Prop:=
 ∀(pins:Pnx) (s:Shared) (σ:St) (H:Hp) (x:V) (xs:List V) (v:Value) (us:List Value) (Q:VK),Inv X pins σ H s->RelV x v->Vals xs us->r x xs H Q->
  wpAny (model X.prog X.w) X.A (call (.builtin id) (v::us)) (EP X pins σ Q) X.xe s
def Vals.one:∀{x:V} {us:List Value},Vals [x] us->∃u,us=[u]/\RelV x u
 |_,_,.cons r .nil=>⟨_,rfl,r⟩
theorem Vals.zero:∀{us:List Value},Vals [] us->us=[]
 |_,.nil=>rfl
theorem Vals.dropLast (h:Vals xs us):Vals xs.dropLast us.dropLast:=by
  induction h with
  |nil=>exact .nil
  |cons r t ih=>
    cases t with
    |nil=>exact .nil
    |cons q t'=>exact .cons r ih
theorem zbD (l:List α):l.eraseIdx (l.length - 1)=l.dropLast:=by
  induction l with
  |nil=>rfl
  |cons a r ih=>
    cases r with
    |nil=>rfl
    |cons b r=>
      have e:(a::b::r).length - 1=((b::r).length - 1) + 1:=by
        have h1:(a::b::r).length=r.length + 2:=rfl;have h2:(b::r).length=r.length + 1:=rfl;omega
      rw[e,List.eraseIdx_cons_succ,ih]
      all_goals rfl
section
variable {X:Cx}{pins:Pnx}{σ:St}{H:Hp}{s:Shared}{l b:Addr}{xs ys zs:List V}
def Inv.lset {its its':List Value}{n:Nat}{f:Array Value->Array Value}{t':Nat}(I:Inv X pins σ H s)(hH:H l=some (.lst xs))
  (e:s.heap.get? l=some {cls:=.type "list",data:=.seq its.toArray n}) (hf:f its.toArray=its'.toArray) (hv:Vals ys its') (hz:ys.length<=sizeLine):
  Inv X pins σ (upd H l (.lst ys)) {s with heap:=s.heap.update l (Obj.mapSeq f),toks:=t'}:=by
 have q:=PySem.IsL.update e f;rw[hf]at q;refine I.write (x:=l) (e:=l) (by rw[hH];exact trivial) (.inl rfl) (fun b' u hb hu=>(xa2 s.heap (Obj.mapSeq f) (xbA hb)).trans hu) ⟨_,q⟩ ?_;exact⟨hz,its',_,hv,q⟩
def Inv.lnew (I:Inv X pins σ H s)(hv:Vals ys its)(hz:ys.length<=sizeLine):
  Inv X pins σ (upd H s.heap.objs.size (.lst ys)) {s with heap:=s.heap.push {cls:=.type "list",data:=.seq its.toArray},toks:=t'}:=
 I.laid (fun _ _ q=>xaf _ q) (xad _) ⟨hz,its,0,hv,xaJ _ rfl⟩
theorem Inv.fresh (I:Inv X pins σ H s):H s.heap.objs.size=none:=I.hok.fresh (xad _)
def Inv.lstM (I:Inv X pins σ H s)(hH:H l=some (.lst xs)):xs.length<=sizeLine/\∃(its:List Value) (n:Nat),Vals xs its/\xs.length=its.length/\s.heap.get? l=some {cls:=.type "list",data:=.seq its.toArray n}:=by
 obtain⟨z,its,n,r,e⟩:=I.hok l _ hH;exact⟨z,its,n,r,r.length,e⟩
end
section
variable {X:Cx}
def zfn:V->List V->Hp->VK->Prop:=fun x vs H Q=>∃l xs y,x=.ref l/\vs=[y]/\H l=some (.lst xs)/\xs.length<sizeLine/\Q .non (upd H l (.lst (xs ++ [y])))
def Qu:U0 X "list.append" zfn:=by
 intro pins s σ H x vs v us Q I rx rv h;obtain⟨l,xs,y,rfl,rfl,hH,hz,q⟩:=h;cases rx;obtain⟨u,rfl,ru⟩:=rv.one;obtain⟨z,its,n,r,hl,e⟩:=I.lstM hH;refine call_meets F.slot_list_append ⟨_,e,rfl⟩ F.entry_list_append (F.args_list_append_2 _ _) (PySem.list_append l its.toArray n u (by rw[xai];omega)) ⟨e,?_⟩;refine⟨.non,_,I.lset (its':=its ++ [u]) hH e (by simp) (r.append (.cons ru .nil)) ?_,rfl,q⟩;rw[xam,xaE];omega
def RB:V->List V->Hp->VK->Prop:=fun x vs H Q=>∃l xs y,x=.ref l/\vs=[]/\H l=some (.lst xs)/\xs[xs.length - 1]? =some y/\Q y (upd H l (.lst xs.dropLast))
def zhs:U0 X "list.pop" RB:=by
 intro pins s σ H x vs v us Q I rx rv h;obtain⟨l,xs,y,rfl,rfl,hH,hy,q⟩:=h;cases rx;have hus:=rv.zero;subst hus;obtain⟨z,its,n,r,hl,e⟩:=I.lstM hH;obtain⟨u,hu,ru⟩:=r.get hy;have hy':its.toArray[its.toArray.size - 1]? =some u:=by
  show its.toArray[its.length - 1]? =some u;rw[<-xef, <-hl];exact hu
 refine call_meets F.slot_list_pop ⟨_,e,rfl⟩ F.entry_list_pop (F.args_list_pop_1 _) (MeetsSeq.list_pop_last l its.toArray n u hy' (by rw[xai];omega)) ⟨e,?_⟩;refine⟨y,_,I.lset (its':=its.dropLast) hH e ?_ r.dropLast ?_,ru,q⟩
 ·show its.toArray.eraseIdxIfInBounds (its.toArray.size - 1)=its.dropLast.toArray;rw[xai,List.eraseIdxIfInBounds_toArray,zbD]
 ·rw[List.length_dropLast];omega
end
end L2
namespace Att
open PySem PySem.W PySem.Calls PyProof.Rows
def zaL:∀(ns:List Int) (vs:List Value),WellAll P h vs (ns.map WData.int)->IntsAre vs ns:=by
  intro ns
  induction ns with
  |nil=>
    intro vs w;rw[xcI]at w;cases w;exact .nil
  |cons n ns ih=>
    intro vs w;rw[xak]at w
    cases w with
    |cons a b=>
      cases a;exact .cons _ _ (ih _ b)
def zcF {l:OpenLaw}{n:Nat}(hn:l.most=some n){P:Params}{h:Heap}{args:List WData}{vals:List Value}
    (hpre:l.row.toRowW.claim.pre args=true) (hwl:WellAll P h vals args):
    ∃a vs ns,vals=[Value.ref a]/\args=[WData.list (ns.map WData.int)]/\h.get? a=some {cls:=.type "list",data:=.seq vs.toArray}/\IntsAre vs ns/\ns.length<=n:=by
  have hsh:WShape.hasAll [] args [.list .int]=true:=(pre_splitW hpre).1;have hc:l.pre.holds [] {args:=args}=true:=(pre_splitW hpre).2;obtain⟨d,r,rfl,h1,h2⟩:=hasAllW_cons hsh;obtain rfl:=hasAllW_nil h2;obtain⟨xs,rfl,h3⟩:=hasW_list h1;obtain⟨ns,rfl⟩:=items_int h3;have hlen:ns.length<=n:=by
    unfold OpenLaw.pre at hc;have h4:(WTm.not (.lt (.lit (.int (n:Int))) (.len (.arg 0)))).holds [] {args:=[.list (ns.map .int)]}=true:=by
      have h4:=(holds_andW hc).1;rw[hn]at h4;exact h4
    have h5:=condW_of h4 (w_not (w_lt w_lit (w_len_list (w_arg rfl))));rw[xap]at h5;refine Nat.le_of_not_lt fun q=>?_;have q':(n:Int)<((ns.length:Nat):Int):=by omega
    first
      |(rw[xaC q']at h5;exact absurd h5 (by decide))
      |(simp at h5;omega)
  cases hwl with
  |cons w1 w2=>
    cases w2
    cases w1 with
    |list ho hall=>exact⟨_,_,ns,rfl,rfl,ho,zaL ns _ hall,hlen⟩
theorem zcu (l:OpenLaw)(args:List WData):l.row.toRowW.claim.post args (.bool true) args=true:=
 postW_of (r:=l.row.toRowW) (X:=(true==true))
  (show WShape.has [] (.bool true) .bool=true by first |rfl |decide |simp[WShape.has,WShape.arms,WShape.armsAll])
  (show(WTm.eq .res (.lit (.bool true))).value [] {args:=args,res:=some (.bool true),after:=args}=some (.bool (true==true)) from w_eq_bool (w_res rfl) w_lit) rfl
def zbr {l:OpenLaw}{n:Nat}{q:Program}{loose:List Str}{XP:(Mgx)->Heap->Prop}{YP:World->Heap->Prop}{d:DefRec}
  (hn:l.most=some n) (hdf:d.params.defaults=[])
  (call:∀(w:World) (s₀ s₁:Shared) (mg mb:Mgx) (fa:Addr) (o:Obj) (pm cd doc:Value) (a:Addr) (vs:List Value) (ns:List Int),
   Ground q loose [] XP w s₀ mg mb s₁.heap->YP w s₁.heap->
   s₁.heap.get? fa=some o->o.data=.func (docDef d.name d.params d.body d.scope pm cd doc)->s₁.heap.CodeRec cd d.name->mg d.name=some (.ref fa)->
   s₁.heap.get? a=some {cls:=.type "list",data:=.seq vs.toArray}->IntsAre vs ns->ns.length<=n->s₁.gens= #[]->
   codeAny (model l.prog w) callerA (.call (.ref fa) ⟨[.ref a],[]⟩) (fun r s'=>r=.ok (.ret (.bool true))/\OldK s₁.heap s'.heap/\s'.os=s₁.os/\AllBare s'.gens) s₁):
  WalkO q loose XP YP l.row.toRowW d [] (fun f vs=>PySem.call f vs):=by
 intro w s₀ s₁ mg mb G Y fa o pm cd doc dV kV ho hd hcd hD hmg hg args vals as hpre hlay hrd hwl hlo;obtain rfl:dV=.none:=Dflts.none hD hdf;obtain rfl:kV=.none:=Dflts.noKw hD;obtain⟨a,vs,ns,rfl,rfl,hobj,hints,hlen⟩:=zcF hn hpre hwl;refine enter_call (xcs (call w s₀ s₁ mg mb fa o pm cd doc a vs ns G Y ho (fd_plain hd) hcd hmg hobj hints hlen hg) fun r s' hq=>?_);obtain⟨rfl,h2,h3,h4⟩:=hq;exact⟨.inl ⟨.bool true,.bool true,[],rfl,fun _=>rfl,.bool true,zcu l _,fun _=>⟨List.Pairwise.nil,fun _ hm=>(nomatch hm)⟩⟩,h2,h3,h4⟩
end Att
namespace L2
open PySem PySem.Spec PyProof.Rows
theorem za8:∀{vs:List Value} {ns:List Int},IntsAre vs ns->Vals (ns.map V.int) vs
 |_,_,.nil=>.nil
 |_,_,.cons n t h=>.cons ⟨t,rfl⟩ (za8 h)
def Only (H:Hp):Prop:=∀b,H b=none\/∃o xs,H b=some (.frz o (.lst xs))
def zdd {P:Program}{w:World}{K:Fgx}{mg mb:Mgx}{CX:nQ}{k:Nat}{fa a:Addr}{fd:FuncData}{x:Str}{sp:Sp}{s₁:Shared}{vs:List Value}{ns:List Int}
    (KX:K.In s₁.heap) (hns:s₁.heap.Ns mainGlobals mg) (hb:s₁.heap.Ns builtinsNs mb) (hbb:∀x:Str,x≠"__name__"->mb x=bootBuiltins x) (hlim:s₁.heap.NoLimit) (hg:s₁.gens= #[])
    (ha:s₁.heap.get? a=some {cls:=.type "list",data:=.seq vs.toArray}) (hi:IntsAre vs ns) (hl:ns.length<=sizeLine) (hr:Room k callerA)
    (F:∀base:Heap,K.In base->base.Ns mainGlobals mg->FnOk P w K mg base CX k fa fd [x] sp) (hbind:∀(s:Shared) (u:Value),BindsTo s fd ⟨[u],[]⟩ [(x,u)])
    (hsp:∀H:Hp,Only H->fW K H a (ns.map V.int)->sp [.ref a] H (fun v _=>v=.bl true) fun _ _ _=>False)
    (hCX:∀H e s',CX [] H s₁ (fun _ _ _=>False) e s'->False):
    codeAny (model P w) callerA (.call (.ref fa) ⟨[.ref a],[]⟩) (fun r s'=>r=.ok (.ret (.bool true))/\OldK s₁.heap s'.heap/\s'.os=s₁.os/\AllBare s'.gens) s₁:=by
  have rv:=za8 hi;have lenV:=hi.length
  -- from an abstract heap in which nothing but the script may be tracked
  have core:∀H:Hp,Only H->fW K H a (ns.map V.int)->gH P w H s₁.heap->(∀b,H b≠none->b=a)->(H a≠none->K.lookup a=none)->
      codeAny (model P w) callerA (.call (.ref fa) ⟨[.ref a],[]⟩) (fun r s'=>r=.ok (.ret (.bool true))/\OldK s₁.heap s'.heap/\s'.os=s₁.os/\AllBare s'.gens) s₁:=by
    intro H hO hS hok hA hK;have base_of:∀{b:Addr} {o:Obj},s₁.heap.get? b=some o->H b=none->(nU s₁.heap H).get? b=some o:=fun e n=>zde e n;have noA:∀{b:Addr} {o:Obj} {es:Array DictEntry} {ep:Nat},s₁.heap.get? b=some o->o.data=.dict es ep->H b=none:=fun {b o es ep} e d=>by
      cases q:H b with
      |none=>rfl
      |some u=>
        have e':b=a:=hA b (by rw[q];simp);subst e';rw[ha]at e;cases e;have d':Data.seq vs.toArray _=Data.dict es ep:=d;cases d'
    have nsK : ∀ {b : Addr} {m : Mgx}, s₁.heap.Ns b m -> (nU s₁.heap H).Ns b m := fun {b m} ⟨o, es, ep, e, d, r⟩ => ⟨o, es, ep, base_of e (noA e d), d, r⟩;have hKb : K.In (nU s₁.heap H) := fun b o e => base_of (KX b o e) (by
      cases q:H b with
      |none=>rfl
      |some u=>
        have e':b=a:=hA b (by rw[q];simp);subst e';rw[hK (by rw[q];simp)]at e;cases e)
    have hM:Mod K mg (nU s₁.heap H):=⟨hKb,nsK hns,⟨mb,nsK hb,hbb⟩,let ⟨mc,h1,h2⟩:=hlim;⟨mc,nsK h1,h2⟩⟩
    have e0:Env0 P w K mg (nU s₁.heap H) callerA [] s₁ H:=⟨rfl,hM,fun b o e=>zeV e,xez (zcK _ _),trivial,fun b hb=>absurd (show b∈([]:List Addr) from hb) (by simp),hok,.of_eq hg⟩;refine xcs ((F _ hKb (nsK hns)).run callerA [] s₁ H ⟨[.ref a],[]⟩ [.ref a] [.ref a] _ _ hr e0 (hbind s₁ (.ref a)) (.cons rfl .nil) (hsp H hO hS)) fun r s' h=>?_
    cases r with
    |error e=>exact(hCX H e s' h).elim
    |ok fl=>
      cases fl with
      |next=>exact False.elim h
      |brk=>exact False.elim h
      |cont=>exact False.elim h
      |ret u=>
        obtain⟨v,H',os,bare,un,hok',r',q⟩:=h;have q':v=.bl true:=q;subst q';obtain rfl:u=Value.bool true:=r';refine⟨rfl,OldK.of_keep fun b o e=>?_,os,bare⟩
        cases q:H b with
        |none=>exact un.keep b o e q (by intro z;exact absurd (show b∈([]:List Addr) from z) (by simp)) (by simp)
        |some u=>
          rcases hO b with z |⟨ob,xs,z⟩
          · rw[q]at z;cases z
          · have z2:=un.frzs b ob _ z;obtain⟨e1,_⟩:=hok b _ z;obtain⟨e2,_⟩:=hok' b _ z2;rw[e]at e1;cases e1;exact e2
  cases hk:K.lookup a with
  |some o=>
    -- the script is one of the module's own objects
    have e:=KX a o hk;rw[ha]at e;cases e;refine core (fun _=>none) (fun _=>.inl rfl) (.inr ⟨_,vs.toArray,_,hk,rfl,rfl,rfl,by rw[xai,lenV];exact hl,by simpa using rv⟩) (fun b u z=>by have z':(none:Option HO)=some u:=z;cases z') (fun b z=>absurd rfl z) fun z=>absurd rfl z
  |none=>
    refine core (fun b=>if b=a then some (.frz {cls:=.type "list",data:=.seq vs.toArray} (.lst (ns.map V.int))) else none) (fun b=>?_) (.inl (.inr ⟨{cls:=.type "list",data:=.seq vs.toArray},tG rfl⟩)) (fun b u z=>?_) (fun b z=>?_) fun _=>hk
    · by_cases hb:b=a
      · exact .inr ⟨_,_,tG hb⟩
      · exact .inl (xab hb)
    · by_cases hb:b=a
      · have z':=(tG hb).symm.trans z;cases z';subst hb;exact⟨ha,by rw[xap];exact hl,vs,_,rv,ha⟩
      · have z':=(xab hb).symm.trans z;cases z'
    · by_cases hb:b=a
      · exact hb
      · exact absurd (xab hb) z
def zeL {l:PySem.W.OpenLaw}{n k:Nat}{q:Program}{loose:List Str}{XP:(Mgx)->Heap->Prop}{YP:World->Heap->Prop}{d:DefRec}{K:Params->Fgx}{CX:World->nQ}{sp:World->Sp}{x:Str}
  (hn:l.most=some n) (hn2:n<=sizeLine) (hdf:d.params.defaults=[]) (hr:Room k callerA)
  (hY:∀(w:World) (h:Heap),YP w h->(K w.params).In h)
  (F:∀(w:World) (mg:Mgx) (fa:Addr) (h:Heap),(K w.params).In h->h.Ns mainGlobals mg->mg d.name=some (.ref fa)->
   ∃fd:FuncData,(∀(s:Shared) (u:Value),BindsTo s fd ⟨[u],[]⟩ [(x,u)])/\
    ∀base:Heap,(K w.params).In base->base.Ns mainGlobals mg->FnOk l.prog w (K w.params) mg base (CX w) k fa fd [x] (sp w))
  (hsp:∀(w:World) (H:Hp) (a:Addr) (ns:List Int),ns.length<=n->Only H->fW (K w.params) H a (ns.map V.int)->sp w [.ref a] H (fun v _=>v=.bl true) fun _ _ _=>False)
  (hCX:∀(w:World) (H:Hp) (s:Shared) (e:Value) (s':Shared),CX w [] H s (fun _ _ _=>False) e s'->False):
  PySem.W.WalkO q loose XP YP l.row.toRowW d [] (fun f vs=>PySem.call f vs):=by
 refine Att.zbr hn hdf fun w s₀ s₁ mg mb fa o pm cd doc a vs ns G Y ho hd hcd hmg hobj hints hlen hg=>?_;have KX:=hY w _ Y;obtain⟨fd,hb,hF⟩:=F w mg fa _ KX G.T.g hmg;exact zdd KX G.T.g G.T.b G.T.builtins G.T.nolimit hg hobj hints (xau hlen hn2) hr hF hb (fun H hO hS=>hsp w H a ns hlen hO hS) fun H e s'=>hCX w H s₁ e s'
def zdF {l:PySem.W.OpenLaw}{n k:Nat}{q:Program}{loose:List Str}{XP:(Mgx)->Heap->Prop}{YP:World->Heap->Prop}{d:DefRec}{K:Params->Fgx}{CX:nQ}{sp:Fgx->Sp}{x:Str}
  (hn:l.most=some n) (hn2:n<=sizeLine) (hdf:d.params.defaults=[]) (hr:Room k callerA)
  (hY:∀(w:World) (h:Heap),YP w h->(K w.params).In h)
  (F:∀(w:World) (mg:Mgx) (fa:Addr) (h:Heap),(K w.params).In h->h.Ns mainGlobals mg->mg d.name=some (.ref fa)->
   ∃fd:FuncData,(∀(s:Shared) (u:Value),BindsTo s fd ⟨[u],[]⟩ [(x,u)])/\
    ∀base:Heap,(K w.params).In base->base.Ns mainGlobals mg->FnOk l.prog w (K w.params) mg base CX k fa fd [x] (sp (K w.params)))
  (hsp:∀(K:Fgx) (H:Hp) (a:Addr) (ns:List Int),ns.length<=n->Only H->fW K H a (ns.map V.int)->sp K [.ref a] H (fun v _=>v=.bl true) fun _ _ _=>False)
  (hCX:∀(H:Hp) (s:Shared) (e:Value) (s':Shared),CX [] H s (fun _ _ _=>False) e s'->False):
  PySem.W.WalkO q loose XP YP l.row.toRowW d [] (fun f vs=>PySem.call f vs):=
 zeL (K:=K) (CX:=fun _=>CX) (sp:=fun w=>sp (K w.params)) hn hn2 hdf hr hY F (fun w H a ns h1 h2 h3=>hsp (K w.params) H a ns h1 h2 h3) fun _ H s e s'=>hCX H s e s'
noncomputable def m_ (s:Stmt):Arguments:=match s with
 |.FunctionDef _ a _ _ _ _ _ _ _ _=>a
 |_=>{posonlyargs:=[],args:=[],vararg:=none,kwonlyargs:=[],kw_defaults:=[],kwarg:=none,defaults:=[]}
noncomputable def j_ (s:Stmt):List Stmt:=match s with
 |.FunctionDef _ _ b _ _ _ _ _ _ _=>b
 |_=>[]
noncomputable def aY (s:Stmt):Scope:=match s with
 |.FunctionDef _ _ _ _ _ _ sc _ _ _=>sc
 |_=>{kind:=.function,names:=[],isGenerator:=false,isCoroutine:=false}
abbrev nF:nQ:=fun _ _ _ _ _ _=>False
abbrev E0:XK:=fun _ _ _=>False
def YD:Passes nF X E0:=fun _ _ _ _ _ _ _ h=>h.elim
structure Fun (K:Fgx)(x qual:Str)(st:Stmt)(f:Addr)(fd:FuncData):Prop where
 ex:∃(oc:Value) (od:Option Addr) (kV doc pm:Value) (an:Option Addr) (cdv ct:Value) (osl:Array (Option Value)),
  fd=PySem.W.fnOf x qual (m_ st) (j_ st) (aY st) .none kV doc pm an cdv ct/\K.lookup f=some ⟨oc,od,.func fd,osl⟩/\PySem.W.codeIn K cdv qual=true
 kp:PySem.W.keepIn K (.ref f)=true
section
variable {P:Program}{w:World}{K:Fgx}{mg:Mgx}{base:Heap}
def Fun.binds {x qual:Str}{st:Stmt}{f:Addr}{fd:FuncData}{ps:List Str}(F:Fun K x qual st f fd)
  (h:∀(kV doc pm:Value) (an:Option Addr) (cdv ct:Value) (us:List Value),us.length=ps.length->bindArgs (PySem.W.fnOf x qual (m_ st) (j_ st) (aY st) .none kV doc pm an cdv ct) ⟨us,[]⟩=pure (ps.zip us)):Binds K fd ps []:=by
 obtain⟨oc,od,kV,doc,pm,an,cdv,ct,osl,rfl,lk,hcd⟩:=F.ex;exact .all (h kV doc pm an cdv ct)
def CK {x qual:Str}{st:Stmt}{f:Addr}{oc:Value}{od an:Option Addr}{osl:Array (Option Value)}{kV doc pm cdv ct:Value}(l:K.lookup f=some ⟨oc,od,.func (PySem.W.fnOf x qual (m_ st) (j_ st) (aY st) .none kV doc pm an cdv ct),osl⟩)
  (c:PySem.W.codeIn K cdv qual=true) (k:PySem.W.keepIn K (.ref f)=true):Fun K x qual st f (PySem.W.fnOf x qual (m_ st) (j_ st) (aY st) .none kV doc pm an cdv ct):=⟨⟨oc,od,kV,doc,pm,an,cdv,ct,osl,rfl,l,c⟩,k⟩
end
def Same (H H':Hp):Prop:=∀b o,H b=some o->H' b=some o
def Same.refl (H:Hp):Same H H:=fun _ _ h=>h
def Same.free (e:Same H H')(h:H' l=Option.none):H l=Option.none:=by
  cases q:H l with
  |none=>rfl
  |some o=>
    rw[e l o q]at h;cases h
end L2
set_option maxHeartbeats 0
namespace L2
open PySem PySem.Spec PyProof.Rows
section
variable {κ:Type}[DecidableEq κ]
noncomputable def gG (kvs:List (κ×V)) (k:κ):Option V:=(kvs.find? fun kv=>decide (kv.1=k)).map (·.2)
noncomputable def putK (kvs:List (κ×V)) (k:κ) (v:V):List (κ×V):=
 if (kvs.any fun kv=>decide (kv.1=k))=true then kvs.map (fun kv=>if kv.1=k then(kv.1,v) else kv) else kvs ++ [(k,v)]
def Mw {p:κ×V}{r:List (κ×V)}{k:κ}(e:p.1=k):gG (p::r) k=some p.2:=by simp[gG,xa6,e]
def Mv {p:κ×V}{r:List (κ×V)}{k:κ}(e:¬ p.1=k):gG (p::r) k=gG r k:=by simp[gG,xa6,e]
theorem zbC (k:κ):∀kvs:List (κ×V),(kvs.any fun kv=>decide (kv.1=k))=(gG kvs k).isSome
  | []=>rfl
  |p::r=>by
    rw[xbm]
    by_cases e:p.1=k
    · simp only[Mw e,xaC e,Bool.true_or,xcj]
    · rw[Mv e,xat e,Bool.false_or];exact zbC k r
def Xe (kvs:List (κ×V))(k:κ)(v:V):(putK kvs k v).length<=kvs.length + 1:=by
 unfold putK
 split
 ·rw[xap];omega
 ·rw[xam,xal,xbM];omega
theorem kE.isSome_eq (r:kE o u):o.isSome=u.isSome:=by
  cases o with
  |none=>cases u with
    |none=>rfl
    |some _=>exact(show False from r).elim
  |some _=>cases u with
    |none=>exact(show False from r).elim
    |some _=>rfl
theorem kE.getD (r:kE o u)(rd:RelV d d'):RelV (o.getD d) (u.getD d'):=by
  cases o with
  |none=>cases u with
    |none=>exact rd
    |some _=>exact(show False from r).elim
  |some _=>cases u with
    |none=>exact(show False from r).elim
    |some _=>exact r
def KV.val {kvs:List (κ×V)}{vs:List (κ×Value)}(r:KV kvs vs)(k:κ):kE (gG kvs k) (valueAt vs k):=by
  unfold KV at r
  induction r with
  |nil=>exact True.intro
  | @cons p q ps qs h t ih=>
    obtain⟨h1,h2⟩:=h
    by_cases e:p.1=k
    · have e':q.1=k:=h1.symm.trans e;have b:valueAt (q::qs) k=some q.2:=by simp[valueAt,xa6,e']
      rw[Mw e,b];exact h2
    · have e':¬ q.1=k:=fun z=>e (h1.trans z);have b:valueAt (q::qs) k=valueAt qs k:=by simp[valueAt,xa6,e']
      rw[Mv e,b];exact ih
theorem KV.any (r:KV kvs vs)(k:κ):(kvs.any fun kv=>decide (kv.1=k))=vs.any fun kv=>decide (kv.1=k):=by
 unfold KV at r
 induction r with
 |nil=>rfl
 |cons h t ih=>rw[xbm,xbm,ih,h.1]
def KV.repl (r:KV kvs vs)(k:κ)(ry:RelV y u):
    KV (kvs.map fun kv=>if kv.1=k then(kv.1,y) else kv) (vs.map fun kv=>if kv.1=k then(kv.1,u) else kv):=by
  unfold KV at r ⊢
  induction r with
  |nil=>exact .nil
  | @cons p q ps qs h t ih=>
    rw[xak,xak];refine .cons ?_ ih;obtain⟨h1,h2⟩:=h
    by_cases e:p.1=k
    · rw[tG e,tG (h1.symm.trans e)];exact⟨h1,ry⟩
    · rw[xab e,xab (fun z=>e (h1.trans z))];exact⟨h1,h2⟩
def KV.put (r:KV kvs vs)(k:κ)(ry:RelV y u):KV (putK kvs k y) (stored vs k u):=by
 unfold putK stored;rw[r.any k]
 by_cases e:(vs.any fun kv=>decide (kv.1=k))=true
 ·rw[tG e,tG e];exact r.repl k ry
 ·rw[xab e,xab e];exact Paired.snoc r ⟨rfl,ry⟩
theorem KV.length (r:KV kvs vs):kvs.length=vs.length:=xdA r
end
def Bj (r:RelV (kV k) u):(nH P w).is k u=true:=by
 cases k with
 |inl i=>obtain⟨t,e⟩:=(show ∃t,u=Value.int i t from r);subst e;exact zbo P w i t
 |inr x=>obtain⟨t,e⟩:=(show ∃t,u=Value.str x t from r);subst e;exact Qt P w x t
theorem WT:∀{ks:List Key} {us:List Value},Vals (ks.map kV) us->ItemsAre (nH P w) ks us
  | [],_,r=>by rw[xcI]at r;cases r;exact .nil
  |k::ks,_,r=>by
    rw[xak]at r
    cases r with
    |cons h t=>exact .cons (Bj h) (WT t)
abbrev KT (H:Hp):List (List Key×V)->List (List Key×Addr×Value)->Prop:=Paired fun p q=>p.1=q.1/\H q.2.1=some (.tup (p.1.map kV))/\RelV p.2 q.2.2
def KT.val {H:Hp}{kvs:List (List Key×V)}{xs:List (List Key×Addr×Value)}(r:KT H kvs xs)(k:List Key):kE (gG kvs k) ((atKey xs k).map (·.2)):=by
  induction r with
  |nil=>exact True.intro
  | @cons p q ps qs h t ih=>
    obtain⟨h1,_,h2⟩:=h
    by_cases e:p.1=k
    · have e':q.1=k:=h1.symm.trans e;have b:atKey (q::qs) k=some q.2:=by simp[atKey,xa6,e']
      rw[Mw e,b];exact h2
    · have e':¬ q.1=k:=fun z=>e (h1.trans z);have b:atKey (q::qs) k=atKey qs k:=by simp[atKey,xa6,e']
      rw[Mv e,b];exact ih
def KT.repl (r:KT H kvs xs)(k:List Key)(ry:RelV y u):
    KT H (kvs.map fun kv=>if kv.1=k then(kv.1,y) else kv) (xs.map (putAt k u)):=by
  induction r with
  |nil=>exact .nil
  | @cons p q ps qs h t ih=>
    rw[xak,xak];refine .cons ?_ ih;obtain⟨h1,h2,h3⟩:=h;unfold putAt
    by_cases e:p.1=k
    · rw[tG e,tG (h1.symm.trans e)];exact⟨h1,h2,ry⟩
    · rw[xab e,xab (fun z=>e (h1.trans z))];exact⟨h1,h2,h3⟩
def KT.put (r:KT H kvs xs)(k:List Key)(hb:H b=some (.tup (k.map kV)))(ry:RelV y u):
  KT H (putK kvs k y) (storedH xs k b u):=by
 have e:(kvs.any fun kv=>decide (kv.1=k))=(atKey xs k).isSome:=by
  rw[zbC,(r.val k).isSome_eq,xeM]
 unfold putK storedH;rw[e]
 by_cases q:(atKey xs k).isSome=true
 ·rw[tG q,tG q];exact r.repl k ry
 ·rw[xab q,xab q];exact Paired.snoc r ⟨rfl,hb,ry⟩
def KT.keeps (r:KT H kvs xs)(ht:∀b ys,H b=some (.tup ys)->H' b=some (.tup ys)):KT H' kvs xs:=
 Paired.mapP r fun _ _ z=>⟨z.1,ht _ _ z.2.1,z.2.2⟩
section
variable {P:Program}{w:World}{H:Hp}{h:Heap}{a:Addr}
def Zi (ok:gH P w H h)(e:Rd H a u):gj P w H h a u:=e.ok ok
def Jv (ok:gH P w H h)(e:Rd H a (.dK kvs)):kvs.length<=sizeLine/\(a==sysModules)=false/\∃vs,KV kvs vs/\h.DictOf (nH P w) a vs:=
 show gj P w H h a (.dK kvs) from Zi ok e
def zlx (ok:gH P w H h)(e:H a=some (.dK kvs)):kvs.length<=sizeLine/\(a==sysModules)=false/\∃vs,KV kvs vs/\h.DictOf (nH P w) a vs:=Jv ok (.inl e)
def JM (ok:gH P w H h)(e:H a=some (.tup (ks.map kV))):(tupleKind (nH P w)).is h ks a:=by
 obtain⟨_,its,r,o,h1,h2,n,h3⟩:=(show gj P w H h a (.tup (ks.map kV)) from ok a _ e);exact⟨o,its.toArray,n,h1,h2,h3,by simpa using WT r⟩
def Jw (ok:gH P w H h)(e:Rd H a (.dT kvs)):kvs.length<=sizeLine/\(a==sysModules)=false/\
    ∃xs,KT H kvs xs/\h.DictOfH (tupleKind (nH P w)) a xs:=by
  obtain⟨z,y,xs,r,o,es,ep,h1,h2,h3,h4,h5⟩:=(show gj P w H h a (.dT kvs) from Zi ok e);refine⟨z,y,xs,r,o,es,ep,h1,h2,h3,h4,fun x hx=>?_,h5⟩;have all:∀{l:List (List Key×V)} {m:List (List Key×Addr×Value)},KT H l m->∀x∈m,(tupleKind (nH P w)).is h x.1 x.2.1:=by
    intro l m q
    induction q with
    |nil=>intro x hx;exact nomatch hx
    | @cons p q ps qs hq t ih=>
      intro x hx;rcases xaq.mp hx with e |hx
      · subst e;exact JM ok (by rw[<-hq.1];exact hq.2.1)
      · exact ih x hx
  exact all r x hx
def zjq (ok:gH P w H h)(e:H a=some (.dT kvs)):kvs.length<=sizeLine/\(a==sysModules)=false/\
  ∃xs,KT H kvs xs/\h.DictOfH (tupleKind (nH P w)) a xs:=Jw ok (.inl e)
end
def lY (H:Hp)(a:Addr)(y:V)(r:Option V):Prop:=
 (∃kvs k,Rd H a (.dK kvs)/\y=kV k/\r=gG kvs k)\/∃kvs k b,Rd H a (.dT kvs)/\y=.ref b/\H b=some (.tup (k.map kV))/\r=gG kvs k
def wA (H:Hp)(a:Addr)(y v:V)(H':Hp):Prop:=
 (∃kvs k,H a=some (.dK kvs)/\y=kV k/\kvs.length<sizeLine/\H'=upd H a (.dK (putK kvs k v)))\/
 ∃kvs k b,H a=some (.dT kvs)/\y=.ref b/\H b=some (.tup (k.map kV))/\kvs.length<sizeLine/\H'=upd H a (.dT (putK kvs k v))
theorem lY.k {H:Hp}{a:Addr}{kvs:List (Key×V)}{k:Key}(e:H a=some (.dK kvs)):lY H a (kV k) (gG kvs k):=.inl ⟨kvs,k,.inl e,rfl,rfl⟩
theorem wA.k {H:Hp}{a:Addr}{kvs:List (Key×V)}{k:Key}{v:V}(e:H a=some (.dK kvs))(hl:kvs.length<sizeLine):wA H a (kV k) v (upd H a (.dK (putK kvs k v))):=.inl ⟨kvs,k,e,rfl,hl,rfl⟩
section
variable {X:Cx}{pins:Pnx}{σ:St}{H:Hp}{s:Shared}{a:Addr}{y v:V}{u r:Value}{o:Option V}{A:Around}{E:Value->Shared->Prop}
def Inv.big (I:Inv X pins σ H s):sysModules<s.heap.objs.size:=by
 have h:mainGlobals<s.heap.objs.size:=(I.mod.glob.keeps I.bk).lt;exact Nat.lt_trans (by decide) h
def Am {Q:Value->Shared->Prop}(hu:A.units + 1<cLine)(I:Inv X pins σ H s)(g:lY H a y o)(ry:RelV y u)(h:∀s',Inv X pins σ H s'->Q (.bool o.isSome) s'):
  wpAny (model X.prog X.w) A (compareOp .In u (.ref a)) Q E s:=by
 rcases g with⟨kvs,k,e,ey,l⟩ |⟨kvs,k,b,e,ey,eb,l⟩
 ·subst ey;obtain⟨z,hd,vs,rel,dd⟩:=Jv I.hok e;refine wpAny_in_of (Bj ry) hd dd.mapOf ?_;rw[<-(rel.val k).isSome_eq, <-l];exact h _ (I.tok _)
 ·subst ey;cases (show u=Value.ref b from ry);obtain⟨z,hd,xs,rel,dd⟩:=Jw I.hok e;refine wpAny_in_heap (xdw hu) (JM I.hok eb) hd dd ?_;have q:=(rel.val k).isSome_eq;rw[xeM]at q;rw[<-q, <-l];exact h _ (I.tok _)
def VG (I:Inv X pins σ H s)(mu:D_ (H a))(hs:Heap.SameBut a s.heap h')(he:∃q,h'.get? a=some q)(new:gj X.prog X.w (upd H a ob) h' a ob):
  Inv X pins σ (upd H a ob) {s with heap:=h',toks:=t'}:=
 I.write (x:=a) (e:=a) mu (.inl rfl) (fun b q hb z=>(hs.2 b hb).trans z) he new
def zha (z:kvs.length<=sizeLine)(hd:(a==sysModules)=false)(rel:KV kvs vs)(dd:h'.DictOf (nH P w) a vs):
  gj P w H' h' a (.dK kvs):=⟨z,hd,vs,rel,dd⟩
def zcx (hu:A.units + 1<cLine)(I:Inv X pins σ H s)(g:wA H a y v H')(ry:RelV y u)(rv:RelV v r)(h:∀s',Inv X pins σ H' s'->Q () s'):
  wpAny (model X.prog X.w) A (setItem (.ref a) u r) Q E s:=by
 rcases g with⟨kvs,k,e,ey,l,eH⟩ |⟨kvs,k,b,e,ey,eb,l,eH⟩
 ·subst ey eH;obtain⟨z,hd,vs,rel,dd⟩:=zlx I.hok e;have hz:vs.length<=sizeLine:=by rw[<-rel.length];exact z
  have hl:(putK kvs k v).length<=sizeLine:=by have:=Xe kvs k v;omega
  refine wpAny_setItem_pairs (hsz:=hz) (Bj ry) dd fun h' dd' hs=>h _ ?_;have he:∃q,h'.get? a=some q:=let ⟨q,_,_,hq,_⟩:=dd';⟨q,hq⟩
  exact VG I (by rw[e];exact True.intro) hs he (zha hl hd (rel.put k rv) dd')
 ·subst ey eH;cases (show u=Value.ref b from ry);obtain⟨z,hd,xs,rel,dd⟩:=zjq I.hok e;have hz:xs.length<=sizeLine:=by rw[<-xdA rel];exact z
  have hl:(putK kvs k v).length<=sizeLine:=by have:=Xe kvs k v;omega
  refine wpAny_setItem_heap (hsz:=hz) (xdw hu) (JM I.hok eb) dd fun h' dd' hs=>h _ ?_;obtain⟨q,es,ep,hq,h2,h3,h4,_,h5⟩:=dd';refine VG I (by rw[e];exact True.intro) hs ⟨q,hq⟩ ⟨hl,hd,_,(rel.put k eb rv).keeps fun c ys ec=>?_,q,es,ep,hq,h2,h3,h4,h5⟩;rw[aZ (zkH ec e (fun z=>nomatch z))]
  exact ec
end
def Ea (i:Expr):Prop:=∀ov iv,subscripted i false ov iv=operate [ov,iv] (getItem ov iv)
def zfo {prog:Program}{w:World}{A:Around}{E:Value->Shared->Prop}{s:Shared}{env:Env}{value slice:Expr}{pos:Pos}{T id:String}{Q:Value->Shared->Prop}
  (hl:typeLookup (.type T) "__getitem__"=pure (some (.builtin id))) (hs:Ea slice)
  (h:wpAny (model prog w) A (eval value env) (fun o s₁=>wpAny (model prog w) A (eval slice env) (fun i s₂=>s₂.TypeIs o T/\wpAny (model prog w) A (getItem o i) Q E s₂) E s₁) E s):
  wpAny (model prog w) A (eval (.Subscript value slice pos) env) Q E s:=by
 refine Subscript_ (xa3 h (fun o s₁ h₁=>xa3 h₁ (fun i s₂ h₂=>?_) fun _ _ x=>x) fun _ _ x=>x);obtain⟨hT,h₂⟩:=h₂;unfold subscriptTail;refine xaa ?_;rw[getitemInPython_of_ne hT.not_modules];refine xaa (xda hT hl ?_);have fin:wpAny (model prog w) A (subscripted slice false o i) (fun r s₃=>wpAny (model prog w) A (letTemporaryGo value o r >>=fun _=>pure r) Q E s₃) E s₂:=by
  rw[hs o i];exact wpAny_operating (xa3 h₂ (fun r s₃ h₃=>xaa (wpAny_letTemporaryGo (xaj h₃))) fun _ _ x=>x)
 first
  |exact xaj (xaa fin)
  |exact xaa (xaj (xaa fin))
  |exact xaa fin
noncomputable def Ii (ty td:TE):TE:=fun σ H Q=>ty σ H fun y H1=>td σ H1 fun x H2=>∃a o,x=.ref a/\lY H2 a y o/\Q (.bl o.isSome) H2
noncomputable def zfb (ty td:TE):TE:=fun σ H Q=>ty σ H fun y H1=>td σ H1 fun x H2=>∃a o,x=.ref a/\lY H2 a y o/\Q (.bl (!o.isSome)) H2
noncomputable def zku (td ty tv:TE):TS:=fun D σ H=>tv σ H fun v H1=>td σ H1 fun x H2=>ty σ H2 fun y H3=>∃a H4,x=.ref a/\wA H3 a y v H4/\D.nx σ H4
section
variable {X:Cx}{o i e value:Expr}{pos pos' tpos:Pos}{td ty tv:TE}
def zic (hu:X.A.units + 1<cLine)(hi:PE X i ty)(ho:PE X o td):PC X .In i o (Ii ty td):=by
 intro pins s σ H Q I h;refine aQ (hi pins s σ H _ I h) fun iv s1 ⟨y,H1,I1,ry,q1⟩=>aQ (ho pins s1 σ H1 _ I1 q1) fun u s2 ⟨x,H2,I2,rx,a,ov,ex,g,q2⟩=>?_;subst ex;obtain rfl:u=Value.ref a:=rx;exact Am hu I2 g ry fun s3 I3=>⟨.bl ov.isSome,H2,I3,rfl,q2⟩
def zeU (hu:X.A.units + 1<cLine)(ho:PE X o td)(hi:PE X i ty)(hv:PE X value tv)(hs:swapsWith value (some (.Subscript o i pos')) pos.line X.env=pure false):
  PS X (.Assign [.Subscript o i pos'] value pos) (zku td ty tv):=by
 intro pins s σ H D I h;refine wpAny_Assign_Subscript (aQ (hv pins s σ H _ I h) fun r s1 ⟨v,H1,I1,rv,q1⟩=>aQ (ho pins s1 σ H1 _ I1 q1) fun u s2 ⟨x,H2,I2,rx,q2⟩=>aQ (hi pins s2 σ H2 _ I2 q2) fun iv s3 ⟨y,H3,I3,ry,a,H4,ex,g,q3⟩=>?_) hs;subst ex;obtain rfl:u=Value.ref a:=rx;exact zcx hu I3 g ry rv fun s4 I4=>⟨σ,H4,I4,q3⟩
end
def zds (h:Heap)(hb:sysModules<h.objs.size):gj P w H (h.push {cls:=.type "dict",data:=.dict #[]}) h.objs.size (.dK []):=
 ⟨xbL _,xbj.mpr (xbA (xaR hb)),[],.nil,Heap.DictOf.new h⟩
def ziO:TE:=fun _ H Q=>∀p,H p=none->Q (.ref p) (upd H p (.dK []))
section
variable {X:Cx}{pos:Pos}
def zdl:PE X (.Dict [] [] pos) ziO:=fun pins s σ H Q I h=>
 wpAny_Dict_empty ⟨.ref s.heap.objs.size,_,I.laid (a:=s.heap.objs.size) (o:=.dK []) (t':=s.toks) (fun _ _ q=>xaf _ q) (xad _) (zds s.heap I.big),rfl,h _ (I.hok.fresh (xad _))⟩
end
structure M1 (X:Cx)(o:Expr)(m:Str)(apos:Pos)(e:Expr)(cpos:Pos):Prop where
 base:attributeBase o m X.env (eval o X.env)=eval o X.env
 few : ((backTo cpos (starEach [e] X.env)).all (fun x=> !x.1) && (backToKw cpos (keywordEach [] X.env)).all (fun x=>x.1.isSome)
  && decide (([e]:List Expr).length + ([]:List Keyword).length + (if ([]:List Keyword).isEmpty then 0 else 1)<30))=true
 line:(apos.endLine==cpos.line)=true
 trees:backTo cpos (starEach [e] X.env)=[(false,eval e X.env)]
structure M2 (X:Cx)(o:Expr)(m:Str)(apos:Pos)(e f:Expr)(cpos:Pos):Prop where
 base:attributeBase o m X.env (eval o X.env)=eval o X.env
 few : ((backTo cpos (starEach [e,f] X.env)).all (fun x=> !x.1) && (backToKw cpos (keywordEach [] X.env)).all (fun x=>x.1.isSome)
  && decide (([e,f]:List Expr).length + ([]:List Keyword).length + (if ([]:List Keyword).isEmpty then 0 else 1)<30))=true
 line:(apos.endLine==cpos.line)=true
 trees:backTo cpos (starEach [e,f] X.env)=[(false,eval e X.env),(false,eval f X.env)]
def UG (H:Hp)(a:Addr):Prop:=(∃kvs,Rd H a (.dK kvs))\/∃kvs,Rd H a (.dT kvs)
def zgP (I:Inv X pins σ H s)(d:UG H a):
  s.TypeIs (.ref a) "dict"/\(∀b,Value.ref a=.ref b->∃ob,s.heap.get? b=some ob/\ob.dict=none)/\(a==sysModules)=false:=by
 rcases d with⟨kvs,e⟩ |⟨kvs,e⟩
 ·obtain⟨_,hd,vs,_,dd⟩:=Jv I.hok e;refine⟨dd.typeIs,fun b q=>?_,hd⟩;cases q;obtain⟨ob,_,_,h1,h2,_⟩:=dd;exact⟨ob,h1,h2.2.1⟩
 ·obtain⟨_,hd,xs,_,dd⟩:=Jw I.hok e;refine⟨dd.typeIs,fun b q=>?_,hd⟩;cases q;obtain⟨ob,_,_,h1,h2,_⟩:=dd;exact⟨ob,h1,h2.2.1⟩
section
variable {X:Cx}{pins:Pnx}{σ:St}{H:Hp}{s:Shared}{a:Addr}{y d:V}{u r:Value}{o:Option V}{A:Around}{E:Value->Shared->Prop}
def zgo (hu:A.units + 1<cLine)(I:Inv X pins σ H s)(g:lY H a y o)(ry:RelV y u)(rd:RelV d r)(h:∀w' s',Inv X pins σ H s'->RelV (o.getD d) w'->Q w' s'):
  wpAny (model X.prog X.w) A (call (.builtin "dict.get") [.ref a,u,r]) Q E s:=by
 rcases g with⟨kvs,k,e,ey,l⟩ |⟨kvs,k,b,e,ey,eb,l⟩
 ·subst ey;obtain⟨z,hd,vs,rel,dd⟩:=Jv I.hok e;refine call_meetsIn xcY dd.typeIs xec (xd6 _ _ _) (meets_dict_get_default (nH X.prog X.w) a (Bj ry) hd r) ⟨_,dd.mapOf,h _ _ (I.tok _) ?_⟩;rw[l];exact(rel.val k).getD rd
 ·subst ey;cases (show u=Value.ref b from ry);obtain⟨z,hd,xs,rel,dd⟩:=Jw I.hok e;refine call_meetsIn xcY dd.typeIs xec (xd6 _ _ _) (meetsH_dict_get_default (tupleKind (nH X.prog X.w)) a b hd r) ⟨xdw hu,k,xs,JM I.hok eb,dd,h _ _ (I.tok _) ?_⟩;rw[l];exact(rel.val k).getD rd
end
noncomputable def zf0 (td ty tx:TE):TE:=fun σ H Q=>td σ H fun x H1=>∃a,x=.ref a/\UG H1 a/\ty σ H1 fun y H2=>tx σ H2 fun z H3=>∃o,lY H3 a y o/\Q (o.getD z) H3
section
variable {X:Cx}{o e f:Expr}{apos cpos:Pos}{td ty tx:TE}
def zdf (hu:X.A.units + 1<cLine)(ho:PE X o td)(he:PE X e ty)(hf:PE X f tx)(m:M2 X o "get" apos e f cpos):PE X (.Call (.Attribute o "get" apos) [e,f] [] cpos) (zf0 td ty tx):=by
 intro pins s σ H Q I h;refine wpAny_Call_method m.base m.few m.line PySem.F.plainAttrs_dict xcY PySem.F.type_dict_get (aQ (ho pins s σ H _ I h) fun u s1 ⟨x, H1, I1, rx, a, ex, d, q1⟩ => ?_);subst ex;obtain rfl : u = Value.ref a := rx;obtain ⟨t1, t2, _⟩ := zgP I1 d;refine ⟨t1, t2, ?_⟩;rw [m.trees];refine xbR rfl (xc9 (xbq (aQ (he pins s1 σ H1 _ I1 q1) fun iv s2 ⟨y,H2,I2,ry,q2⟩=>
  xbq (aQ (hf pins s2 σ H2 _ I2 q2) fun fv s3 ⟨z,H3,I3,rz,ov,g,q3⟩=>xdI ?_))))
 exact zgo hu I3 g ry rz fun w' s4 I4 rw'=>⟨_,H3,I4,rw',q3⟩
end
end L2
namespace Att
open PySem PySem.W PySem.Calls PyProof.Rows
end Att
namespace L2
open PySem PySem.Spec PyProof.Rows
noncomputable def Its (z:Str):It:=⟨fun i _=>i<z.cps.size,fun i H x H'=>H'=H/\∃c,z.cps[i]? =some c/\x=.str ⟨#[c]⟩,fun i _=>i=z.cps.size⟩
def zgH (hQ:Q () s):wpAny M A (letOwnedTupleGo tg (.ref it) (.str x t)) Q E s:=by
 unfold letOwnedTupleGo;cases tg<;>exact xaj hQ
def zby {P:Program}{w:World}{K:Fgx}{tg:Expr}{ty:String}{z:Str}{t:Tok}{it:Addr}
  (W:∀A:Around,A.handled=none->Walks P w A it [it] [it] z.cps.size (SignAt z) (fun i h=>h.IsStrIter it ty z t i))
  (hself:∀(A:Around) (i:Nat) (s:Shared) (Q:Value->Shared->Prop) (E:Value->Shared->Prop),s.heap.IsStrIter it ty z t i->Q (.ref it) s->wpAny (model P w) A (pyIter (.ref it)) Q E s):
  Turn P w K tg (Its z) [it] it (fun i h=>h.IsStrIter it ty z t i) where
 mem:=by simp
 obj:=fun i h st b hb=>by
  have e:b=it:=by simpa using hb
  subst e;obtain⟨o,e,c,d⟩:=st;exact⟨o,e,fun v z=>by rw[d]at z;cases z⟩
 keep:=fun i h h' st k=>by
  obtain⟨o,e,c,d⟩:=st;exact⟨o,k it (by simp) o e,c,d⟩
 item:=by
  intro X hP hw hK hc i pins s σ H E I hf st hg;subst hP hw hK;obtain⟨f0,f1,f2,f3,f4,f5⟩:=hf it (by simp);refine(W X.A (I.ok.hd hc)).item i s _ _ hg st fun v h' tk hv st' kk=>?_;obtain⟨c,u,hcc,rfl⟩:=hv;have I1:Inv X pins σ H {s with heap:=h',toks:=tk}:=I.turned (fun b o hb e=>kk b o (by simpa using hb) e) f0 f1 f3 f4 f5;exact⟨_,rfl,zgH ⟨.str ⟨#[c]⟩,H,I1,⟨_,rfl⟩,⟨rfl,c,hcc,rfl⟩,st',fun b hb=>(hf b hb).1⟩⟩
 done:=by
  intro X hP hw hK hc i pins s σ H E I hf st hg;subst hP hw hK;have hg':i=z.cps.size:=hg;subst hg';obtain⟨f0,f1,f2,f3,f4,f5⟩:=hf it (by simp);exact(W X.A (I.ok.hd hc)).done s _ _ st fun h' tk kk=>⟨rfl,I.turned (fun b o hb e=>kk b o (by simpa using hb) e) f0 f1 f3 f4 f5⟩
 self:=fun A i s Q E st q=>hself A i s Q E st q
section
variable {X:Cx}{tg:Expr}
def P_ (tl:TE):TI:=fun σ H R=>tl σ H fun x H1=>∃z,x=.str z/\R (Its z) H1
def zgK {l:Expr}{tl:TE}(hl:PE X l tl):PI X tg l (P_ tl):=by
 intro pins s σ H R I h;refine aQ (hl pins s σ H _ I h) fun v s1 ⟨x,H1,I1,r1,q1⟩=>?_;obtain⟨z,e,q⟩:=q1;subst e;obtain⟨t,e⟩:=r1;subst e;have fp:∀b∈ [s1.heap.objs.size],lC X pins H1 b:=fun b hb=>by
  have e:b=s1.heap.objs.size:=by simpa using hb
  subst e;exact I1.fpOk (xad _) (I1.hok.fresh (xad _))
 cases ha:z.cps.all (· <128)
 ·refine wpAny_pyIter_wide ha ?_;exact ⟨s1.heap.objs.size,[s1.heap.objs.size],_,_,H1,rfl,I1.kept (t':=s1.toks) fun b o e=>xaf _ e,
   zby (ty:="str_iterator") (z:=z) (t:=t) (fun A hA=>Walks.strWide hA _ z t) (fun _ _ _ _ _ st q=>wpAny_pyIter_striter_wide st q),⟨_,xaJ _ rfl,rfl,rfl⟩,fp,q⟩
 ·refine wpAny_pyIter_ascii ha ?_;exact ⟨s1.heap.objs.size,[s1.heap.objs.size],_,_,H1,rfl,I1.kept (t':=s1.toks) fun b o e=>xaf _ e,
   zby (ty:="str_ascii_iterator") (z:=z) (t:=t) (fun A hA=>Walks.strAscii hA _ z t) (fun _ _ _ _ _ st q=>wpAny_pyIter_striter_ascii st q),⟨_,xaJ _ rfl,rfl,rfl⟩,fp,q⟩
end
def zb0:∀{us:List Value},Vals (ys.map V.str) us->StrsAre us ys:=by
  induction ys with
  |nil=>intro us r;rw[xcI]at r;cases r;exact .nil
  |cons n ns ih=>
    intro us r;rw[xak]at r
    cases r with
    |cons r1 r2=>
      obtain⟨t,e⟩:=r1;subst e;exact .cons n t (ih r2)
section
variable {X:Cx}
def rJoin (K:Fgx):V->List V->Hp->VK->Prop:=fun x vs H Q=>∃z l ys,x=.str z/\vs=[.ref l]/\fW K H l (ys.map V.str)/\z.length<=16/\(ys.map (·.length)).sum + ys.length<=1048576/\Q (.str (Txt.join z ys)) H
def Bm:Ae X "str.join" (rJoin X.K):=by
 intro pins s σ H x vs v us Q I rx rv h;obtain⟨z,l,ys,rfl,rfl,hq,h1,h2,q⟩:=h;obtain⟨t,rfl⟩:=rx;obtain⟨u,rfl,ru⟩:=rv.one;cases ru;obtain⟨its,r,pl,hz⟩:=I.list hq;exact join_listW pl.isList (by simpa using zb0 r) h1 h2 fun t' k=>⟨.str _,H,I.tok _,⟨_,rfl⟩,q⟩
def RG:V->Option Int->Option Int->Hp->VK->Prop:=fun x lo hi H Q=>∃z,x=.str z/\z.length<=sizeLine/\Q (.str (Txt.slice z lo hi)) H
def zfY:zH X RG:=by
 intro pins s σ H x v vl vu lo hi sl Q I rx hs pl pu h;obtain⟨z,rfl,hz,q⟩:=h;obtain⟨t,rfl⟩:=rx;refine⟨"str",_,F.slot_str_getitem.lookup,xcN _ _ _,?_⟩;obtain⟨o,ho,hc,hd⟩:=hs;cases pl<;>cases pu
 ·exact xcd (l:=none) (u:=none) (st:=none) ⟨o,ho,hc,hd⟩ rfl (xdb ⟨xau (xdU z none none) hz,fun t' k=>⟨.str _,H,I.tok _,⟨_,rfl⟩,q⟩⟩)
 ·rename_i j uj;exact xcd (l:=none) (u:=some (j,uj)) (st:=none) ⟨o,ho,hc,hd⟩ rfl (xdb ⟨xau (xdU z none (some j)) hz,fun t' k=>⟨.str _,H,I.tok _,⟨_,rfl⟩,q⟩⟩)
 ·rename_i i ui;exact xcd (l:=some (i,ui)) (u:=none) (st:=none) ⟨o,ho,hc,hd⟩ rfl (xdb ⟨xau (xdU z (some i) none) hz,fun t' k=>⟨.str _,H,I.tok _,⟨_,rfl⟩,q⟩⟩)
 ·rename_i i ui j uj;exact xcd (l:=some (i,ui)) (u:=some (j,uj)) (st:=none) ⟨o,ho,hc,hd⟩ rfl (xdb ⟨xau (xdU z (some i) (some j)) hz,fun t' k=>⟨.str _,H,I.tok _,⟨_,rfl⟩,q⟩⟩)
def zin:fU X (compareOp .Is) (fun x y H Q=>∃b,y=.bl b/\Q (.bl (decide (x=.bl b))) H):=by
 intro pins s σ H x y v u Q I rx ry h;obtain⟨b,rfl,q⟩:=h;cases ry
 cases x with
 |bl c=>cases rx;exact xaj (fG I q (by cases b<;>cases c<;>rfl))
 |non=>cases rx;exact xaj (fG I q (by simp))
 |int _=>obtain⟨t,rfl⟩:=rx;exact xaj (fG I q (by simp))
 |str _=>obtain⟨t,rfl⟩:=rx;exact xaj (fG I q (by simp))
 |byt _=>obtain⟨t,rfl⟩:=rx;exact xaj (fG I q (by simp))
 |flt _=>obtain⟨t,rfl⟩:=rx;exact xaj (fG I q (by simp))
 |ref _=>cases rx;exact xaj (fG I q (by simp))
 |ty _=>cases rx;exact xaj (fG I q (by simp))
def zcL:fU X (compareOp .IsNot) (fun x y H Q=>∃b,y=.bl b/\Q (.bl (!decide (x=.bl b))) H):=by
 intro pins s σ H x y v u Q I rx ry h;obtain⟨b,rfl,q⟩:=h;cases ry
 cases x with
 |bl c=>cases rx;exact xaj (fG I q (by cases b<;>cases c<;>rfl))
 |non=>cases rx;exact xaj (fG I q (by simp))
 |int _=>obtain⟨t,rfl⟩:=rx;exact xaj (fG I q (by simp))
 |str _=>obtain⟨t,rfl⟩:=rx;exact xaj (fG I q (by simp))
 |byt _=>obtain⟨t,rfl⟩:=rx;exact xaj (fG I q (by simp))
 |flt _=>obtain⟨t,rfl⟩:=rx;exact xaj (fG I q (by simp))
 |ref _=>cases rx;exact xaj (fG I q (by simp))
 |ty _=>cases rx;exact xaj (fG I q (by simp))
def range_all (bs:List Bool):(List.range bs.length).all (fun i=>(bs[i]?).getD false)=bs.all id:=by
 rw[xaQ,xaO,xaO]
 constructor
 ·intro h b hb;obtain⟨i,hi,e⟩:=xbC.mp hb;have:=h i (xbz.mpr hi);rw[xah hi,e]at this;exact this
 ·intro h i hi;have hi':=xbz.mp hi;rw[xah hi'];exact h _ (xa7 hi')
def range_any (bs:List Bool):(List.range bs.length).any (fun i=>(bs[i]?).getD false)=bs.any id:=by
 rw[xaQ,List.any_eq_true,List.any_eq_true]
 constructor
 ·rintro⟨i,hi,h⟩;have hi':=xbz.mp hi;rw[xah hi']at h;exact⟨_,xa7 hi',h⟩
 ·rintro⟨b,hb,h⟩;obtain⟨i,hi,e⟩:=xbC.mp hb;refine⟨i,xbz.mpr hi,?_⟩;rw[xah hi,e];exact h
def Vh {bs:List Bool}{its:List Value}(r:Vals (bs.map V.bl) its){i:Nat}{v:Value}(h:its.toArray[i]? =some v):v=.bool ((bs[i]?).getD false):=by
 have h':its[i]? =some v:=by simpa using h
 have hl:=r.length;rw[xap]at hl;have hi:i<bs.length:=by
  have:=(xag.mp h').1;omega
 have hx:(bs.map V.bl)[i]? =some (V.bl bs[i]):=by rw[xax,xah hi];rfl
 obtain⟨u,hu,ru⟩:=r.get hx;rw[h']at hu;cases hu;rw[xah hi];exact ru
def Ow (hc:X.calm=true):lW X (.builtin "all") (fun xs H Q=>∃(p:Addr) (bs:List Bool),xs=[.ref p]/\fW X.K H p (bs.map V.bl)/\Q (.bl (bs.all id)) H):=by
 intro pins s σ H xs us Q I r h;obtain⟨p,bs,rfl,hq,q⟩:=h;obtain⟨u,rfl,ru⟩:=vals1 r;cases ru;obtain⟨its,rv,pl,hz⟩:=I.list hq;have hp:p<s.heap.objs.size:=by obtain⟨o,ho,_⟩:=pl.isList;exact xar ho
 have hn:its.toArray.size=bs.length:=by rw[xai, <-rv.length,xap]
 refine call_all_walk (xdF pl.isList ⟨s.heap.objs.size,_,_,its.toArray.size,_,_,fun i=>(bs[i]?).getD false,rfl,Walks.list (A:=X.A.in1) (show X.A.in1.handled=none from I.ok.hd hc) _ p (xaR hp) its.toArray,
  ⟨⟨_,xaJ _ rfl,rfl,rfl⟩,pl.isList.at fun o e=>xaf _ e⟩,fun i v s' Q' E' hv hQ=>?_,fun h' tk kk=>?_⟩)
 ·rw[Vh rv hv];exact xbk hQ
 ·rw[hn,range_all];refine⟨.bl _,H,I.kept fun b o e=>kk b o ?_ (xaf _ e),rfl,q⟩;intro z;have z':b=s.heap.objs.size:=by simpa using z
  exact xbE _ (z' ▸ xar e)
def zdE (hc:X.calm=true):lW X (.builtin "any") (fun xs H Q=>∃(p:Addr) (bs:List Bool),xs=[.ref p]/\fW X.K H p (bs.map V.bl)/\Q (.bl (bs.any id)) H):=by
 intro pins s σ H xs us Q I r h;obtain⟨p,bs,rfl,hq,q⟩:=h;obtain⟨u,rfl,ru⟩:=vals1 r;cases ru;obtain⟨its,rv,pl,hz⟩:=I.list hq;have hp:p<s.heap.objs.size:=by obtain⟨o,ho,_⟩:=pl.isList;exact xar ho
 have hn:its.toArray.size=bs.length:=by rw[xai, <-rv.length,xap]
 refine call_any_walk (xdF pl.isList ⟨s.heap.objs.size,_,_,its.toArray.size,_,_,fun i=>(bs[i]?).getD false,rfl,Walks.list (A:=X.A.in1) (show X.A.in1.handled=none from I.ok.hd hc) _ p (xaR hp) its.toArray,
  ⟨⟨_,xaJ _ rfl,rfl,rfl⟩,pl.isList.at fun o e=>xaf _ e⟩,fun i v s' Q' E' hv hQ=>?_,fun h' tk kk=>?_⟩)
 ·rw[Vh rv hv];exact xbk hQ
 ·rw[hn,range_any];refine⟨.bl _,H,I.kept fun b o e=>kk b o ?_ (xaf _ e),rfl,q⟩;intro z;have z':b=s.heap.objs.size:=by simpa using z
  exact xbE _ (z' ▸ xar e)
end
section
variable {X:Cx}{pins:Pnx}{σ:St}{H:Hp}{s:Shared}
noncomputable def GR (base h:Heap) (L:Addr):Pnx:=(List.range h.objs.size).filterMap fun b=>if b=L then none else if (base.get? b).isSome then none else(h.get? b).map fun o=>(b,o)
def Xp (hL:b≠L)(hb:base.get? b=none)(e:h.get? b=some o):(b,o)∈GR base h L:=by
 unfold GR;rw[xch];refine⟨b,xbz.mpr (xar e),?_⟩;rw[xab hL,hb,e]
 simp
def zaV (hp:p∈GR base h L):h.get? p.1=some p.2/\p.1≠L/\base.get? p.1=none:=by
  unfold GR at hp;rw[xch]at hp;obtain⟨b,_,e⟩:=hp
  by_cases hL:b=L
  · rw[tG hL]at e;cases e
  · rw[xab hL]at e
    cases hb:base.get? b with
    |some u=>rw[hb]at e;simp at e
    |none=>
      rw[hb]at e
      cases hh:h.get? b with
      |none=>rw[hh]at e;simp at e
      |some u=>
        rw[hh]at e
        simp at e
        subst e;exact⟨hh,hL,hb⟩
def Inv.but (I:Inv X pins σ H s)(k:∀b o,b≠X.env.locals->s.heap.get? b=some o->h'.get? b=some o)(ns:∀m,s.heap.Ns X.env.locals m->h'.Ns X.env.locals m):Inv X pins σ H {s with heap:=h',toks:=tk}:=by
 have hok : gH X.prog X.w H h' := fun a o e => (I.hok a o e).stay (fun b u hb q => k b u (fun z=>by
  subst z;have hn:=I.free;rcases hb with hb |hb
  ·rw[<-hb]at e;rw[hn]at e;cases e
  ·rw[hn]at hb;cases hb) q) (fun _ q=>q) fun _ _ q=>q
 exact I.step (g' := s.gens) (d' := s.drawn) (ch := []) (fun _ z => nomatch z) (fun b o hL _ _ e _ => k b o hL e) (fun b o hL _ _ e _ => ⟨o.slots, k b o hL e⟩) (fun b o _ _ n => n) (fun b o _ e=>by
  by_cases hL:b=X.env.locals
  ·subst hL;obtain⟨m,hn,_⟩:=I.loc;obtain⟨o',_,_,e',_⟩:=ns m hn;exact⟨o',e'⟩
  ·exact⟨o,k b o hL e⟩) (fun _ _ q=>q) (fun _ _ _ q=>q) (fun _ ps q=>⟨#[],by simpa using q⟩) ns hok I.bare
def Inv.via (I:Inv X pins σ H s):∃m news,Fr X.base X.env.locals s.heap m/\News X.base X.env.locals s.heap news/\
    (∀b o,b≠X.env.locals->X.base.get? b=none->s.heap.get? b=some o->(b,o)∈news)/\
    ∀(h':Heap) (tk:Nat),Fr X.base X.env.locals h' m->News X.base X.env.locals h' news->(∀b o,b≠X.env.locals->s.heap.get? b=some o->h'.get? b=some o)/\Inv X pins σ H {s with heap:=h',toks:=tk}:=by
  obtain⟨m,F⟩:=I.fr;refine⟨m,GR X.base s.heap X.env.locals,F,fun p hp=>zaV hp,fun b o hL hb e=>Xp hL hb e,fun h' tk F' N'=>?_⟩;have k:∀b o,b≠X.env.locals->s.heap.get? b=some o->h'.get? b=some o:=fun b o hL e=>by
    cases hb:X.base.get? b with
    |some u=>
      have e1:=I.bk b u hb;rw[e]at e1;cases e1;exact F'.keep b o hb
    |none=>exact(N' (b,o) (Xp hL hb e)).1
  refine⟨k,I.but k fun m' hm=>?_⟩;have:m'=m:=by
    obtain⟨o,es,ep,e,d,_,f⟩:=hm;obtain⟨o',es',ep',e',d',_,f'⟩:=F.ns;rw[e]at e';cases e';rw[d]at d';cases d';funext x;rw[<-f x, <-f' x]
  subst this;exact F'.ns
end
section
variable {X:Cx}{pins:Pnx}{σ:St}{H:Hp}{s:Shared}
def Inv.butD (I:Inv X pins σ H s)(k:∀b o,b≠X.env.locals->s.heap.get? b=some o->h'.get? b=some o)(ns:∀m,s.heap.Ns X.env.locals m->h'.Ns X.env.locals m)(ha:s.heap.get? a=none)(hn:H a=none)
  (new:gj X.prog X.w (upd H a o) h' a o):Inv X pins σ (upd H a o) {s with heap:=h',toks:=tk}:=by
 have hok:gH X.prog X.w (upd H a o) h':=fun b u e=>by
  by_cases hb:b=a
  ·subst hb;rw[gq]at e;cases e;exact new
  ·rw[aZ hb]at e;refine(I.hok b u e).stay (fun c v hc q=>k c v (fun z=>?_) q) (fun c q=>by rw[aZ (kh q hn)];exact q) fun c xs q=>by rw[aZ (kh q hn)];exact q
   subst z;have hf:=I.free;rcases hc with hc |hc
   ·rw[<-hc]at e;rw[hf]at e;cases e
   ·rw[hf]at hc;cases hc
 have neA:∀b o,s.heap.get? b=some o->b≠a:=fun b o e z=>by rw[z,ha]at e;cases e
 exact I.step (g' := s.gens) (d' := s.drawn) (ch := []) (fun _ z => nomatch z) (fun b o hL _ _ e _ => k b o hL e) (fun b o hL _ _ e _ => ⟨o.slots, k b o hL e⟩) (fun b o _ e n => by rw [aZ (neA b o e)]; exact n) (fun b o _ e=>by
  by_cases hL:b=X.env.locals
  ·subst hL;obtain⟨m,hn,_⟩:=I.loc;obtain⟨o',_,_,e',_⟩:=ns m hn;exact⟨o',e'⟩
  ·exact⟨o,k b o hL e⟩) (fun b xs q=>by rw[aZ (kh q hn)];exact q) (fun b u xs q=>by rw[aZ (kh q hn)];exact q) (fun b ps q=>⟨#[],by rw[aZ (kh q hn),q];simp⟩) ns hok I.bare
def zgh {h:Heap}{a:Addr}{m m':Mgx}(h1:h.Ns a m)(h2:h.Ns a m'):m'=m:=by
 obtain⟨o,es,ep,e,d,_,f⟩:=h2;obtain⟨o',es',ep',e',d',_,f'⟩:=h1;rw[e]at e';cases e';rw[d]at d';cases d';funext x;rw[<-f x, <-f' x]
theorem gj.get (x:gj P w H h a o):∃u,h.get? a=some u:=by
 cases o with
 |lst xs=>obtain⟨_,_,_,_,e⟩:=x;exact⟨_,e⟩
 |tup xs=>obtain⟨_,_,_,u,e,_⟩:=x;exact⟨_,e⟩
 |dK kvs=>obtain⟨_,_,_,_,o,_,_,e,_⟩:=x;exact⟨_,e⟩
 |dT kvs=>obtain⟨_,_,_,_,o,_,_,e,_⟩:=x;exact⟨_,e⟩
 |set S n=>obtain⟨o,_,_,_,e,_⟩:=x;exact⟨_,e⟩
 |ins C dx fs=>obtain⟨_,_,_,e,_⟩:=x;exact⟨_,e⟩
 |own y=>exact x
 |xd fs=>obtain⟨_,⟨_,_,_,e,_⟩,_⟩:=x;exact⟨_,e⟩
 |rng lo hi=>obtain⟨_,_,_,e⟩:=x;exact⟨_,e⟩
 |frz ob u=>obtain⟨e,_⟩:=x;exact⟨_,e⟩
 |tbl ps=>exact⟨_,x⟩
 |met f y=>exact⟨_,x⟩
 |ext φ=>obtain⟨_,e,_⟩:=x;exact e
def Inv.viaD (I:Inv X pins σ H s):∃m news,Fr X.base X.env.locals s.heap m/\News X.base X.env.locals s.heap news/\
    ∀(h':Heap) (tk:Nat) (D:Addr) (ob:Obj) (o:HO),Fr X.base X.env.locals h' m->News X.base X.env.locals h' ((D,ob)::news)->(∀p∈news,p.1<D)->(∀H',h'.get? D=some ob->gj X.prog X.w H' h' D o)->H D=none/\Inv X pins σ (upd H D o) {s with heap:=h',toks:=tk}:=by
  obtain⟨m,news,F,N,all,back⟩:=I.via;refine⟨m,news,F,N,fun h' tk D ob o F' N' lt new=>?_⟩;obtain⟨eD,neL,nb⟩:=N' (D,ob) xaD;have N0:News X.base X.env.locals h' news:=fun p hp=>N' p (xan _ hp);obtain⟨k,I'⟩:=back h' tk F' N0;have ha:s.heap.get? D=none:=by
    cases e:s.heap.get? D with
    |none=>rfl
    |some u=>exact absurd (lt _ (all D u neL nb e)) (xbE _)
  have hn:H D=none:=by
    cases e:H D with
    |none=>rfl
    |some u=>
      obtain⟨v,z⟩:=(I.hok D u e).get;rw[ha]at z;cases z
  exact⟨hn,I.butD k (fun m' hm=>by rw[zgh F.ns hm];exact F'.ns) ha hn (new _ eD)⟩
theorem zch:∀l:List (Str×Tok),Vals ((l.map (·.1)).map V.str) (strValues l)
 | []=>.nil
 |p::l=>.cons ⟨p.2,rfl⟩ (zch l)
def Y_:V->List V->Hp->VK->Prop:=fun x vs H Q=>∃z y,x=.str z/\vs=[.str y]/\(y.length==0)=false/\z.length + 2<=sizeLine/\∀l,H l=none->Q (.ref l) (upd H l (.lst ((Txt.split z y).map V.str)))
def JV:Ae X "str.split" Y_:=by
 intro pins s σ H x vs v us Q I rx rv h;obtain⟨z,y,rfl,rfl,h1,h2,q⟩:=h;obtain⟨t,rfl⟩:=rx;obtain⟨u,rfl,t',rfl⟩:=rv.one;obtain⟨m,news,F,N,fin⟩:=I.viaD;refine W.KSpl.split1 F N h1 (fun D l h' k e1 _ F' N' lt=>?_) h2;have hl:((l.map (·.1)).map V.str).length<=sizeLine:=by
  rw[xap,e1];exact xau (PyProof.Rows.split_le z y) h2
 obtain⟨hn,I'⟩:=fin h' k D _ (.lst ((l.map (·.1)).map V.str)) F' N' lt fun H' eD=>⟨hl,strValues l,0,zch l,eD⟩;rw[e1]at I';exact⟨.ref D,_,I',rfl,q D hn⟩
def Za:V->List V->Hp->VK->Prop:=fun x vs H Q=>∃z y,x=.str z/\vs=[.str y]/\Q (.bl (Txt.startswith z y)) H
def zcl:Ae X "str.startswith" Za:=by
 intro pins s σ H x vs v us Q I rx rv h;obtain⟨z,y,rfl,rfl,q⟩:=h;obtain⟨t,rfl⟩:=rx;obtain⟨u,rfl,t',rfl⟩:=rv.one;exact SC.startswith ⟨.bl _,H,I,rfl,q⟩
def Y9:V->List V->Hp->VK->Prop:=fun x vs H Q=>∃z y,x=.str z/\vs=[.str y]/\z.length<=sizeLine/\Q (.str (Txt.lstripChars z y)) H
def zcw:Ae X "str.lstrip" Y9:=by
 intro pins s σ H x vs v us Q I rx rv h;obtain⟨z,y,rfl,rfl,hz,q⟩:=h;obtain⟨t,rfl⟩:=rx;obtain⟨u,rfl,t',rfl⟩:=rv.one;exact SC.lstripChars (fun t' k=>⟨.str _,H,I.tok _,⟨_,rfl⟩,q⟩) hz
def Jo:lW X (.type "int") (fun xs H Q=>∃z n,xs=[.str z]/\intText? z=some n/\z.length<=640/\Q (.int n) H):=by
 intro pins s σ H xs us Q I r h;obtain⟨z,n,rfl,h1,h2,q⟩:=h;obtain⟨u,rfl,t,rfl⟩:=vals1 r;exact W.KIN.call_text h1 h2 ⟨.int n,H,I.tok _,⟨_,rfl⟩,q⟩
end
section
variable {X:Cx}{pins:Pnx}{σ:St}{H:Hp}{s:Shared}{h':Heap}
def Inv.turnedL {t':Nat}{fp:List Addr}(I:Inv X pins σ H s)(k:∀b o,b∉fp->s.heap.get? b=some o->h'.get? b=some o)(hf:∀b∈fp,lC X pins H b):Inv X pins σ H {s with heap:=h',toks:=t'}:=by
 refine I.step (g':=s.gens) (d':=s.drawn) (ch:=fp) (fun b hb=>⟨(hf b hb).2.2.2.1,(hf b hb).2.1,(hf b hb).2.2.2.2.1,(hf b hb).2.2.2.2.2⟩) (fun b o _ _ hc e _=>k b o hc e) (fun b o _ _ hc e _=>⟨o.slots,k b o hc e⟩) (fun _ _ _ _ n=>n)
  (fun b o hc e=>⟨o,k b o hc e⟩) (fun _ _ e=>e) (fun _ _ _ e=>e) (fun b ps e=>⟨#[],by rw[e];simp⟩) (fun m hm=>?_) (fun b u e=>?_) I.bare
 ·obtain⟨o,es,ep,ho,r⟩:=hm;exact⟨o,es,ep,k _ o (fun z=>(hf _ z).2.1 rfl) ho,r⟩
 ·refine(I.hok b u e).stay (fun c v hc q=>k c v (fun z=>?_) q) (fun _ q=>q) fun _ _ q=>q;have hn:=(hf c z).1;rcases hc with y |y
  ·rw[y,e]at hn;cases hn
  ·rw[y]at hn;cases hn
def Inv.turnLaid {t':Nat}{fp:List Addr}{T:Addr}{o:HO}(I:Inv X pins σ H s)(k:∀b u,b∉fp->s.heap.get? b=some u->h'.get? b=some u)(hf:∀b∈fp,lC X pins H b)(hp:s.heap.objs.size<=T)(new:gj X.prog X.w (upd H T o) h' T o):
  Inv X pins σ (upd H T o) {s with heap:=h',toks:=t'}:=by
 have hn:H T=none:=I.hok.fresh hp;have neT:∀b u,s.heap.get? b=some u->b≠T:=fun b u e=>xaR (xao (xar e) hp);refine I.step (g':=s.gens) (d':=s.drawn) (ch:=fp) (fun b hb=>⟨(hf b hb).2.2.2.1,(hf b hb).2.1,(hf b hb).2.2.2.2.1,(hf b hb).2.2.2.2.2⟩) (fun b o _ _ hc e _=>k b o hc e) (fun b o _ _ hc e _=>⟨o.slots,k b o hc e⟩) (fun b u _ e n=>by rw[aZ (neT b u e)];exact n)
  (fun b o hc e=>⟨o,k b o hc e⟩) (fun b xs e=>by rw[aZ (kh e hn)];exact e) (fun b u xs e=>by rw[aZ (kh e hn)];exact e) (fun b ps e=>⟨#[],by rw[aZ (kh e hn),e];simp⟩) (fun m hm=>?_) (fun b u e=>?_) I.bare
 ·obtain⟨o,es,ep,ho,r⟩:=hm;exact⟨o,es,ep,k _ o (fun z=>(hf _ z).2.1 rfl) ho,r⟩
 ·by_cases hb:b=T
  ·subst hb;rw[gq]at e;cases e;exact new
  ·rw[aZ hb]at e;refine(I.hok b u e).stay (fun c v hc q=>k c v (fun z=>?_) q) (fun c q=>by rw[aZ (kh q hn)];exact q) fun c xs q=>by rw[aZ (kh q hn)];exact q
   have hn':=(hf c z).1;rcases hc with y |y
   ·rw[y,e]at hn';cases hn'
   ·rw[y]at hn';cases hn'
end
noncomputable def DY (K:Fgx) (a:Addr):It:=
 ⟨fun i H=>∃xs x,fW K H a xs/\xs[i]? =some x,fun i H x H'=>∃p v,H p=none/\x=.ref p/\H'=upd H p (.tup [.int i,v])/\∀xs,fW K H a xs->xs[i]? =some v,fun i H=>∃xs,fW K H a xs/\xs.length=i⟩
def zbI {P:Program}{w:World}{K:Fgx}{es:List Expr}{k:Nat}{pos:Pos}(a e it:Addr)(ne:e≠it):Turn P w K (.Tuple es k pos) (DY K a) [e,it] e (fun i h=>(∃old,IsEnum h e it i old)/\h.IsListIter it a i) where
 mem:=by simp
 obj:=fun i h st b hb=>by
  obtain⟨⟨old,z⟩,o,e1,e2,e3⟩:=st;rcases xaq.mp hb with rfl |hb
  ·exact⟨_,z,fun v y=>by cases y⟩
  ·rw[xaF.mp hb];exact⟨o,e1,fun v y=>by rw[e3]at y;cases y⟩
 keep:=fun i h h' st k=>⟨let ⟨old,z⟩:=st.1;⟨old,k e (by simp) _ z⟩,st.2.at fun o z=>k it (by simp) o z⟩
 item:=by
  intro X hP hw hK hc i pins s σ H E I hf st hg;subst hP hw hK;obtain⟨xs,x,hq,hx⟩:=hg;obtain⟨its,rv,pl,hz⟩:=I.list hq;have p:=pl.isList;obtain⟨u,hu,ru⟩:=rv.get hx;have nea:a≠it:=fun z=>by
   obtain⟨o,e1,e2,_⟩:=st.2;obtain⟨o',e1',e2',_⟩:=id p;rw[z,e1]at e1';cases e1';rw[e2]at e2';exact absurd e2' (by simp)
  have nee:e∉ [it,a]:=fun z=>by
   rcases xaq.mp z with z |z
   ·exact ne z
   ·have z:=xaF.mp z;obtain⟨⟨old,y⟩,_⟩:=st;obtain⟨o',e1',e2',_⟩:=id p;rw[<-z,y]at e1';cases e1';exact absurd e2' (by simp)
  have W:=WalksT.enumerateD (Draws.list (prog:=X.prog) (w:=X.w) (A:=X.A.in1) (I.ok.hd hc) it a nea its.toArray) e ne nee (by simp);have hi:i<its.toArray.size:=by
   have:=(xag.mp hu).1
   simpa using this
  refine W.item i s _ _ hi ⟨st.1,st.2,p⟩ fun T vals h' tk hv hT hI hm hk=>?_;obtain⟨t,y,hy,rfl⟩:=hv;have ey:y=u:=by
   have hy':its.toArray[i]? =some y:=hy;rw[show its.toArray[i]? =its[i]? by simp,hu]at hy';exact(xaw hy').symm
  subst ey;refine⟨_,rfl,W.go es k pos i T _ _ _ hm fun h2 st2 hk2=>?_⟩;have kk:∀b o,b∉ [e,it]->s.heap.get? b=some o->h2.get? b=some o:=fun b o hb z=>hk2 b o hb (hk b o hb z);have hT2:h2.IsTuple T #[.int i t,y]:=by
   obtain⟨o,e1,r⟩:=hI;exact⟨o,hk2 T o (W.apart i T _ hm) e1,r⟩
  have I2:Inv X pins σ (upd H T (.tup [.int i,x])) {s with heap:=h2,toks:=tk}:=I.turnLaid kk hf hT ⟨by show 2<=sizeLine;decide,[.int i t,y],.cons ⟨t,rfl⟩ (.cons ru .nil),hT2⟩;have nT:H T=none:=I.hok.fresh hT;refine⟨.ref T,_,I2,rfl,⟨T,x,nT,rfl,rfl,fun ys hys=>by rw[I.list_inj hys hq];exact hx⟩,⟨st2.1,st2.2.1⟩,fun b hb=>?_⟩;rw[aZ (fun z=>?_)]
  ·exact(hf b hb).1
  ·rw[z]at hb;exact W.apart i T _ hm hb
 done:=by
  intro X hP hw hK hc i pins s σ H E I hf st hg;subst hP hw hK;obtain⟨xs,hq,hl⟩:=hg;obtain⟨its,rv,pl,hz⟩:=I.list hq;have p:=pl.isList;have nea:a≠it:=fun z=>by
   obtain⟨o,e1,e2,_⟩:=st.2;obtain⟨o',e1',e2',_⟩:=id p;rw[z,e1]at e1';cases e1';rw[e2]at e2';exact absurd e2' (by simp)
  have nee:e∉ [it,a]:=fun z=>by
   rcases xaq.mp z with z |z
   ·exact ne z
   ·have z:=xaF.mp z;obtain⟨⟨old,y⟩,_⟩:=st;obtain⟨o',e1',e2',_⟩:=id p;rw[<-z,y]at e1';cases e1';exact absurd e2' (by simp)
  have W:=WalksT.enumerateD (Draws.list (prog:=X.prog) (w:=X.w) (A:=X.A.in1) (I.ok.hd hc) it a nea its.toArray) e ne nee (by simp);have hn:its.toArray.size=i:=by rw[xai, <-rv.length,hl]
  refine W.done s _ _ (by rw[hn];exact⟨st.1,st.2,p⟩) fun h' tk hk=>⟨rfl,I.turnedL hk hf⟩
 self:=fun _ i s _ _ st h=>by
  obtain⟨⟨old,y⟩,_⟩:=st;exact wpAny_pyIter_enum y h
section
variable {X:Cx}{es:List Expr}{k:Nat}{tpos:Pos}
noncomputable def zhW (K:Fgx) (ta:TA):TI:=fun σ H R=>ta σ H fun vs H1=>∃a xs,vs=[.ref a]/\fW K H1 a xs/\R (DY K a) H1
def zdC {a:Expr}{ta:TA}{p pos:Pos}(hg:Gl X "enumerate")(hm:X.mg "enumerate"=none)(ha:PA X [a] ta)(hs:starEach [a] X.env=[(false,eval a X.env)]:=by rfl):PI X (.Tuple es k tpos) (.Call (.Name "enumerate" p) [a] [] pos) (zhW X.K ta):=by
 intro pins s σ H R I h;refine Call_ (Dd I hg hm boot_enumerate (xbS (aQ (ha pos pins s σ H _ I h) fun us s1 ⟨vs,H1,I1,r1,q1⟩=>?_) hs rfl));obtain⟨b,xs,e,hq,q⟩:=q1;subst e;obtain⟨u,e,ru⟩:=vals1 r1;subst e;cases ru;obtain⟨its,rv,pl,hz⟩:=I1.list hq;refine call_enumerate_list pl.isList fun h' e1 e2 _ kp=>?_;refine wpAny_pyIter_enum e1 ?_;refine⟨s1.heap.objs.size + 1,[s1.heap.objs.size + 1,s1.heap.objs.size],_,_,H1,rfl,I1.kept (t':=s1.toks) kp,zbI b _ _ (Nat.succ_ne_self _),⟨⟨_,e1⟩,e2⟩,fun c hc=>?_,q⟩;have hc':s1.heap.objs.size<=c:=by
  rcases xaq.mp hc with rfl |hc
  ·omega
  ·rw[xaF.mp hc];exact xad _
 exact I1.fpOk hc' (I1.hok.fresh hc')
end
noncomputable def textV:V->Option Str
 |.str z=>if z.length<=sizeLine then some z else none
 |.int i=>if i.natAbs.log2<1920 then some (toString i) else none
 |_=>none
abbrev TJ:=Str->St->Hp->VK->Prop
def PJ (X:Cx)(vs:List Expr)(t:TJ):Prop:=∀(pins:Pnx) (s:Shared) (σ:St) (H:Hp) (out:Str) (Q:VK),Inv X pins σ H s->t out σ H Q->wpAny (model X.prog X.w) X.A (joinParts out (evalEach vs X.env)) (EP X pins σ Q) X.xe s
def Qh:TJ:=fun out _ H Q=>out.length<=sizeLine/\Q (.str out) H
noncomputable def zk2 (te:TE) (tj:TJ):TJ:=fun out σ H Q=>te σ H fun v H1=>∃y,textV v=some y/\(out ++ y).length<=sizeLine/\tj (out ++ y) σ H1 Q
section
variable {X:Cx}{vs:List Expr}{te:TE}{tj:TJ}
def Rb:PJ X [] Qh:=fun pins s σ H out Q I h=>joinParts_nil ⟨.str out,H,I.tok _,⟨_,rfl⟩,h.2⟩ h.1
def Ko (hv:PJ X vs tj)(hz:z.length<=sizeLine):PJ X (.Constant (.str z) k pos::vs) (fun out σ H Q=>(out ++ z).length<=sizeLine/\tj (out ++ z) σ H Q):=fun pins s σ H out Q I h=>by
 refine joinParts_cons (xcg ?_);exact⟨h.1,hv pins _ σ H _ Q (I.tok _) h.2⟩
def Rg (he:PE X e te)(hv:PJ X vs tj):PJ X (.FormattedValue e (-1) none pos::vs) (zk2 te tj):=fun pins s σ H out Q I h=>by
 refine joinParts_cons (FormattedValue_plain (aQ (he pins s σ H _ I h) fun u s1 ⟨x,H1,I1,r1,y,ey,hl,q⟩=>?_));cases x<;>simp only[textV,reduceCtorEq]at ey
 case int i=>
  split at ey
  ·rename_i hd;cases ey;obtain⟨t,rfl⟩:=r1;exact formatField_int_small hd ⟨hl,hv pins _ σ H1 _ Q (I1.tok _) q⟩
  ·cases ey
 case str z=>
  split at ey
  ·rename_i hz;cases ey;obtain⟨t,rfl⟩:=r1;exact formatField_str (fun t' tk=>⟨hl,hv pins _ σ H1 _ Q (I1.tok _) q⟩) hz
  ·cases ey
def Ra (h:PJ X (v::w::vs) tj):PE X (.JoinedStr (v::w::vs) pos) (fun σ H Q=>tj Str.empty σ H Q):=fun pins s σ H Q I q=>JoinedStr_many (h pins s σ H _ Q I q)
end
theorem Wd (g:α->β->β):∀(l:List α) (b:β),(∀x∈l,∀b,f x b=pure (.yield (g x b)))->(forIn l b f:Sem β)=pure (l.foldl (fun b x=>g x b) b)
  | [],b,_=>rfl
  |x::l,b,h=>by
    rw[List.forIn_cons,h x xaD b];simp only[pure_bind,xdc];exact Wd g l (g x b) fun y hy=>h y (xan _ hy)
noncomputable def xO (cells:List (Str×Addr)) (cs:List (Str×Addr)) (x:Str×NameKind):List (Str×Addr):=if x.2=.free then(x.1,(cells.lookup x.1).getD 0)::cs else cs
noncomputable def tD (cells:List (Str×Addr)) (names:List (Str×NameKind)):List (Str×Addr):=names.foldl (xO cells) []
theorem Vv (h:∀y∈scope.names,y.2=.free->∃c,env.cells.lookup y.1=some c):closureFor scope env=pure (tD env.cells scope.names):=by
 simp only [closureFor];rw [Wd (fun x cs => xO env.cells cs x) scope.names [] (fun x hx c=>by
  obtain⟨n,kind⟩:=x
  by_cases hk:kind=.free
  ·obtain⟨a,ha⟩:=h _ hx hk;subst hk;have ha':env.cells.lookup n=some a:=ha
   simp[cellOf,ha',xO]
  ·have hk':(kind==NameKind.free)=false:=by simpa using hk
   simp[hk',hk,xO])]
 rfl
theorem Vu:∀(names:List (Str×NameKind)) (acc:List (Str×Addr)),(∀y∈names,y.2=.free->∃c,cells.lookup y.1=some c)->
    (∀x c,acc.lookup x=some c->cells.lookup x=some c)->∀x c,(names.foldl (xO cells) acc).lookup x=some c->cells.lookup x=some c
  | [],_,_,h,x,c,e=>h x c e
  |(n,k)::r,acc,hc,h,x,c,e=>by
    rw[xdc]at e;refine Vu r _ (fun y hy=>hc y (xan _ hy)) ?_ x c e;intro y d hd;unfold xO at hd
    by_cases hk:k=.free
    · obtain⟨a,ha⟩:=hc (n,k) xaD hk;have ha':cells.lookup n=some a:=ha;simp only[hk,xbb,ha',Option.getD_some,xb5]at hd
      cases hyn:y==n with
      |true=>
        rw[hyn]at hd;have e2:=eq_of_beq hyn;subst e2;exact ha'.trans hd
      |false=>
        rw[hyn]at hd;exact h y d hd
    · simp only[hk,xek]at hd;exact h y d hd
theorem OD:∀(names:List (Str×NameKind)) (acc:List (Str×Addr)) (x:Str),((x,NameKind.free)∈names\/∃c,acc.lookup x=some c)->∃c,(names.foldl (xO cells) acc).lookup x=some c
  | [],acc,x,h=>by
    rcases h with h |h
    · exact absurd h (by simp)
    · exact h
  |(n,k)::r,acc,x,h=>by
    rw[xdc];refine OD r _ x ?_;have keep:(∃c,acc.lookup x=some c)->∃c,(xO cells acc (n,k)).lookup x=some c:=fun⟨c,hc⟩=>by
      unfold xO
      by_cases hk:k=.free
      · simp only[hk,xbb,xb5]
        cases hxn:x==n with
        |true=>exact⟨_,rfl⟩
        |false=>exact⟨c,hc⟩
      · simp only[hk,xek];exact⟨c,hc⟩
    rcases h with h |h
    · rcases xaq.mp h with h |h
      · cases h;refine .inr ?_;unfold xO;simp only[xbb,xb5,xbr];exact⟨_,rfl⟩
      · exact .inl h
    · exact .inr (keep h)
noncomputable def lJ (psc:Scope) (names:List (Str×NameKind)):List (Str×NameKind):=names.map fun(n,k)=>if (k==.free && psc.kind==.function && psc.names.lookup n==some .cell) then(n,.cell) else(n,k)
theorem Hq:∀{names:List (Str×NameKind)} {x:Str} {k':NameKind},(lJ psc names).lookup x=some k'->(k'=.cell\/k'=.free)->(∀y∈names,y.2≠ .cell)->(x,NameKind.free)∈names
  | [],_,_,h,_,_=>by simp[lJ]at h
  |(n,k)::r,x,k',h,hk,hn=>by
    have ih:= @Hq psc r x k';have h':List.lookup x ((if (k==NameKind.free && psc.kind==.function && psc.names.lookup n==some .cell)=true then(n,NameKind.cell) else(n,k))::lJ psc r)=some k':=h
    cases hx:x==n with
    |true=>
      have e:=eq_of_beq hx;subst e
      by_cases hc:(k==NameKind.free && psc.kind==.function && psc.names.lookup x==some .cell)=true
      · have hkf:k=.free:=by
          cases k<;>first |rfl |(exfalso;simp at hc)
        rw[hkf];exact xaD
      · rw[xab hc]at h';simp only[xb5,xbr]at h';have e2:k=k':=xaw h';subst e2;rcases hk with hk |hk
        · exact absurd hk (hn (x,k) xaD)
        · rw[hk];exact xaD
    |false=>
      refine xan _ (ih ?_ hk fun y hy=>hn y (xan _ hy))
      by_cases hc:(k==NameKind.free && psc.kind==.function && psc.names.lookup n==some .cell)=true
      · rw[tG hc]at h';simp only[xb5,hx]at h';exact h'
      · rw[xab hc]at h';simp only[xb5,hx]at h';exact h'
def tV (cs:List (Str×Nat))(σ:St):St:=cs.map fun p=>(σ[p.2]?).join
abbrev kW (X:Cx)(Nc:List Str)(scope:Scope)(cl:List (Str×Addr))(C:Addr)(s₀:Shared)(H₀:Hp)(ex:List Addr)(pn:Pnx):Cx:=
 {X with N:=Nc,s₀:=s₀,H₀:=H₀,env:=compEnvC scope cl C X.env,outer:=X.stack,ex:=ex,fn:=fun _=>false,pn:=pn,xe:=fun _ _=>False}
noncomputable def Al (N:List Str) (psc:Scope) (x:Str) (cs:List (Str×Nat)) (scope:Scope):Bool:=
 scope.kind==.function && scope.names.lookup x==some .local && decide ((x::cs.map (·.1)).Nodup) &&
 scope.names.all (fun y=>y.2 !=.cell && (y.2 !=.local || scope.names.lookup y.1==some .local) && (y.2 !=.free || (psc.names.lookup y.1==some .cell || psc.names.lookup y.1==some .free))) &&
 cs.all (fun p=>N[p.2]? ==some p.1 && (psc.names.lookup p.1==some .cell || psc.names.lookup p.1==some .free) && ((lJ psc scope.names).lookup p.1==some .cell || (lJ psc scope.names).lookup p.1==some .free))
structure CompOk (N:List Str)(psc:Scope)(x:Str)(cs:List (Str×Nat))(scope:Scope):Prop where
 kind:scope.kind=.function
 own:scope.names.lookup x=some .local
 nd:(x::cs.map (·.1)).Nodup
 cell:∀y∈scope.names,y.2≠ .cell
 names:∀y∈scope.names,y.2=.local->scope.names.lookup y.1=some .local
 has:∀y∈scope.names,y.2=.free->psc.names.lookup y.1=some .cell\/psc.names.lookup y.1=some .free
 cap:∀p∈cs,N[p.2]? =some p.1/\(psc.names.lookup p.1=some .cell\/psc.names.lookup p.1=some .free)/\((lJ psc scope.names).lookup p.1=some .cell\/(lJ psc scope.names).lookup p.1=some .free)
def CompOk.of (h:Al N psc x cs scope=true):CompOk N psc x cs scope:=by
 unfold Al at h;simp only[xac,xbp,xaO,xaZ,xaB,bne_iff_ne,ne_eq]at h;obtain⟨⟨⟨⟨h1,h2⟩,h3⟩,h4⟩,h5⟩:=h;refine⟨h1,h2,h3,fun y hy=>(h4 y hy).1.1,fun y hy e=>?_,fun y hy e=>?_,fun p hp=>⟨(h5 p hp).1.1,(h5 p hp).1.2,(h5 p hp).2⟩⟩
 ·rcases(h4 y hy).1.2 with z |z
  ·exact absurd e z
  ·exact z
 ·rcases(h4 y hy).2 with z |z
  ·exact absurd e z
  ·exact z
def tO (X:Cx)(ifs:List Expr)(t:TT):Prop:=
 ∀(pins:Pnx) (s:Shared) (σ:St) (H:Hp) (Q:Bool->Hp->Prop),Inv X pins σ H s->t σ H Q->
  wpAny (model X.prog X.w) X.A (forIn ifs true fun c r=>if r=true then do let ok <-isTrue c X.env (eval c X.env);pure (ForInStep.yield ok) else pure (ForInStep.yield r)) (TP X pins σ Q) X.xe s
def TY:TT:=fun _ H Q=>Q true H
def zce:tO X [] TY:=fun _ _ _ H _ I h=>wpAny_tests_nil ⟨H,I,h⟩
def zdn (h:PT X c t):tO X [c] t:=fun pins s σ H Q I hw=>wpAny_tests_one (h pins s σ H Q I hw)
def Mh (wi:TI)(tq:TT)(te:TE)(cs:List (Str×Nat)):St->Hp->(Addr->Hp->Prop)->Prop:=fun σ H R=>wi σ H fun J H1=>∀D,H1 D=none->
  ∃W:Nat->Nat->List V->Hp->Prop,(∃m,W 0 m [] (upd H1 D (.lst [])))/\∀i m ys H2,W i m ys H2->H2 D=some (.lst ys)/\
    ((J.stop i H2 /\ R D H2) \/ (J.go i H2/\ys.length<sizeLine/\∃N:List V->Hp->Prop,(∀ys' H',N ys' H'->∃m',m'<m/\W (i + 1) m' ys' H')/\∀v H3,J.yld i H2 v H3->tq (some v::tV cs σ) H3 fun b H4=>
      if b=true then te (some v::tV cs σ) H4 fun y H5=>H5 D=some (.lst ys)/\N (ys ++ [y]) (upd H5 D (.lst (ys ++ [y]))) else N ys H4))
section
variable {prog:Program}{w:World}{A:Around}{R:Result->Shared->Prop}{s:Shared}
def zal (I:Nat->Shared->Prop)
    (turn : ∀ n s, I n s -> wpAny (model prog w) A (pyNext it) (fun r s₁=>match r with
      |none=>R (.ok .next) s₁
      | some v => wpAny (model prog w) A (letOwnedTupleGo target it v) (fun _ s₁' => wpAny (model prog w) A (assign target env v) (fun _ s₂=>
          wpAny (model prog w) A (forIn ifs true fun c r => if r = true then do let ok <- isTrue c env (eval c env); pure (ForInStep.yield ok) else pure (ForInStep.yield r)) (fun ok s₃=>
            if ok = true then wpAny (model prog w) A (eval elt env) (fun x s₄=>
              wpAny (model prog w) A (call (.builtin "list.append") [acc,x]) (fun _ s₅=>∃m,m<n/\I m s₅) (fun _ _=>False) s₄) (fun _ _=>False) s₃
            else ∃m,m<n/\I m s₃) (fun _ _=>False) s₂) (fun _ _=>False) s₁') (fun _ _=>False) s₁) (fun _ _=>False) s)
    (n:Nat) (h:I n s):
    codeAny (model prog w) A (.compLoop (.ListComp elt [⟨target,iter,ifs,0⟩] scope pos) 0 it acc env) R s:=by
  refine codeAny_loop rfl I (fun n s hI=>?_) n h;show wpAny _ A ((compTurn (.ListComp elt [⟨target,iter,ifs,0⟩] scope pos) 0 it acc env).onRaise (fun x=>do noteFrame x env;theTreesLotGoes x)) _ _ s
  refine wpAny_noted ?_;rw[compTurn_list];refine xaa (xcU (xaa (xa3 (turn n s hI) (fun r s₁ h₁=>?_) fun _ _ h'=>h'.elim)))
  cases r with
  |none=>exact xaj h₁
  |some v=>
    refine xaa (xa3 h₁ (fun _ s₁' h₁'=>?_) fun _ _ h'=>h'.elim);refine xaa (xa3 h₁' (fun _ s₂ h₂=>xaa (xa3 h₂ (fun ok s₃ h₃=>?_) fun _ _ h'=>h'.elim)) fun _ _ h'=>h'.elim)
    cases ok with
    |false=>exact xaj ⟨rfl,h₃⟩
    |true=>
      exact xaa (xaa (xa3 h₃ (fun x s₄ h₄=>xaa (xa3 h₄ (fun _ s₅ h₅=>xaj (xaj ⟨rfl,h₅⟩)) fun _ _ h'=>h'.elim)) fun _ _ h'=>h'.elim))
end
section
variable {X:Cx}{elt iter:Expr}{ifs:List Expr}{x:Str}{px:Pos}{scope:Scope}{pos:Pos}{wi:TI}{tq:TT}{te:TE}{cs:List (Str×Nat)}
def Vx (hc:X.calm=true)(hi:PI X (.Name x px) iter wi)
    (hq:∀(cl:List (Str×Addr)) (C:Addr) (s₀:Shared) (H₀:Hp) (ex:List Addr) (pn:Pnx),tO (kW X (x::cs.map (·.1)) scope cl C s₀ H₀ ex pn) ifs tq)
    (he:∀(cl:List (Str×Addr)) (C:Addr) (s₀:Shared) (H₀:Hp) (ex:List Addr) (pn:Pnx),PE (kW X (x::cs.map (·.1)) scope cl C s₀ H₀ ex pn) elt te)
    (ok:CompOk X.N X.env.scope x cs scope) {pins:Pnx} {s:Shared} {σ:St} {H:Hp} {R:Addr->Hp->Prop} (I:Inv X pins σ H s) (h:Mh wi tq te cs σ H R)
    {RR:Value->Addr->Result->Shared->Prop}
    (hRR:∀(D C:Addr) (oC:Obj) (H':Hp) (s':Shared),Inv X (pins ++ [(C,oC)]) σ H' s'->(∀h':Heap,h'.get? C=some oC->∃m,h'.Ns C m)->lC X pins H' C->R D H'->RR (.ref D) C (.ok .next) s'):
    wpAny (model X.prog X.w) X.A (eval iter X.env) (fun xv s₁ => wpAny (model X.prog X.w) X.A (pyIter xv) (fun itv s₂ => wpAny (model X.prog X.w) X.A (newList []) (fun acc s₃=>
      wpAny (model X.prog X.w) X.A (newFunctionEnv scope X.env.globals (tD X.env.cells scope.names) [] X.env.qual none .none (some X.env)) (fun cenv s₄=>
        codeAny (model X.prog X.w) X.A (.compStart (.ListComp elt [⟨.Name x px,iter,ifs,0⟩] scope pos) 0 itv acc {cenv with scope:=relabel scope X.env}) (RR acc cenv.locals) s₄) X.xe s₃) X.xe s₂) X.xe s₁) X.xe s:=by
  refine aQ (hi pins s σ H _ I h) fun v s1 h1=>aQ h1 fun itv s2 h2=>?_;obtain⟨it,fp,tn,J,H2,e,I2,T,st2,f2,h2⟩:=h2;subst e;have hhas:∀y∈scope.names,y.2=.free->∃c,X.env.cells.lookup y.1=some c:=fun y hy hk=>I2.ok.has y.1 (ok.has y hy hk);refine xbl (wpAny_newFunctionEnv ok.cell (by intro y hy;simp at hy) (fun h₁ hns₁ hsb₁=>?_) ok.kind);dsimp only at hns₁ hsb₁ ⊢;generalize hHH:s2.heap.push {cls:=.type "list",dict:=none,data:=.seq ([]:List Value).toArray}=HH at hns₁ hsb₁ ⊢;have hC:HH.objs.size=s2.heap.objs.size + 1:=by rw[<-hHH,xee]
  have hDC:s2.heap.objs.size≠HH.objs.size:=by rw[hC];exact xaR (xbP _)
  have hCle:s2.heap.objs.size<=HH.objs.size:=by rw[hC];exact xcC _
  have below:∀b,b<s2.heap.objs.size->b≠HH.objs.size:=fun b hb=>by rw[hC];exact xaR (Nat.lt_succ_of_lt hb)
  have old:∀b o,s2.heap.get? b=some o->h₁.get? b=some o:=fun b o e=>hsb₁.extBut b o (below b (xar e)) (xaf _ (hHH ▸ xaf _ e));have hacc:h₁.get? s2.heap.objs.size=some {cls:=.type "list",dict:=none,data:=.seq ([]:List Value).toArray}:=hsb₁.extBut _ _ hDC (xaf _ (hHH ▸ xaJ _ rfl));have nD:H2 s2.heap.objs.size=none:=I2.hok.fresh (xad _);have nC:H2 HH.objs.size=none:=I2.hok.fresh hCle;obtain⟨W,⟨m0,w0⟩,turn⟩:=h2 s2.heap.objs.size nD
  -- the block's context
  have fpC:∀b∈fp,b≠HH.objs.size:=fun b hb=>by
    obtain⟨o,ho,_⟩:=T.obj 0 _ st2 b hb;exact below b (xar ho)
  have fpD:∀b∈fp,b≠s2.heap.objs.size:=fun b hb=>by
    obtain⟨o,ho,_⟩:=T.obj 0 _ st2 b hb;exact xaR (xar ho)
  have pinC:∀p∈X.pn ++ pins,p.1≠HH.objs.size:=fun p hp=>below _ (xar (I2.pin p hp).1);have clIn:∀y c,(tD X.env.cells scope.names).lookup y=some c->X.env.cells.lookup y=some c:=Vu scope.names [] hhas (fun y c e=>by cases e);have kindRel:∀y,(relabel scope X.env).names.lookup y=(lJ X.env.scope scope.names).lookup y:=fun _=>rfl;have okC:(kW X (x::cs.map (·.1)) scope (tD X.env.cells scope.names) HH.objs.size s2 H2 fp (X.pn ++ pins)).Ok:=
    { mod:=I2.ok.mod
      kind:=ok.kind
      glob:=I2.ok.glob
      blt:=I2.ok.blt
      above:=hCle
      inj:=fun y z c e1 e2=>I2.ok.inj y z c (clIn y c e1) (clIn z c e2)
      has:=fun y hk=>by
        have hm:(y,NameKind.free)∈scope.names:=by
          rcases hk with hk |hk
          · exact Hq (psc:=X.env.scope) (k':=.cell) hk (.inl rfl) ok.cell
          · exact Hq (psc:=X.env.scope) (k':=.free) hk (.inr rfl) ok.cell
        exact OD scope.names [] y (.inl hm)
      cab:=fun y c hf _=>by cases hf
      hd:=I2.ok.hd
      frames:=I2.ok.frames
      stk:=.inl rfl
      exf:=fun b hb=>⟨fpC b hb,fun y c e z=>(f2 b hb).2.2.2.2.1 y c (clIn y c e) z⟩
      bs:=fun b o e=>I2.bs b o e
      bsz:=xau I2.ok.bsz I2.sz
      noex:=fun b o e hb=>by
        rcases(f2 b hb).2.2.2.1 with z |z
        · exact I2.ok.noex b o e z
        · exact absurd (xao (xar e) (xau I2.ok.bsz z)) (xbE _)
      exfs:=fun b hb z=>by
        rcases xaq.mp (I2.stkSub b z) with q |q
        · exact(f2 b hb).2.1 q
        · exact(f2 b hb).2.2.1 q
      funs:=I2.stack
      frf:=I2.stkFree}
  have IC:Inv (kW X (x::cs.map (·.1)) scope (tD X.env.cells scope.names) HH.objs.size s2 H2 fp (X.pn ++ pins)) [] (none::tV cs σ) (upd H2 s2.heap.objs.size (.lst [])) {s2 with heap:=h₁,toks:=s2.toks + ([]:List (Str×Value)).length}:=
    { ok:=okC
      os:=rfl
      bare:=I2.bare
      base:=Un.laid old (xad _) nD
      loc:=by
        refine⟨_,hns₁,fun i y u e1 e2 _=>?_⟩
        cases i with
        |zero=>
          have e2':(none:Option V)=some u:=xaw e2;cases e2'
        |succ i=>
          have e1':(cs.map (·.1))[i]? =some y:=e1;have e2':(tV cs σ)[i]? =some (some u):=e2;rw[xax]at e1';unfold tV at e2';rw[xax]at e2'
          cases ep:cs[i]? with
          |none=>rw[ep]at e1';cases e1'
          |some p=>
            rw[ep]at e1' e2';have e1'':p.1=y:=xaw e1';have e2'':(σ[p.2]?).join=some u:=xaw e2';have e3:σ[p.2]? =some (some u):=by
              cases q:σ[p.2]? with
              |none=>rw[q]at e2'';cases e2''
              |some z=>rw[q]at e2'';exact congrArg some e2''
            subst e1'';obtain⟨hN,hkp,hkc⟩:=ok.cap p (xaW ep);obtain⟨mP,_,hl⟩:=I2.loc;obtain⟨u',ru,lk⟩:=hl p.2 p.1 u hN e3 (.inr hkp);refine⟨u',ru,.inr ⟨hkc,?_⟩⟩;rcases lk with⟨k0,_⟩ |⟨_,c,hcell,his⟩
            · exfalso
              have k0':X.env.scope.names.lookup p.1=some .local:=k0;rcases hkp with z |z<;>(rw[k0']at z;cases z)
            · have hm:(p.1,NameKind.free)∈scope.names:=by
                rcases hkc with z |z
                · exact Hq z (.inl rfl) ok.cell
                · exact Hq z (.inr rfl) ok.cell
              obtain⟨c',hc'⟩:=OD (cells:=X.env.cells) scope.names [] p.1 (.inl hm);have e5:c'=c:=xaw ((clIn p.1 c' hc').symm.trans hcell);exact⟨c',hc',by rw[e5];exact his.keeps old⟩
      cell:=fun y c e=>by
        obtain⟨v',q⟩:=I2.cell y c (clIn y c e);exact⟨v',q.keeps old⟩
      free:=by
        show upd H2 s2.heap.objs.size (.lst []) HH.objs.size=none;rw[aZ hDC.symm];exact nC
      freeC:=fun y c e=>by
        have hcl:c<s2.heap.objs.size:=by
          obtain⟨_,q⟩:=I2.cell y c (clIn y c e);exact q.lt
        rw[aZ (xaR hcl)];exact I2.freeC y c (clIn y c e)
      pin:=fun p hp=>by
        have hp':p∈X.pn ++ pins:=by
          rcases xay.mp hp with z |z
          · exact z
          · cases z
        obtain⟨e1,e2,e3,e4,e5⟩:=I2.pin p hp';refine⟨old _ _ e1,?_,pinC p hp',fun z=>?_,e5⟩
        · rw[aZ (xaR (xar e1))];exact e2
        · rcases xaq.mp (I2.stkSub p.1 z) with q |q
          · exact e3 q
          · exact e4 q
      hok:=I2.hok.laid old (xad _) ⟨xbL _,[],0,.nil,hacc⟩
      len:=by simp[tV]}
  have stC:tn 0 h₁:=T.keep 0 _ _ st2 fun b _ o e=>old b o e;have frC:∀b∈fp,upd H2 s2.heap.objs.size (HO.lst []) b=none:=fun b hb=>by
    rw[aZ (fpD b hb)];exact(f2 b hb).1
  -- what stays true of the iterator's objects in the block
  have stat:∀{H':Hp},(∀b∈fp,H' b=none)->∀b∈fp,lC (kW X (x::cs.map (·.1)) scope (tD X.env.cells scope.names) HH.objs.size s2 H2 fp (X.pn ++ pins)) [] H' b:=fun {H'} hn b hb=>
    ⟨hn b hb, fpC b hb, okC.exfs b hb, .inl hb, fun y c e => (okC.exf b hb).2 y c e, fun p hp => (f2 b hb).2.2.2.2.2 p (by
      rcases xay.mp hp with z |z
      · exact z
      · cases z)⟩
  have loop:∀s₃:Shared,s₃={s2 with heap:=h₁,toks:=s2.toks + ([]:List (Str×Value)).length}->
      codeAny (model X.prog X.w) X.A (.compLoop (.ListComp elt [⟨.Name x px,iter,ifs,0⟩] scope pos) 0 (.ref it) (.ref s2.heap.objs.size) (compEnvC scope (tD X.env.cells scope.names) HH.objs.size X.env)) (RR (.ref s2.heap.objs.size) HH.objs.size) s₃:=by
    rintro s₃ rfl;refine zal (fun n s'=>∃(i:Nat) (v:Option V) (ys:List V) (H':Hp),Inv (kW X (x::cs.map (·.1)) scope (tD X.env.cells scope.names) HH.objs.size s2 H2 fp (X.pn ++ pins)) [] (v::tV cs σ) H' s'/\tn i s'.heap/\(∀b∈fp,H' b=none)/\W i n ys H')
      ?_ m0 ⟨0,none,[],_,IC,stC,frC,w0⟩
    rintro n s3 ⟨i,v3,ys,H3,I3,st3,fr3,w3⟩;obtain⟨hD3,tr⟩:=turn i n ys H3 w3;rcases tr with⟨stop,qn⟩ |⟨go,hsz,N,hN,step⟩
    · refine aQ (T.done (kW X (x::cs.map (·.1)) scope (tD X.env.cells scope.names) HH.objs.size s2 H2 fp (X.pn ++ pins)) rfl rfl rfl hc i [] s3 _ H3 _ I3 (stat fr3) st3 stop) fun r s4 ⟨hr,I4⟩=>?_;subst hr;show RR (.ref s2.heap.objs.size) HH.objs.size (.ok .next) s4
      have IP:Inv X pins σ H3 s4:=I2.call' (ch:=fp) I4.os I4.base I4.hok I4.bare fun b hb=>⟨(f2 b hb).2.2.2.1,(f2 b hb).2.1,(f2 b hb).2.2.2.2.1,(f2 b hb).2.2.2.2.2⟩;obtain⟨m4,⟨oC,es,ep,hoC,hdC,hk1,hk2⟩,_⟩:=I4.loc;have nC3:H3 HH.objs.size=none:=I4.free;have fC:lC X pins H3 HH.objs.size:=I2.fpOk hCle nC3;refine hRR _ _ oC H3 s4 (IP.pins_of fun p hp=>?_) (fun h' e=>⟨m4,oC,es,ep,e,hdC,hk1,hk2⟩) fC qn;rcases xay.mp hp with z |z
      · exact IP.pin p (xaT _ z)
      · have e:p=(HH.objs.size,oC):=by simpa using z
        subst e;exact ⟨hoC,nC3,fC.2.1,fC.2.2.1,fun v z=>by
          have z':oC.data=.cell v:=z;rw[hdC]at z';cases z'⟩
    · refine aQ (T.item (kW X (x::cs.map (·.1)) scope (tD X.env.cells scope.names) HH.objs.size s2 H2 fp (X.pn ++ pins)) rfl rfl rfl hc i [] s3 _ H3 _ I3 (stat fr3) st3 go) fun r s4 ⟨u,hr,h4⟩=>?_;subst hr;refine aQ h4 fun _ s5 ⟨y,H5,I5,r5,y5,st5,fr5⟩=>?_;have I5':=I5.pinned (stat fr5) (T.obj _ _ st5);have hloc:Loc (kW X (x::cs.map (·.1)) scope (tD X.env.cells scope.names) HH.objs.size s2 H2 fp (X.pn ++ pins)).env.scope x:=.inl (lookup_relabel_local ok.own);refine xdE (zp (i:=0) I5' ok.nd rfl hloc r5 (fun s6 I6=>?_) (.inr (lookup_relabel_local ok.own)));refine aQ (hq _ _ _ _ _ _ _ s6 _ H5 _ I6 (step y H5 y5)) fun b s7 ⟨H7,I7,q7⟩=>?_;have again:∀{v':Option V} {H8:Hp} {s8:Shared} {ys':List V} {m':Nat},Inv (kW X (x::cs.map (·.1)) scope (tD X.env.cells scope.names) HH.objs.size s2 H2 fp (X.pn ++ pins)) ([] ++ G_ fp s5.heap) (v'::tV cs σ) H8 s8->W (i + 1) m' ys' H8->
          ∃(i:Nat) (v:Option V) (ys:List V) (H':Hp),Inv (kW X (x::cs.map (·.1)) scope (tD X.env.cells scope.names) HH.objs.size s2 H2 fp (X.pn ++ pins)) [] (v::tV cs σ) H' s8/\tn i s8.heap/\(∀b∈fp,H' b=none)/\W i m' ys H':=fun {v' H8 s8 ys' m'} I8 w8=>by
        refine⟨i + 1,v',ys',H8,I8.unpinned,T.keep _ _ _ st5 fun b hb o e=>(I8.pin (b,o) (xaT _ (xaT _ (JT hb e)))).1,fun b hb=>?_,w8⟩;obtain⟨o,e,d⟩:=T.obj _ _ st5 b hb;exact(I8.pin (b,o) (xaT _ (xaT _ (JT hb e)))).2.1
      cases b with
      |false=>
        rw[xab xaz]at q7;rw[xab xaz];obtain⟨m',hm,w8⟩:=hN _ _ q7;exact⟨m',hm,again I7 w8⟩
      |true=>
        rw[tG rfl]at q7;rw[tG rfl];refine aQ (he _ _ _ _ _ _ _ s7 _ H7 _ I7 q7) fun z s8 ⟨zv,H8,I8,r8,hD8,n8⟩=>?_;obtain⟨m',hm,w8⟩:=hN _ _ n8;refine aQ (Qu (X:=kW X (x::cs.map (·.1)) scope (tD X.env.cells scope.names) HH.objs.size s2 H2 fp (X.pn ++ pins)) _ s8 _ H8 (.ref s2.heap.objs.size) [zv] (.ref s2.heap.objs.size) [z] (fun _ H9=>H9=upd H8 s2.heap.objs.size (.lst (ys ++ [zv]))) I8 rfl (.cons r8 .nil) ⟨_,ys,zv,rfl,rfl,hD8,hsz,rfl⟩) fun _ s9 ⟨_,H9,I9,_,e9⟩=>?_;subst e9;exact⟨m',hm,again I9 w8⟩
  exact codeAny_compStart_list (loop _ rfl) (T.self _ 0 _ _ _ stC (loop _ rfl))
noncomputable def zkq (wi:TI) (tq:TT) (te:TE) (cs:List (Str×Nat)):TE:=fun σ H Q=>Mh wi tq te cs σ H fun D H'=>Q (.ref D) H'
theorem ze1 (x:Str)(cs:List (Str×Nat))(hc:X.calm=true)(hi:PI X (.Name x px) iter wi)
  (hq:∀(cl:List (Str×Addr)) (C:Addr) (s₀:Shared) (H₀:Hp) (ex:List Addr) (pn:Pnx),tO (kW X (x::cs.map (·.1)) scope cl C s₀ H₀ ex pn) ifs tq)
  (he:∀(cl:List (Str×Addr)) (C:Addr) (s₀:Shared) (H₀:Hp) (ex:List Addr) (pn:Pnx),PE (kW X (x::cs.map (·.1)) scope cl C s₀ H₀ ex pn) elt te)
  (ok:Al X.N X.env.scope x cs scope=true:=by kernel_rfl) (hs:∀x,foldedSetIterable iter X.env x=pure x:=by intro _;rfl):
  PE X (.ListComp elt [⟨.Name x px,iter,ifs,0⟩] scope pos) (zkq wi tq te cs):=by
 intro pins s σ H Q I h;have ok':=CompOk.of ok;rw[eval_ListComp];refine xdV (use:=none) rfl hs (Vv fun y hy hk=>I.ok.has y.1 (ok'.has y hy hk)) ok'.kind ok'.names ?_;refine Vx (RR:=fun acc C=>compPost (model X.prog X.w) X.A X.xe none (EP X pins σ Q) acc C) hc hi hq he ok' I h ?_;intro D C oC H' s' I' hns fC q;refine⟨_,(hns _ (I'.pin (C,oC) (xaT _ (xaT _ (by simp)))).1).choose_spec,fun h' hs'=>?_⟩;have I1:Inv X pins σ H' s':=I'.unpinned;exact⟨.ref D,H',I1.turned (t':=s'.toks) (fun b o hb e=>(hs'.2 b hb).trans e) fC.1 fC.2.1 fC.2.2.2.1 fC.2.2.2.2.1 fC.2.2.2.2.2,rfl,q⟩
noncomputable def zkE (k:Nat) (wi:TI) (tq:TT) (te:TE) (cs:List (Str×Nat)):TS:=fun D σ H=>Mh wi tq te cs σ H fun l H'=>D.nx (σ.set k (some (.ref l))) H'
theorem YX (x:Str)(cs:List (Str×Nat))(hN:X.N.Nodup)(hk:X.N[k]? =some y)(hy:Loc X.env.scope y)(hc:X.calm=true)(hi:PI X (.Name x px) iter wi)
  (hq:∀(cl:List (Str×Addr)) (C:Addr) (s₀:Shared) (H₀:Hp) (ex:List Addr) (pn:Pnx),tO (kW X (x::cs.map (·.1)) scope cl C s₀ H₀ ex pn) ifs tq)
  (he:∀(cl:List (Str×Addr)) (C:Addr) (s₀:Shared) (H₀:Hp) (ex:List Addr) (pn:Pnx),PE (kW X (x::cs.map (·.1)) scope cl C s₀ H₀ ex pn) elt te)
  (ok:Al X.N X.env.scope x cs scope=true:=by kernel_rfl) (hs:∀x,foldedSetIterable iter X.env x=pure x:=by intro _;rfl)
  (hsw:swapsWith (.ListComp elt [⟨.Name x px,iter,ifs,0⟩] scope pos) (some (.Name y py)) spos.line X.env=pure true:=by rfl)
  (hf:X.fn y=true\/X.env.scope.names.lookup y=some .local:=by first |exact .inl rfl |exact .inr rfl |assumption):
  PS X (.Assign [.Name y py] (.ListComp elt [⟨.Name x px,iter,ifs,0⟩] scope pos) spos) (zkE k wi tq te cs):=by
 intro pins s σ H D I h;have ok':=CompOk.of ok;rw[exec_Assign_Name_used _ _ _ _ hsw];refine xaa (xcU (xaa ?_));show wpAny _ X.A (do let _ <-comprehension (.ListComp elt [⟨.Name x px,iter,ifs,0⟩] scope pos) scope X.env _ (newList []) false (eval iter X.env) (some (assign (.Name y py) X.env))) _ _ s
 refine xaa (xa3 (xdV (use:=some (assign (.Name y py) X.env)) (Q:=fun _ s'=>SP X pins D .next s') rfl hs (Vv fun y hy hk=>I.ok.has y.1 (ok'.has y hy hk)) ok'.kind ok'.names
  (Vx (RR:=fun acc C=>compPost (model X.prog X.w) X.A X.xe (some (assign (.Name y py) X.env)) (fun _ s'=>SP X pins D .next s') acc C) hc hi hq he ok' I h ?_)) (fun _ s' hq=>xaj (xaj hq)) fun _ _ e=>e)
 intro l C oC H' s' I' hns fC q;show wpAny _ X.A (assign (.Name y py) X.env (.ref l)) _ _ _;refine xdE (zp (v:=.ref l) I' hN hk hy rfl (fun s'' I''=>?_) hf);refine⟨_,(hns _ (I''.pin (C,oC) (xaT _ (xaT _ (by simp)))).1).choose_spec,fun h' hs'=>?_⟩;have I1:Inv X pins _ H' s'':=I''.unpinned;exact⟨_,H',I1.turned (t':=s''.toks) (fun b o hb e=>(hs'.2 b hb).trans e) fC.1 fC.2.1 fC.2.2.2.1 fC.2.2.2.2.1 fC.2.2.2.2.2,q⟩
end
def yg (hD:H D=none):Same H (upd H D o):=fun b ob e=>by
 rw[aZ (kh e hD)];exact e
structure Noted (fs:List Addr)(z:Addr)(h h':Heap)(e:Addr)(oe:Obj)(T:Addr)(fl:Value):Prop where
 keep:∀b o,b∉fs->b≠e->b≠z->h.get? b=some o->h'.get? b=some o
 slot:∀b o,b∈fs->b≠e->b≠z->h.get? b=some o->∃sl,h'.get? b=some {o with slots:=sl}
 exc:h'.get? e=some (oe.mapFields (·.setIfInBounds 1 (.ref T)))
 new:h.objs.size<=T
 tb:∃oT ts,h'.get? T=some oT/\oT.data=.fields ts/\ts[3]? =some fl
section
variable {M:Model}{A:Around}{E:Value->Shared->Prop}{s:Shared}{base:Heap}{env:Env}{outer:List Env}{L e z:Addr}{oe:Obj}{vs:Array Value}{Q:Unit->Shared->Prop}
def Ys (a1:A.frames=some (env::outer))(a2:s.heap.FunFrames base (env::outer))(a3:env.frame=some L)
  (a4:s.heap.get? e=some oe) (a5:oe.data=.fields vs) (a6:1<vs.size)
  (k:∀h' T,Noted (frs (env::outer)) e s.heap h' e oe T (rawInt L)->Q () {s with heap:=h'}):
  wpAny M A (do
   let a <-frameOf env
   let pl <-entryPlaceOf L hadNext
   let b <-EntryCells.newEntry head a .none (rawInt L) .none pl
   setField (.ref e) 1 b) Q E s:=by
 have ne:e∉frs (env::outer):=fun m=>by
  obtain⟨_,o,e1,e2⟩:=a2.mem m;rw[a4]at e1;cases e1;exact e2 vs a5
 refine xaa (wpAny_frameOf_fun a1 a2 a3 fun h1 S=>?_);refine xaa (wpAny_entryPlaceOf fun pl hpl=>?_);unfold EntryCells.newEntry newFields;refine xaa (xbl ?_ (hpl.sizeOk5 _ _ _ _ _));have b1:h1.get? e=some oe:=(S.2.1 e ne).trans a4;have b2:=xaf (h:=h1) {cls:=.type "traceback",dict:=none,data:=.fields ([head,.ref L,.none,rawInt L,.none] ++ (if pl.isEmpty then List.replicate 6 Value.none else pl)).toArray} b1
 refine xb3 b2 a5 a6 (k _ h1.objs.size ?_);have n1:h1.objs.size≠e:=xdQ (xar b1);have frd:=xbI (xaY a5 (·.setIfInBounds 1 (Value.ref h1.objs.size)));refine⟨fun b o nb nbe _ hb=>?_,fun b o _ nbe _ hb=>?_,xbn _ b2 frd,xez S.1.symm,?_⟩
 ·rw[xa2 _ _ (xbA nbe)];exact xaf _ ((S.2.1 b nb).trans hb)
 ·obtain⟨sl,q⟩:=S.2.2 b o hb;refine⟨sl,?_⟩;rw[xa2 _ _ (xbA nbe)];exact xaf _ q
 ·refine⟨_,_,(xa2 _ _ (xbA n1)).trans (xaJ h1 rfl),rfl,?_⟩;rcases hpl with rfl |⟨_,_,_,_,_,_,_,rfl⟩<;>simp
def Wc (b1:s.heap.get? e=some oe)(b2:oe.data=.fields vs)(b3:vs[1]? =some (.ref T))(b4:s.heap.get? T=some oT)(b5:oT.data=.fields ts)(b6:3<ts.size)
  (k:Q () {s with heap:=s.heap.update T (Obj.mapFields (·.setIfInBounds 3 .none))}):wpAny M A (setFlight (.ref e) none) Q E s:=by
 unfold setFlight;refine xaa (xbu b1 b2 b3 ?_);rw[tG (by simp)];exact xb3 b4 b5 b6 k
def zcN (N:Noted fs z h h1 e oe T fl)(a4:h.get? e=some oe)(a5:oe.data=.fields vs):Noted fs z h (h1.update T (Obj.mapFields (·.setIfInBounds 3 .none))) e oe T .none:=by
 obtain⟨oT,ts,t1,t2,t3⟩:=N.tb;have ne:∀b o,h.get? b=some o->b≠T:=fun b o q=>xaR (xao (xar q) N.new);refine⟨fun b o n1 n2 n3 hb=>?_,fun b o n1 n2 n3 hb=>?_,?_,N.new,?_⟩
 ·rw[xa2 _ _ (xbA (ne b o hb))];exact N.keep b o n1 n2 n3 hb
 ·obtain⟨sl,q⟩:=N.slot b o n1 n2 n3 hb;exact⟨sl,by rw[xa2 _ _ (xbA (ne b o hb))];exact q⟩
 ·rw[xa2 _ _ (xbA (ne e oe a4))];exact N.exc
 ·have z3:3<ts.size:=(xbd.mp t3).1;exact⟨_,_,xbn _ t1 (xbI (xaY t2 _)),xaY t2 _,by simp[z3]⟩
def Yu (N:Noted fs z h s.heap e oe T fl)(a4:h.get? e=some oe)(a5:oe.data=.fields vs)(a6:1<vs.size)
  (k:∀h',Noted fs z h h' e oe T .none->Q () {s with heap:=h'}):wpAny M A (setFlight (.ref e) none) Q E s:=by
 obtain⟨oT,ts,t1,t2,t3⟩:=N.tb;refine Wc N.exc (xaY a5 _) (by simp[a6]) t1 t2 (xbd.mp t3).1 (k _ (zcN N a4 a5))
def zbq (a1:A.frames=some (env::outer))(a2:s.heap.FunFrames base (env::outer))(a3:env.frame=some L)
  (a4:s.heap.get? e=some oe) (a5:oe.data=.fields vs) (a6:vs[1]? =some .none) (k:∀h' T,Noted (frs (env::outer)) e s.heap h' e oe T .none->Q () {s with heap:=h'}):wpAny M A (leaving env (.ref e)) Q E s:=by
 have z1:=(xbd.mp a6).1;unfold leaving noteFrame;simp only[a3];refine xaa (xaa (xbu a4 a5 a6 ?_));rw[xab (by decide)];exact Ys a1 a2 a3 a4 a5 z1 fun h' T N=>Yu (s:={s with heap:=h'}) N a4 a5 z1 fun h2 N2=>k h2 T N2
def zca (a1:A.frames=some (env::outer))(a2:s.heap.FunFrames base (env::outer))(a3:env.frame=some L)
  (a4:s.heap.get? e=some oe) (a5:oe.data=.fields vs) (a6:vs[1]? =some (.ref T0)) (b1:T0≠e) (b2:s.heap.get? T0=some oT) (b3:oT.data=.fields ts) (b4:ts[3]? =some .none)
  (k:∀h' T,Noted (frs (env::outer)) T0 s.heap h' e oe T (rawInt L)->Q () {s with heap:=h'}):wpAny M A (noteFrame (.ref e) env) Q E s:=by
 have z1:=(xbd.mp a6).1;unfold noteFrame;simp only[a3];refine xaa (xbu a4 a5 a6 ?_);rw[tG (by simp)];refine xaa (xbu b2 b3 b4 ?_);rw[xab (by simp[rawInt])];refine xaa (xb3 b2 b3 (xbd.mp b4).1 ?_);have oth:∀b,b≠T0->(s.heap.update T0 (Obj.mapFields (·.setIfInBounds 3 Value.none))).get? b=s.heap.get? b:=fun b hb=>xa2 _ _ (xbA hb);have fr:∀b o,s.heap.get? b=some o->(∀us,o.data≠ .fields us)->b≠T0:=fun b o hb n r=>by
  rw[r,b2]at hb;cases hb;exact n ts b3
 refine Ys (s:={s with heap:=s.heap.update T0 (Obj.mapFields (·.setIfInBounds 3 Value.none))}) a1 (a2.of_keeps fun b o hb n=>⟨o,(oth b (fr b o hb n)).trans hb,rfl⟩) a3 ((oth e (xbA b1)).trans a4) a5 z1 fun h' T N=>k h' T ?_;exact⟨fun b o n1 n2 n3 hb=>N.keep b o n1 n2 n2 ((oth b n3).trans hb),fun b o n1 n2 n3 hb=>N.slot b o n1 n2 n2 ((oth b n3).trans hb),N.exc,by rw[<-Heap.size_after_update s.heap T0 (Obj.mapFields (·.setIfInBounds 3 Value.none))];exact N.new,N.tb⟩
end
section
variable {prog:Program}{w:World}{A:Around}{E:Value->Shared->Prop}{h:Heap}{g:Array GenState}{d:Drawn}{t:Nat}{os:OsState}
variable {nm q:Str}{C N:Addr}{bs bm bmB:List Value}{hdct:Bool}{sn:List Str}{sub:List Value}{ab:Bool}{col:Option Bool}{dd:Option Addr}{k0 k1 k2 k3 k5:Option Value}{B newId initId:String}
def zaY (F:ExcBaseFacts B newId initId bmB)(T:OwnTail h bmB bm) 
  (c1:h.get? C=some (excClassObj nm q C N bs bm hdct sn sub ab col dd k0 k1 k2 k3 k5 newId)) (c2:h.Ns N mN) (c3:mN "__init__"=some (.ref fI)) (c4:h.get? fI=some oI) (c5:oI.cls=.type "function") (c6:rest.length<=sizeLine)
  (k:∀h' e,Heap.MadeExcOf h h' e (.ref C) rest->wpAny (model prog w) A (call (.ref fI) (.ref e::rest)) (fun r s'=>r=.none/\Q (.done (.ret (.ref e))) s') E ⟨h',g,d,t,os⟩):
  wpAny (model prog w) A (Builtin.«type.__call__» ⟨.ref C::rest,[]⟩) Q E ⟨h,g,d,t,os⟩:=by
 repeat (first |with_reducible refine xbO c1 ?_ |with_reducible refine wpAny_madeBy_exc c1 ?_ |wp_step)
 refine codeAny_call_builtin_code (Code.quiet_builtin _ F.quiet) (wpAny_check_new_subT F T c1 (codeAny_exc_new_subT F T c1 ?_ c6));show wpAny _ _ _ _ _ _;have up : ∀ b o, h.get? b = some o -> ((h.push {cls:=.type "tuple",data:=.seq rest.toArray}).push
   {cls:=.ref C,data:=.fields #[.ref h.objs.size,.none,.none,.none,.bool false,.none]}).get? b=some o:=fun b o hb=>
  xaf _ (xaf _ hb)
 have at1 : ((h.push {cls:=.type "tuple",data:=.seq rest.toArray}).push
   {cls:=.ref C,data:=.fields #[.ref h.objs.size,.none,.none,.none,.bool false,.none]}).get? (h.objs.size + 1)=some
   {cls:=.ref C,data:=.fields #[.ref h.objs.size,.none,.none,.none,.bool false,.none]}:=by heap_get
 have hcC:(Value.ref C::bm).contains (.ref C)=true:=by simp
 have c1':=up _ _ c1;have c4':=up _ _ c4;have T':=T.keeps up;have c2':=c2.keeps up;unfold isInstance
 repeat (first |with_reducible refine xbO at1 ?_ |(with_reducible refine xcE c1' ?_;rw[hcC]) |wp_step)
 show wpAny _ _ (typeLookup (.ref C) _) _ _ _;refine wpAny_typeLookup_tail c1' c2' T' F.mroIs F.init.lookup ?_;rw[c3];refine xbX (xaa ?_);unfold bindSpecial;refine xaa (wpAny_typeOf (T:="function") ⟨_,c4',c5⟩ ?_);rw[tG (by decide)];refine xaj (xaa (xa3 (k _ (h.objs.size + 1) ⟨up,xb1 (xcC _),h.objs.size,at1,xb1 (xad _),?_⟩) (fun r s' hr=>?_) fun _ _ x=>x))
 ·exact xaf _ (Heap.get?_push_at rfl rfl)
 ·obtain⟨rfl,z⟩:=hr
  wp_walk
  exact z
def zdj (F:ExcBaseFacts B newId initId bmB)(T:OwnTail h bmB bm) 
  (c1:h.get? C=some (excClassObj nm q C N bs bm hdct sn sub ab col dd k0 k1 k2 k3 k5 newId)) (c2:h.Ns N mN) (c3:mN "__init__"=some (.ref fI)) (c4:h.get? fI=some oI) (c5:oI.cls=.type "function") (c6:rest.length<=sizeLine)
  (k:∀h' e,Heap.MadeExcOf h h' e (.ref C) rest->wpAny (model prog w) (A.under (.builtin "type.__call__" ⟨.ref C::rest,[]⟩)) (call (.ref fI) (.ref e::rest)) (fun r s'=>r=.none/\Q (.ref e) s') E ⟨h',g,d,t,os⟩):
  wpAny (model prog w) A (call (.ref C) rest) Q E ⟨h,g,d,t,os⟩:=by
 have f1:=tc_lookup;have f2:=tc_bind (.ref C);have f3:(⟨h,g,d,t,os⟩:Shared).TypeIs (.ref C) "type":=⟨_,c1,rfl⟩;refine xcy (codeAny_of_tree ?_);show wpAny _ _ (callAny (.ref C) _) _ _ _
 repeat (any_goals (first |assumption |with_reducible refine xbO c1 ?_ |wp_step))
 exact⟨rfl,codeAny_call_builtin_at (Code.quiet_builtin _ (by x_go)) entry_typeCall (wpAny_check_type_call_sub c1 (zaY F T c1 c2 c3 c4 c5 c6 fun h' e m=>k h' e m))⟩
def zbJ (hh:A.handled=none)
  (k : wpAny (model prog w) A x (fun v s₁=>∃e oe vs,v=.ref e/\(∃C nm q N bs bm hdct sn sub ab col dd k0 k1 k2 k3 k5 newId,s₁.heap.get? C=some (excClassObj nm q C N bs bm hdct sn sub ab col dd k0 k1 k2 k3 k5 newId)/\bm.contains (.type "BaseException")=true/\oe.cls=.ref C)/\
   s₁.heap.get? e=some oe/\oe.data=.fields vs/\vs[1]? =some .none/\E (.ref e) s₁) E s):
  wpAny (model prog w) A (raiseStmt env (some x) none) Q E s:=by
 unfold raiseStmt;refine xaa (xa3 k (fun v s₁ h₁=>?_) fun _ _ x=>x);obtain⟨e,oe,vs,rfl,⟨C,nm,q,N,bs,bm,hdct,sn,sub,ab,col,dd,k0,k1,k2,k3,k5,newId,hC,hb,hc⟩,he,hd,h1,hE⟩:=h₁;have hcB:(Value.ref C::bm).contains (.type "BaseException")=true:=by rw[xdx,hb,xdW]
 obtain⟨oc,od,odt,osl⟩:=oe;dsimp only at hc hd;subst hc hd;obtain⟨hp,g,d,tk,os⟩:=s₁
 repeat (first |with_reducible refine xbO he ?_ |with_reducible refine xbO hC ?_ |(with_reducible refine xcE hC ?_;rw[hcB]) |with_reducible refine xbu he rfl h1 ?_ |wp_step)
 exact wpAny_raiseNew_none hh hE
end
section
variable {prog:Program}{w:World}{A:Around}{E:Value->Shared->Prop}{h:Heap}{g:Array GenState}{d:Drawn}{t:Nat}{os:OsState}
variable {nm q:Str}{C N:Addr}{bs bm bmB:List Value}{hdct:Bool}{sn:List Str}{sub:List Value}{ab:Bool}{col:Option Bool}{dd:Option Addr}{k0 k1 k2 k3 k5:Option Value}{B newId initId:String}
def zgV (F:ExcBaseFacts B newId initId bmB)(T:OwnTail h bmB bm) 
  (c1:h.get? C=some (excClassObj nm q C N bs bm hdct sn sub ab col dd k0 k1 k2 k3 k5 newId)) (e1:h.get? e=some oe) (e2:oe.cls=.ref C) (e3:oe.data=.fields vs) (e4:vs[0]? =some (.ref t0)) (hz:rest.length<=sizeLine)
  (k:Q .none ⟨(h.push {cls:=.type "tuple",data:=.seq rest.toArray}).update e (Obj.mapFields (·.setIfInBounds 0 (.ref h.objs.size))),g,d,t,os⟩):
  wpAny (model prog w) A (call (.builtin initId) (.ref e::rest)) Q E ⟨h,g,d,t,os⟩:=by
 refine xcy (xdd F.init.plain F.initEntry (wpAny_check_init_subT F T c1 e1 e2 ?_));unfold Builtin.«BaseException.__init__»;dsimp only;rw[xab (by simp)];unfold newTuple Builtin.BaseException.bexcPut;have z0:0<vs.size:=(xbd.mp e4).1;have e1':=xaf (h:=h) {cls:=.type "tuple",data:=.seq rest.toArray} e1;refine xaa (xbl (xaa (xaa (xbu e1' e3 e4 (xaa (xb3 e1' e3 z0 ?_))))) (by show rest.toArray.size<=sizeLine;rw[xai];exact hz));exact wpAny_letGo (xaj k)
def Uq 
  (c1:h.get? C=some (excClassObj nm q C N bs bm hdct sn sub ab col dd k0 k1 k2 k3 k5 newId)) (c2:h.get? c=some (excClassObj nm' q' c N' bs' bm' hdct' sn' sub' ab' col' dd' j0 j1 j2 j3 j5 newId)) (e1:h.get? e=some oe) (e2:oe.cls=.ref C)
  (hb:bm'.contains (.type "BaseException")=true) (k:Q ((Value.ref C::bm).contains (.ref c)) ⟨h,g,d,t,os⟩):wpAny (model prog w) A (excMatches (.ref e) (.ref c)) Q E ⟨h,g,d,t,os⟩:=by
 have hcB:(Value.ref c::bm').contains (.type "BaseException")=true:=by rw[xdx,hb,xdW]
 have f:=tc_notTuple;unfold excMatches;generalize hr:(Value.ref C::bm).contains (.ref c)=r at k
 repeat (first |(with_reducible refine xbO e1 ?_;rw[e2]) |with_reducible refine xbO c2 ?_ |(with_reducible refine xcE c2 ?_;rw[hcB]) |(with_reducible refine xcE c1 ?_;rw[hr]) |wp_step)
 cases r<;>(wp_walk;exact k)
end
abbrev Cj:List Value:=[.type "ValueError",.type "Exception",.type "BaseException",.type "object"]
def Mx:List Value->Bool
 |.ref _::r=>Mx r
 |l=>l==Cj
theorem zav:∀(l:List Value),Mx l=true->∃as:List Addr,l=as.map Value.ref ++ Cj
  | [],e=>⟨[],xaZ.mp e⟩
  |v::r,e=>by
    cases v
    case ref c=>
      obtain⟨as,h⟩:=zav r e;exact⟨c::as,by rw[h];rfl⟩
    all_goals exact⟨[],xaZ.mp e⟩
theorem Zm (self:Value):∀as:List Addr,refuseLoop self "__setattr__" (as.map Value.ref ++ Cj)=pure ()
 | []=>PySem.F.store_ValueError.passes self
 |c::as=>(refuseLoop_ref self "__setattr__" c _).trans (Zm self as)
def zf2 (as:List Addr):(as.map Value.ref ++ Cj).contains (.type "object")=true:=by
 induction as with
 |nil=>decide +kernel
 |cons c as ih=>rw[xak,xbf,xdx,ih,xdW]
noncomputable def aU (K:Fgx) (C:Addr):Bool:=match K.lookup C with
  | some ⟨.type "type", _, .cls cd, sl⟩ => (match cd.mro,sl.toList with
    |.ref c::bm,[_,_,_,_,some (.builtin n),_]=>c==C && (n=="ValueError.__new__" && (!cd.hasDel && (PySem.W.tailIn K Cj bm && (PySem.W.nsOkIn K cd.ns && (cd.hasDict && Mx bm)))))
    |_,_=>false)
  |_=>false
structure XCls (h:Heap)(C:Addr)(nm qn:Str)(N:Addr)(bs bm:List Value)(sn:List Str)(sub:List Value)(ab:Bool)(col:Option Bool)(dd:Option Addr)(k0 k1 k2 k3 k5:Option Value):Prop where
 obj:h.get? C=some (excClassObj nm qn C N bs bm true sn sub ab col dd k0 k1 k2 k3 k5 "ValueError.__new__")
 tail:OwnTail h Cj bm
 ns:h.Ns N (h.nsMap N)
 over:Mx bm=true
def xG {K:Fgx}{h:Heap}{C:Addr}(X:K.In h)(q:aU K C=true):∃nm qn N bs bm sn sub ab col dd k0 k1 k2 k3 k5,
  XCls h C nm qn N bs bm sn sub ab col dd k0 k1 k2 k3 k5/\K.lookup C=some (excClassObj nm qn C N bs bm true sn sub ab col dd k0 k1 k2 k3 k5 "ValueError.__new__"):=by
 unfold aU at q;split at q
 ·rename_i dd cd sl ho;split at q
  ·rename_i c bm k0 k1 k2 k3 n k5 hm hs;simp only[xac,xaZ,xcp]at q;obtain⟨q1,q2,q3,q4,q5,q6,q7⟩:=q;obtain⟨nm,bs,mro,ns,qn,hd,sn,sub,ab,col,del⟩:=cd;obtain⟨sl⟩:=sl;dsimp only at hm hs q3 q5 q6;subst q1 q2 hm q3 q6 hs;exact⟨nm,qn,ns,bs,bm,sn,sub,ab,col,dd,k0,k1,k2,k3,k5,⟨X _ _ ho,PySem.W.tail_of_in X q4,.of_isNs (PySem.W.isNs_of_in X q5),q7⟩,ho⟩
  ·cases q
 ·cases q
noncomputable def Cq (K:Fgx) (C f:Addr):Bool:=match K.lookup C with
 |some ⟨_,_,.cls cd,_⟩=>PySem.W.nsIn K cd.ns "__init__"==some (some (.ref f)) && PySem.W.typeIn K (.ref f)==some (.type "function")
 |_=>false
noncomputable def Iu (K:Fgx) (C:Addr):Bool:=match K.lookup C with
 |some ⟨_,_,.cls cd,_⟩=>PySem.W.nsIn K cd.ns "__init__"==some none
 |_=>false
def zbY {K:Fgx}{h:Heap}{N:Addr}{mg:Mgx}{n:Str}{v:Value}(X:K.In h)(G:h.Ns N mg)(e:PySem.W.nsIn K N n=some (some v)):mg n=some v:=by
 obtain⟨o,es,ep,ho,hd,_,hf⟩:=G;unfold PySem.W.nsIn at e;split at e
 ·rename_i q;have z:=X _ _ q;rw[ho]at z;cases z;cases hd;split at e
  ·rename_i en he;cases e;rw[<-hf];unfold nsFind findBy;rw[<-xdu,he];rfl
  ·split at e<;>cases e
 ·cases e
noncomputable def zG (K:Fgx) (C:Addr):Bool:=PySem.W.findIn K (.ref C) "__getattribute__"==some (some (.builtin "BaseException.__getattribute__")) &&
 (PySem.W.findIn K (.ref C) "__getattr__"==some none && PySem.W.mroIn K C (.type "BaseException")==some true)
section
variable {prog:Program}{w:World}{A:Around}{E:Value->Shared->Prop}{s:Shared}{K:Fgx}{x C:Addr}{ox:Obj}{od:Option Obj}{name:Str}{tk:Tok}
def Ip {fill expr:Bool}{Q:Value->Shared->Prop}(X:K.In s.heap)(q:zG K C=true)(I:PySem.W.InstAt s.heap x ox C od)
  (h : wpAny (model prog w) A.in1 (Builtin.«object.__getattribute__» ⟨[.ref x, .str name tk], []⟩) (fun fin s'=>match fin with
   |.done (.ret v)=>wpAny (model prog w) A (handedOut v) Q E s'
   |_=>False) (fun _ _=>False) s):wpAny (model prog w) A (getAttrBy (.ref x) (.str name tk) fill expr) Q E s:=by
 simp only[zG,xac,xaZ]at q;obtain⟨g1,g2,g3⟩:=q;have M0:=I.type (M:=model prog w);have M1:=xcx (M:=model prog w) X g1;have M2:=xcx (M:=model prog w) X g2;have M3:PySem.W.Looks (model prog w) s.heap (isInstance (.ref x) (.type "BaseException")) true:=M0.andThen (xeu X g3);have FB:=PySem.F.excAttr_ValueError;unfold getAttrBy;refine xbX (xaa (M0.here (xaa (M1.here ?_))));dsimp only;rw[show(Value.builtin "BaseException.__getattribute__"==Value.builtin "object.__getattribute__")=false from by x_go,xbv,xab xaz];unfold getAttrByItsOwn;refine xaa (m:=hookBefore (.ref C)) (M2.here (xaa (xcV (xbX ?_))));unfold callGetattribute;rw[xab (by cases expr<;>decide +kernel)]
 unfold boundAndCalled;rw[FB.ga.bind];refine xaa (xaj ?_);refine xcy (xdd FB.ga.plain PySem.F.entry_bexc_ga (@PySem.W.check_slot (model prog w) _ _ s "BaseException.__getattribute__" "BaseException" "__getattribute__" (.ref x) [.str name tk] [] _ (by x_go) (by x_go) M3 (PySem.F.args_bexc_ga _ _) ?_));refine xa3 h (fun fin s' z=>?_) fun _ _ z=>z.elim;rcases fin with(v |_ |_ |_) |c<;>first |exact z |exact z.elim
def zeM {v:Value}{Q:Fin->Shared->Prop}(X:K.In s.heap)(I:PySem.W.InstAt s.heap x ox C od)(hf:PySem.W.findObj K C od name=some (.value v))(k:Q (.done (.ret v)) s):
  wpAny (model prog w) A (Builtin.«object.__getattribute__» ⟨[.ref x,.str name tk],[]⟩) Q E s:=by
 have M0:=I.type (M:=model prog w);have M1:=xeC (M:=model prog w) X I hf;refine xaa (xaj (xaa (xaj (xaa (M0.here (xaa (M1.here ?_)))))));exact xaj k
def zfe {g a:Value}{P:Value->Shared->Prop}(X:K.In s.heap)(I:PySem.W.InstAt s.heap x ox C od)(hf:PySem.W.findObj K C od name=some (.bind g a))(k:wpAny (model prog w) A (call g [a,.ref x,.ref C]) P E s):
  wpAny (model prog w) A (Builtin.«object.__getattribute__» ⟨[.ref x, .str name tk], []⟩) (fun fin s'=>match fin with
   |.done (.ret v)=>P v s'
   |_=>False) E s:=by
 have M0:=I.type (M:=model prog w);have M1:=xeC (M:=model prog w) X I hf;refine xaa (xaj (xaa (xaj (xaa (M0.here (xaa (M1.here ?_)))))));show wpAny _ _ (holding [a] (call g [a,.ref x,.ref C]) >>=ret) _ _ _;exact xaa (xbX (xa3 k (fun v s' z=>xaj z) fun _ _ z=>z))
end
noncomputable def sE (K:Fgx) (C:Addr) (name:Str):Bool:=
 PySem.W.findIn K (.ref C) "__setattr__" == some (some (.builtin "object.__setattr__")) && (PySem.W.takerIn K C name==some none &&
  (zG K C && (PySem.W.hasDictIn K C && PySem.W.findIn K (.ref C) name==some none)))
section
variable {prog:Program}{w:World}{A:Around}{E:Value->Shared->Prop}{s:Shared}{K:Fgx}{x dx C:Addr}{ox:Obj}{vs:Array Value}{name:Str}{v:Value}
def zk5 {expr:Bool}{mA:Mgx}{Q:Value->Shared->Prop}(X:K.In s.heap)(q:sE K C name=true)(a1:s.heap.get? x=some ox)(a2:ox.cls=.ref C)(a3:ox.dict=some dx)(a4:ox.data=.fields vs)(a5:s.heap.Ns1 dx mA)
  (a6:mA name=some v) (a7:PySem.W.handedIn v=true) (k:Q v {s with toks:=s.toks + 1}):wpAny (model prog w) A (getAttr (.ref x) name expr) Q E s:=by
 simp only[sE,xac,xaZ]at q;obtain⟨od,e1,e2⟩:=JQ a5;have J:PySem.W.InstAt s.heap x ox C (some od):=⟨a1,a2,by unfold PySem.W.notCls;rw[a4],by rw[a3];exact e1⟩;unfold getAttr;refine xaa (wpAny_mkText (Ip (s:={s with toks:=s.toks + 1}) X q.2.2.1 J (zeM (s:={s with toks:=s.toks + 1}) X J (PySem.W.findObj_own q.2.2.2.1 q.2.2.2.2 rfl (by rw[e2,a6])) ?_)));exact xeN a7 k
def zlI {Q:Unit->Shared->Prop}(X:K.In s.heap)(q0:aU K C=true)(q:sE K C name=true)(a1:s.heap.get? x=some ox)(a2:ox.cls=.ref C)(a3:ox.dict=none)(a4:ox.data=.fields vs)
    (k:∀h' tk,(∀b o,b≠x->s.heap.get? b=some o->h'.get? b=some o)->h'.get? x=some {ox with dict:=some s.heap.objs.size}->h'.Ns1 s.heap.objs.size (fun y=>if y=name then some v else none)->Q () {s with heap:=h',toks:=tk}):
    wpAny (model prog w) A (setAttr (.ref x) name v) Q E s:=by
  simp only[sE,xac,xaZ]at q;obtain⟨g1,g2,_,g4,_⟩:=q;obtain⟨nm,qn,N,bs,bm,sn,sub,ab,col,dd,k0,k1,k2,k3,k5,Y,lk⟩:=xG X q0;obtain⟨as,hbm⟩:=zav bm Y.over;have J:PySem.W.InstAt s.heap x ox C none:=⟨a1,a2,by unfold PySem.W.notCls;rw[a4],by rw[a3];trivial⟩;refine xeL X J g1 ?_;have SF:=PySem.F.store_object;obtain⟨cd,hc,hd⟩:=xcw g4;have hcd:cd.mro=(C::as).map Value.ref ++ Cj:=by
    unfold PySem.W.clsIn at hc;rw[lk]at hc;cases hc;show Value.ref C::bm=_;rw[hbm];rfl
  have ne:cd.mro.isEmpty=false:=by rw[hcd];rfl
  have sub2:PySem.W.Looks (model prog w) s.heap (isInstance (.ref x) (.type "object")) true:=
    J.type.andThen (xeu X (by unfold PySem.W.mroIn;rw[hc,Option.bind_some,xab (by rw[ne];decide),hcd,zf2]))
  refine xdd SF.slot.plain SF.entry (@PySem.W.check_slot (model prog w) _ _ {s with toks:=s.toks + 1} "object.__setattr__" "object" "__setattr__" (.ref x) [.str name s.toks,v] [] _ SF.kind SF.split sub2 (SF.args (.ref x) (.str name s.toks) v) ?_);obtain⟨attr,ha,hr⟩:=xce.mp g2;have hm:PySem.W.Looks (model prog w) s.heap (mroOf (.ref C)) cd.mro:=(xdj X hc).andThen .now;have L3:PySem.W.Looks (model prog w) s.heap (Builtin.ObjectAttr.storeTaker? attr) none:=by
    cases attr with
    |none=>exact .now
    |some a=>
      obtain⟨b,hb,e⟩:=xae.mp hr;refine(PySem.W.looks_takesIn X hb).andThen ?_;cases b
      · exact .now
      · cases e
  rw[PySem.W.osa_eq,refuse_eq];refine xaa (xaa (xbG (s:={s with toks:=s.toks + 1}) J.type (xaa (xbG (s:={s with toks:=s.toks + 1}) hm ?_))));rw[hcd,Zm];refine xaj (xaa (xbG (s:={s with toks:=s.toks + 1}) J.type (xaa (xbG (s:={s with toks:=s.toks + 1}) (xcx X ha) (xaa (xbG (s:={s with toks:=s.toks + 1}) L3 ?_))))));obtain⟨oc,odi,oda,osl⟩:=ox;dsimp only at a2 a3 a4;subst a2 a3 a4;refine xaa (xaj (xaa (xaa (xdp a1 (xaa (xbG (s:={s with toks:=s.toks + 1}) (xdj X hc) ?_))))));rw[hd];have hx1:(s.heap.push {cls:=.type "dict",data:=.dict #[]}).get? x=some _:=xaf _ a1;have hxs:x≠s.heap.objs.size:=xaR (xar a1);refine xaa (wpAny_alloc' ?_);refine xaa (wpAny_update' hx1 ?_);refine xaj ?_;have hgd:((s.heap.push {cls:=.type "dict",data:=.dict #[]}).update x fun o=>{cls:=o.cls,dict:=some s.heap.objs.size,data:=o.data,slots:=o.slots}).get? s.heap.objs.size=some {cls:=.type "dict",data:=.dict #[]}:=
    (Heap.get?_update_ne _ _ _ _ hxs.symm).trans (Heap.get?_push_at rfl rfl)
  have hnd:((s.heap.push {cls:=.type "dict",data:=.dict #[]}).update x fun o=>{cls:=o.cls,dict:=some s.heap.objs.size,data:=o.data,slots:=o.slots}).Ns s.heap.objs.size (fun _=>none):=
    ⟨_, #[],_,hgd,rfl,fun e he=>absurd he (by simp),fun _=>rfl⟩
  show wpAny _ _ (Builtin.ObjectAttr.storeInDict s.heap.objs.size (.str name s.toks) name v) _ _ _;unfold Builtin.ObjectAttr.storeInDict Builtin.ObjectAttr.newKeyGuard;refine xaa (xaj (xaa (wpAny_nsSet1 (Heap.Ns1.of_empty hnd) fun h' hn' hs=>?_)));obtain⟨oD,esD,epD,hoD,hdD,hcD⟩:=hn'.count (Within.cons name v Within.nil);refine xaa (wpAny_lookBehind hoD (by rw[hdD];exact pastItsLine_dict (xau hcD (by rw[xal,xbM,xav];omega))) ?_);refine xaj (k h' _ (fun b o nb hb=>?_) ?_ hn')
  · exact(hs.2 b (xaR (xar hb))).trans ((Heap.get?_update_ne _ _ _ _ nb).trans (xaf _ hb))
  · exact(hs.2 x hxs).trans (xbn _ hx1 rfl)
end
noncomputable def xo (a C:Addr) (dx:Option Addr) (b:Bool):HO:=.ext fun h=>∃oe vs t,h.get? a=some oe/\oe.cls=.ref C/\oe.dict=dx/\oe.data=.fields vs/\vs.size=6/\vs[0]? =some (.ref t)/\(b=true->vs[1]? =some .none)
def Iv (x:∃oe vs t,h.get? a=some oe/\oe.cls=.ref C/\oe.dict=dx/\oe.data=.fields vs/\vs.size=6/\vs[0]? =some (.ref t)/\(b=true->vs[1]? =some .none)):
  gj P w H h a (xo a C dx b):=by
 obtain⟨oe,vs,t,e,r⟩:=x;exact⟨⟨oe,vs,t,e,r⟩,⟨oe,e⟩,fun h1 h2 ⟨oe,vs,t,e,r⟩ k=>⟨oe,vs,t,k _ e,r⟩⟩
def MK (h:Heap)(a T:Addr):Prop:=∃oe vs oT ts,h.get? a=some oe/\oe.data=.fields vs/\vs[1]? =some (.ref T)/\T≠a/\h.get? T=some oT/\oT.data=.fields ts/\ts[3]? =some .none
section
variable {P:Program}{w:World}{H:Hp}{h h':Heap}{fs ch:List Addr}{z a C T:Addr}{oe:Obj}{fl:Value}{dx:Option Addr}{b:Bool}{vs:Array Value}
def Yt (N:Noted fs z h h' a oe T .none)(e1:h.get? a=some oe)(e2:oe.data=.fields vs)(e3:vs.size=6):MK h' a T:=by
 obtain⟨oT,ts,t1,t2,t3⟩:=N.tb;refine⟨_,_,oT,ts,N.exc,xaY e2 _,by simp[e3],fun q=>?_,t1,t2,t3⟩;have z:=xao (xar e1) N.new;rw[q]at z;exact absurd z (xbE _)
def zdD (N:Noted fs z h h' a oe T fl)(x:∃vs t,oe.cls=.ref C/\oe.dict=dx/\oe.data=.fields vs/\vs.size=6/\vs[0]? =some (.ref t)):∃oe vs t,h'.get? a=some oe/\oe.cls=.ref C/\oe.dict=dx/\oe.data=.fields vs/\vs.size=6/\vs[0]? =some (.ref t)/\(false=true->vs[1]? =some .none):=by
 obtain⟨vs,t,c1,c2,c3,c4,c5⟩:=x;refine⟨_,_,t,N.exc,(xdJ _ _).trans c1,?_,xaY c3 _,by simp[c4],?_,fun q=>by cases q⟩
 ·obtain⟨_,_,od,_⟩:=oe;dsimp only at c3;subst c3;exact c2
 ·rw[xc4 (by decide)];exact c5
def zbv (N:Noted fs z h h' a oe T fl)(ha:H a=some (xo a C dx b))(hz:z=a\/z∈ch):Un fs ch H (upd H a (xo a C dx false)) h h':=by
 have n1:∀c,H c=none->c≠a:=fun c n q=>by rw[q,ha]at n;cases n
 have n2:∀c,c≠a->c∉ch->c≠z:=fun c n m q=>by
  rcases hz with r |r
  ·exact n (q.trans r)
  ·exact m (q ▸ r)
 have n3:∀c u,H c=some u->(∀φ,u≠ .ext φ)->c≠a:=fun c u q m r=>by
  rw[r,ha]at q;exact m _ (xaw q).symm
 refine ⟨fun c o q n hc hx=>N.keep c o hc (n1 c n) (n2 c (n1 c n) hx) q,fun c o q n hc hx=>N.slot c o hc (n1 c n) (n2 c (n1 c n) hx) q,fun c o q n hx=>by rw[aZ (n1 c n)];exact n,fun c o q hx=>?_,
  fun c xs q=>by rw[aZ (n3 c _ q (by intro _ z;cases z))];exact q,fun c o u q=>by rw[aZ (n3 c _ q (by intro _ z;cases z))];exact q,fun c ps q=>⟨#[],by rw[aZ (n3 c _ q (by intro _ z;cases z)),q];simp⟩⟩
 by_cases ca:c=a
 ·rw[ca];exact⟨_,N.exc⟩
 ·by_cases cf:c∈fs
  ·obtain⟨sl,r⟩:=N.slot c o cf ca (n2 c ca hx) q;exact⟨_,r⟩
  ·exact⟨o,N.keep c o cf ca (n2 c ca hx) q⟩
def Wv (ok:gH P w H h)(N:Noted fs z h h' a oe T fl)(ha:H a=some (xo a C dx b))(hz:z=a\/H z=none)(hf:∀c∈fs,H c=none)
  (x:∃vs t,oe.cls=.ref C/\oe.dict=dx/\oe.data=.fields vs/\vs.size=6/\vs[0]? =some (.ref t)):gH P w (upd H a (xo a C dx false)) h':=fun c u q=>by
 have n3:∀c u,H c=some u->(∀φ,u≠ .ext φ)->c≠a:=fun c u q m r=>by
  rw[r,ha]at q;exact m _ (xaw q).symm
 by_cases hc:c=a
 ·subst hc;rw[gq]at q;cases q;exact Iv (zdD N x)
 ·rw [aZ hc] at q;have kp : ∀ d u v, H d = some u -> d ≠ a -> h.get? d = some v -> h'.get? d = some v := fun d u v q nd r => N.keep d v (fun m => by rw [hf d m] at q; cases q) nd (fun e=>by
   rcases hz with g |g
   ·exact nd (e.trans g)
   ·rw[e,g]at q;cases q) r
  refine(ok c u q).stay (fun d v hd r=>?_) (fun d r=>by rw[aZ (n3 d _ r (by intro _ z;cases z))];exact r) fun d xs r=>by rw[aZ (n3 d _ r (by intro _ z;cases z))];exact r
  rcases hd with rfl |hd
  ·exact kp d u v q hc r
  ·exact kp d _ v hd (n3 d _ hd (by intro _ z;cases z)) r
def Un.less (u:Un (L::fs) ch H H' h h')(n:h.get? L=none):Un fs ch H H' h h':=by
 have m:∀c o,h.get? c=some o->c≠L:=fun c o q e=>by rw[e,n]at q;cases q
 exact⟨fun c o q k hc hx=>u.keep c o q k (fun z=>(xaq.mp z).elim (m c o q) hc) hx,fun c o q k hc hx=>u.slot c o q k (xan _ hc) hx,u.free,u.there,u.tups,u.frzs,u.tbls⟩
end
noncomputable def sG (P:Program) (w:World):nQ:=fun outer H s E e s'=>∃a C dx H' T,e=.ref a/\s'.os=s.os/\AllBare s'.gens/\Un (frs outer) [] H H' s.heap s'.heap/\gH P w H' s'.heap/\H' a=some (xo a C dx false)/\H' T=none/\s.heap.objs.size<=T/\MK s'.heap a T/\E (.ref C) dx H'
section
variable {X:Cx}{pins:Pnx}{σ:St}{H:Hp}{s:Shared}
def zcW {P:Program}{w:World}{K:Fgx}{mg:Mgx}{base:Heap}{N:List Str}{qual:Str}{scope:Scope}{f:Addr}{cd:Value}{A:Around}{outer:List PySem.Env}{E:XK}{H1:Hp}{s1:Shared}{a C:Addr}{dx:Option Addr}
  (I:Inv (kY (sG P w) P w K mg base N qual scope f cd A outer s H E) pins σ H1 s1) (ha:H1 a=some (xo a C dx true)) (hE:E (.ref C) dx (upd H1 a (xo a C dx false))):(kY (sG P w) P w K mg base N qual scope f cd A outer s H E).xe (.ref a) s1:=by
 obtain⟨oe,vs,t,e1,e2,e3,e4,e5,e6,e7⟩:=(I.hok a _ ha).1;have fr:=I.ok.frames;have st:=I.stack;refine zbq fr st rfl e1 e4 (e7 rfl) fun h' T Nn=>?_;have hL:s.heap.get? (envOfC qual scope s.heap.objs.size f cd).locals=none:=xb1 I.ok.above;have u1:Un (s.heap.objs.size::frs outer) [] H H1 s.heap s1.heap:=Un.mono (fs':=s.heap.objs.size::frs outer) (ex':=[]) I.base (fun b hb=>xan _ hb) fun b hb=>hb;have u2:Un (s.heap.objs.size::frs outer) [] H1 (upd H1 a (xo a C dx false)) s1.heap h':=zbv Nn ha (.inl rfl);have hT:H1 T=none:=I.hok.fresh Nn.new;have nT:T≠a:=fun q=>by rw[q,ha]at hT;cases hT
 refine⟨a,C,dx,_,T,rfl,I.os,I.bare,(u1.trans u2).less hL,Wv I.hok Nn ha (.inl rfl) (fun c hc=>I.stkFree c hc) ⟨vs,t,e2,e3,e4,e5,e6⟩,gq,by rw[aZ nT];exact hT,xau I.sz Nn.new,Yt Nn e1 e4 e5,hE⟩
end
def gj.some_of (x:gj P w H h a o):∃u,h.get? a=some u:=by
 cases o with
 |lst xs=>obtain⟨_,_,_,_,e⟩:=x;exact⟨_,e⟩
 |tup xs=>obtain⟨_,_,_,u,e,_⟩:=x;exact⟨u,e⟩
 |dK kvs=>obtain⟨_,_,_,_,u,_,_,e,_⟩:=x;exact⟨u,e⟩
 |dT kvs=>obtain⟨_,_,_,_,u,_,_,e,_⟩:=x;exact⟨u,e⟩
 |set S n=>obtain⟨u,_,_,_,e,_⟩:=x;exact⟨u,e⟩
 |ins C dx fs=>obtain⟨_,_,_,e,_⟩:=x;exact⟨_,e⟩
 |own y=>exact x
 |xd fs=>obtain⟨_,⟨u,_,_,e,_⟩,_⟩:=x;exact⟨u,e⟩
 |rng lo hi=>obtain⟨_,_,_,e⟩:=x;exact⟨_,e⟩
 |frz ob u=>obtain⟨e,_⟩:=x;exact⟨_,e⟩
 |tbl ps=>exact⟨_,x⟩
 |met f y=>exact⟨_,x⟩
 |ext φ=>exact x.2.1
theorem zdU (e:H a=some o):upd H a o=H:=by
 funext b;unfold upd
 split
 ·subst_vars;exact e.symm
 ·rfl
def yr (ok:gH P w H h)(e:H a=some (xo a C dx b)):
  ∃oe vs t,h.get? a=some oe/\oe.cls=.ref C/\oe.dict=dx/\oe.data=.fields vs/\vs.size=6/\vs[0]? =some (.ref t)/\(b=true->vs[1]? =some .none):=(ok a _ e).1
section
variable {X:Cx}{pins:Pnx}{σ:St}{H:Hp}{s:Shared}
def Inv.laidN (I:Inv X pins σ H s)(k:∀b u,s.heap.get? b=some u->h'.get? b=some u)(n:s.heap.get? a=none)(new:gj X.prog X.w (upd H a o) h' a o):
    H a=none/\Inv X pins σ (upd H a o) {s with heap:=h',toks:=t'}:=by
  have hn:H a=none:=by
    cases q:H a with
    |none=>rfl
    |some u=>
      obtain⟨v,e⟩:=(I.hok a u q).some_of;rw[n]at e;cases e
  refine ⟨hn, I.un ⟨fun b u q _ _ _=>k b u q,fun b u q _ _ _=>⟨u.slots,k b u q⟩,fun b u q m _=>?_,fun b u q _=>⟨u,k b u q⟩,fun b xs q=>by rw[aZ (kh q hn)];exact q,fun b u xs q=>by rw[aZ (kh q hn)];exact q,
    fun b ps q=>⟨#[],by rw[aZ (kh q hn),q];simp⟩⟩ fun b u q=>?_⟩
  · rw[aZ (fun z=>by rw[z,n]at q;cases q)];exact m
  · by_cases hb:b=a
    · subst hb;rw[gq]at q;cases q;exact new
    · rw[aZ hb]at q;exact(I.hok b u q).stay (fun c v _ r=>k c v r) (fun c r=>by rw[aZ (kh r hn)];exact r) fun c xs r=>by rw[aZ (kh r hn)];exact r
noncomputable def Tv (C:Addr) (sp:Sp) (te:TE):TE:=fun σ H Q=>te σ H fun v H1=>∀a,H1 a=none->sp [.ref a,v] (upd H1 a (xo a C none true)) (fun r H2=>r=.non/\Q (.ref a) H2) E0
def zg2 (q1:aU X.K C=true)(q2:Cq X.K C f=true)(kp:PySem.W.keepIn X.K (.ref C)=true)
    (F:FnOk X.prog X.w X.K X.mg X.base nF k f fd ps sp) (hr:Room (k + 1) X.A) (hg:Gl X x) (hm:X.mg x=some (.ref C)) (hb:Binds X.K fd ps []) (hps:ps.length<=100) (he:PE X e te) (hdb:(x==("__debug__":Str))=false)
    (hs:starEach [e] X.env=[(false,eval e X.env)]):PE X (.Call (.Name x p) [e] [] pos) (Tv C sp te):=by
  intro pins s σ H Q I h;refine xbH (tZ I hg hm ?_ hdb);refine xci (h₀:=X.base) I.ok.mod.kin kp (aQ (q_ he wU hs pos pins s σ H (fun vs H1=>∀a,H1 a=none->sp (.ref a::vs) (upd H1 a (xo a C none true)) (fun r H2=>r=.non/\Q (.ref a) H2) E0) I h) fun us s1 ⟨vs,H1,I1,r,q⟩=>⟨I1.kIn,?_⟩) hs rfl;obtain⟨nm,qn,N,bs,bm,sn,sub,ab,col,dd,k0,k1,k2,k3,k5,Y,lk⟩:=xG I1.kIn q1;unfold Cq at q2;rw[lk]at q2;simp only[xac,xaZ]at q2;have c3:=zbY I1.kIn Y.ns q2.1;obtain⟨oI,c4,c5⟩:∃oI,s1.heap.get? f=some oI/\oI.cls=.type "function":=by
    have z:(X.K.lookup f).map (·.cls)=some (.type "function"):=q2.2
    cases lf:X.K.lookup f with
    |none=>rw[lf]at z;cases z
    |some oI=>rw[lf]at z;exact⟨oI,I1.kIn _ _ lf,xaw z⟩
  have hl:=r.length;have ql:=F.len _ _ _ _ (q s1.heap.objs.size (I1.hok.fresh (xad _)));rw[xal]at ql;obtain⟨hh,g,d,t,os⟩:=s1;refine zdj xa8 Y.tail Y.obj Y.ns c3 c4 c5 (by show us.length<=sizeLine;rw[<-hl,xav];omega) fun h' a M=>?_;obtain⟨t0,m1,_,_⟩:=M.there;obtain⟨hn,I2⟩:=I1.laidN (a:=a) (o:=xo a C none true) (t':=t) M.keeps M.new (Iv ⟨_,_,t0,m1,rfl,rfl,rfl,rfl,rfl,fun _=>rfl⟩);have r2:Vals (V.ref a::vs) (Value.ref a::us):=.cons rfl r;have hz:(Value.ref a::us ++ []).length=ps.length:=by
    rw[xaH, <-r2.length];exact F.len _ _ _ _ (q a hn)
  have bd:=hb _ (Value.ref a::us) I2.kIn hz;rw[xaH]at bd;refine xcy (xcs (F.run _ X.stack _ _ ⟨Value.ref a::us,[]⟩ (Value.ref a::us) (V.ref a::vs) _ E0 (hr.make C us []) (I2.env0.make C us []) bd r2 (q a hn)) fun rr s' hq=>?_)
  cases rr with
  |error e=>exact False.elim hq
  |ok fl=>
    cases fl with
    |ret u=>
      obtain⟨v,H',I3,rv,ev,q3⟩:=I2.after hq;subst ev;exact⟨rv,⟨V.ref a,H',I3,rfl,q3⟩⟩
    |next=>exact False.elim hq
    |brk=>exact False.elim hq
    |cont=>exact False.elim hq
def YT {e:Expr}{te:TE}{pos:Pos}{W:Addr->Addr->Option Addr->Hp->Prop}(he:PE X e te)(hc:X.calm=true)
  (hx:∀pins σ H s a C dx,Inv X pins σ H s->H a=some (xo a C dx true)->W a C dx H->X.xe (.ref a) s):
  PS X (.Raise (some e) none pos) (fun _ σ H=>te σ H fun v H1=>∃a C dx,v=.ref a/\H1 a=some (xo a C dx true)/\aU X.K C=true/\W a C dx H1):=by
 intro pins s σ H D I h;rw[arm_exec_Raise];refine xaa (xcU (zbJ (I.ok.hd hc) (xaa (aQ (he pins s σ H _ I h) fun u s1 ⟨v,H1,I1,rv,a,C,dx,ev,ea,q1,w⟩=>xaa (xcU (xaj ?_))))));subst ev;cases rv;obtain⟨nm,qn,N,bs,bm,sn,sub,ab,col,dd,k0,k1,k2,k3,k5,Y,lk⟩:=xG I1.kIn q1;obtain⟨oe,vs,t,e1,e2,e3,e4,e5,e6,e7⟩:=yr I1.hok ea;exact⟨a,oe,vs,rfl,⟨C,nm,qn,N,bs,bm,_,sn,sub,ab,col,dd,k0,k1,k2,k3,k5,_,Y.obj,Y.tail.hasType xa8.hasBase,e2⟩,e1,e4,e7 rfl,hx pins σ H1 s1 a C dx I1 ea w⟩
noncomputable def Ck (K : Fgx) (D : Addr) : Bool := PySem.W.specialIn K (.ref D) "__getattribute__" == some (some (.builtin "type.__getattribute__")) && (PySem.W.readsIn K D (.type "type") &&
 (match PySem.W.findCls K (.ref D) (.type "type") "__init__" with
  |some (.val (.builtin i))=>i=="ValueError.__init__"
  |_=>false))
noncomputable def tBi (K:Fgx) (t1 t2:TE):TE:=fun σ H Q=>t1 σ H fun x H1=>t2 σ H1 fun _ H2=>∃a C,x=.ref a/\H2 a=some (xo a C none true)/\aU K C=true/\Q .non H2
def YF (q:Ck X.K D=true)(hg:Gl X x)(hm:X.mg x=some (.ref D))(h1:PE X e1 t1)(h2:PE X e2 t2)(hdb:(x==("__debug__":Str))=false)
    (s1:starEach [e1,e2] X.env=(false,eval e1 X.env)::starEach [e2] X.env) (s2:starEach [e2] X.env=[(false,eval e2 X.env)])
    (ht : eval (.Call (.Attribute (.Name x p) "__init__" ap) [e1, e2] [] pos) X.env = (do
      let ov <-eval (.Name x p) X.env
      standAt ap.atName
      let (f,first) <-holding [ov] (getMethod ov "__init__" pl)
      callWith pos f first (backTo pos (starEach [e1,e2] X.env)) (backToKw pos (keywordEach [] X.env)))):
    PE X (.Call (.Attribute (.Name x p) "__init__" ap) [e1,e2] [] pos) (tBi X.K t1 t2):=by
  intro pins s σ H Q I h;simp only[Ck,xac,xaZ]at q;obtain⟨q1,q2,q3⟩:=q;have q4:PySem.W.findCls X.K (.ref D) (.type "type") "__init__"=some (.val (.builtin "ValueError.__init__")):=by
    split at q3
    · rename_i i e;rw[e,xaZ.mp q3]
    · cases q3
  refine PySem.W.methodCall_KW (pl := pl) (tZ I hg hm ?_ hdb) ht;refine PySem.W.method_cls I.kIn q1 (PySem.W.cls_value I.kIn q2 q4 rfl ?_);have I0 := I.tok (s.toks + 1);refine xc7 (aQ (q_ h1 (q_ h2 wU s2) s1 pos pins _ σ H (fun vs H2=>match vs with
    | [x,_]=>∃a C,x=.ref a/\H2 a=some (xo a C none true)/\aU X.K C=true/\Q .non H2
    |_=>False) I0 h) fun us s3 ⟨vs,H3,I3,r,z⟩=>?_) s1 (by rw[s2];rfl)
  rcases vs with _ |⟨x1,_ |⟨y1,_ |⟨z1,vs⟩⟩⟩<;>first |exact z.elim |skip
  obtain⟨a,C,rfl,ea,q5,hq⟩:=z
  cases r with
  |cons r1 r2=>
    cases r2 with
    |cons r3 r4=>
      cases r4;cases r1;rename_i u1 _;obtain ⟨nm, qn, N, bs, bm, sn, sub, ab, col, dd, k0, k1, k2, k3, k5, Y, lk⟩ := xG I3.kIn q5;obtain ⟨oe, ws, t0, e1, e2, e3, e4, e5, e6, e7⟩ := yr I3.hok ea;obtain ⟨hh, g, d, t, os⟩ := s3;refine zgV xa8 Y.tail Y.obj e1 e2 e4 e6 (by show 1 <= sizeLine; rw [xav]; decide) ?_;have e8 := xaf (h := hh) { cls := .type "tuple", data := .seq [u1].toArray } e1;have e9 := xbn (Obj.mapFields (·.setIfInBounds 0 (.ref hh.objs.size))) e8 (xbI (xaY e4 _));have I4 := I3.write (x := a) (e := a) (o := xo a C none true) (t' := t) (by rw [ea]; exact True.intro) (.inl rfl) (fun b u nb hb => (xa2 _ _ (xbA nb)).trans (xaf _ hb)) ⟨_, e9⟩ (Iv ⟨_, _, hh.objs.size, e9, (xdJ _ _).trans e2, (by
        obtain⟨_,_,od,_⟩:=oe;dsimp only at e4;subst e4;exact e3),xaY e4 _,by simp[e5],by simp[e5],fun z=>by rw[xc4 (by decide)];exact e7 z⟩)
      rw[zdU ea]at I4;exact⟨.non,H3,I4,rfl,hq⟩
noncomputable def Sh (K:Fgx) (f:Str) (ta tv:TE):TS:=fun D σ H=>tv σ H fun y H1=>ta σ H1 fun x H2=>∃a C b,x=.ref a/\H2 a=some (xo a C none b)/\aU K C=true/\sE K C f=true/\
 ∀dx,H2 dx=none->dx≠a->D.nx σ (upd (upd H2 dx (.xd [(f,y)])) a (xo a C (some dx) b))
def YZ (ha:PE X o ta)(hv:PE X value tv)(hs:swapsWith value (some (.Attribute o f pos')) pos.line X.env=pure false):PS X (.Assign [.Attribute o f pos'] value pos) (Sh X.K f ta tv):=by
  intro pins s σ H D I h;refine xc3 (aQ (hv pins s σ H _ I h) fun u s1 ⟨y,H1,I1,ry,q⟩=>aQ (ha pins s1 σ H1 _ I1 q) fun ov s2 ⟨x,H2,I2,rx,a,C,b,ex,ea,q1,q2,k⟩=>?_) hs;subst ex;obtain rfl:ov=Value.ref a:=rx;obtain⟨oe,vs,t,e1,e2,e3,e4,e5,e6,e7⟩:=yr I2.hok ea;refine zlI I2.kIn q1 q2 e1 e2 e3 e4 fun h' tk kp hx hn=>?_;have hd:H2 s2.heap.objs.size=none:=I2.hok.fresh (xad _);have nd:s2.heap.objs.size≠a:=xdQ (xar e1);refine⟨σ,_,?_,k _ hd nd⟩;have ext:∀c u,H2 c=some u->(∀φ,u≠ .ext φ)->c≠a:=fun c u q m r=>by
    rw[r,ea]at q;exact m _ (xaw q).symm
  have up:∀c u,c≠a->H2 c=some u->(upd (upd H2 s2.heap.objs.size (.xd [(f,y)])) a (xo a C (some s2.heap.objs.size) b)) c=some u:=fun c u n q=>by
    rw[aZ n,aZ (kh q hd)];exact q
  refine I2.un ⟨fun c o q n _ _=>kp c o (fun z=>by rw[z,ea]at n;cases n) q,fun c o q n _ _=>⟨o.slots,kp c o (fun z=>by rw[z,ea]at n;cases n) q⟩,fun c o q n _=>?_,fun c o q _=>?_,
    fun c xs q=>up c _ (ext c _ q (by intro _ z;cases z)) q,fun c o xs q=>up c _ (ext c _ q (by intro _ z;cases z)) q,fun c ps q=>⟨#[],by rw[up c _ (ext c _ q (by intro _ z;cases z)) q];simp⟩⟩ fun c u q=>?_
  · rw[aZ (fun z=>by rw[z,ea]at n;cases n),aZ (xaR (xar q))];exact n
  · by_cases ca:c=a
    · rw[ca];exact⟨_,hx⟩
    · exact⟨o,kp c o ca q⟩
  · by_cases ca:c=a
    · subst ca;rw[gq]at q;cases q;exact Iv ⟨_,vs,t,hx,e2,rfl,e4,e5,e6,e7⟩
    · rw[aZ ca]at q
      by_cases cd:c=s2.heap.objs.size
      · rw[cd,gq]at q;cases q;rw[cd];refine⟨_,hn,fun g=>?_⟩
        by_cases gf:g=f
        · subst gf;simp only[List.lookup,xbr,xbb];exact ry
        · have gb:(g==f)=false:=xbj.mpr gf;simp only[List.lookup,gb,xab gf]
          trivial
      · rw [aZ cd] at q;exact (I2.hok c u q).stay (fun d v hdv r => kp d v (by
          rcases hdv with rfl |z
          · exact ca
          · exact ext d _ z (by intro _ z;cases z)) r) (fun d r=>up d _ (ext d _ r (by intro _ z;cases z)) r) fun d xs r=>up d _ (ext d _ r (by intro _ z;cases z)) r
noncomputable def TX (K:Fgx) (f:Str) (ta:TE):TE:=fun σ H Q=>ta σ H fun x H1=>∃a C dx b fs v,x=.ref a/\H1 a=some (xo a C (some dx) b)/\sE K C f=true/\H1 dx=some (.xd fs)/\fs.lookup f=some v/\Q v H1
def zh3 (he:PE X e ta)(hb:attributeBase e f X.env (eval e X.env)=eval e X.env):PE X (.Attribute e f pos) (TX X.K f ta):=by
 intro pins s σ H Q I h;refine zfA hb (aQ (he pins s σ H _ I h) fun u s1 ⟨x,H1,I1,rx,a,C,dx,b,fs,v,ex,ea,q1,ed,l,q⟩=>?_);subst ex;obtain rfl:u=Value.ref a:=rx;obtain⟨oe,vs,t,e1,e2,e3,e4,_⟩:=yr I1.hok ea;obtain⟨mA,n,r⟩:=(show gj X.prog X.w H1 s1.heap dx (.xd fs) from I1.hok dx _ ed);obtain⟨u2,hu,ru⟩:=kE.some_of (v:=v) (o:=mA f) (by rw[<-l];exact r f);exact zk5 I1.kIn q1 e1 e2 e3 e4 n hu (zci ru) ⟨v,H1,I1.tok _,ru,q⟩
noncomputable def pX (K : Fgx) (C : Addr) : Bool := zG K C && (PySem.W.hasDictIn K C && (PySem.W.findIn K (.ref C) "__class__"==some (some (.builtin "object.__class__")) &&
 (PySem.W.specialIn K (.builtin "object.__class__") "__get__"==some (some (.builtin "getset_descriptor.__get__")) && (PySem.W.takesIn K (.builtin "object.__class__")==some true && PySem.W.mroIn K C (.type "object")==some true))))
noncomputable def tQ:V->Option Value
 |.ref a=>some (.ref a)
 |.ty n=>some (.type n)
 |_=>none
def U_ (r:RelV v u)(h:tQ v=some c):u=c:=by
 cases v<;>simp only[tQ,reduceCtorEq]at h
 ·cases h;exact r
 ·cases h;exact r
theorem Va:∀{cs:List V} {us its:List Value},Vals cs its->cs.mapM tQ=some us->its=us
  | [],us,its,r,h=>by
    cases r;cases h;rfl
  |c::cs,us,its,r,h=>by
    cases r with
    |cons r1 r2=>
      rw[List.mapM_cons]at h;obtain⟨u,e1,h⟩:=xce.mp h;obtain⟨us',e2,h⟩:=xce.mp h;cases h;rw[U_ r1 e1,Va r2 e2]
end
section
variable {X:Cx}{pins:Pnx}{σ:St}{H:Hp}{s:Shared}
def Inv.del (I:Inv X pins σ H s)(hN:X.N.Nodup)(hi:X.N[i]? =some x)(hk:X.env.scope.names.lookup x=some .local)(hv:σ[i]? =some (some v))
  (k:∀s',Inv X pins (σ.set i none) H s'->Q () s'):wpAny M A (unbindName X.env x) Q E s:=by
 obtain⟨m,hn,hl⟩:=id I.loc;obtain⟨u,r,q⟩:=hl i x v hi hv (.inl hk);have hk':X.env.kindOf x=some .local:=hk;have hm:m x=some u:=by
  rcases q with⟨_,e⟩ |⟨z,_⟩
  ·exact e
  ·rw[hk']at z;rcases z with z |z<;>cases z
 have hcls:(X.env.scope.kind==.class || (X.env.scope.kind==.module && X.env.locals !=X.env.globals))=false:=by rw[I.ok.kind];rfl
 refine wpAny_unbindName_local hk' hn hm hcls fun h' u' hn' hs=>k _ ?_;obtain⟨oL,_,_,hoL,_⟩:=id hn;have above:∀b o,X.s₀.heap.get? b=some o->b≠X.env.locals:=fun b o e=>xaR (xao (xar e) I.ok.above);refine⟨I.ok,I.os,I.bare,⟨fun b o e n hb hx=>(hs.2 b (above b o e)).trans (I.base.keep b o e n hb hx),fun b o e n hb hx=>?_,I.base.free,fun b o e hx=>?_,I.base.tups,I.base.frzs,I.base.tbls⟩,⟨_,hn',fun j y v' e1 e2 e3=>?_⟩,fun y c e=>?_,I.free,I.freeC,fun p hp=>?_,fun b ob e=>?_,by simpa using I.len⟩
 ·obtain⟨sl,e1⟩:=I.base.slot b o e n hb hx;exact⟨sl,(hs.2 b (above b o e)).trans e1⟩
 ·obtain⟨o',e1⟩:=I.base.there b o e hx;exact⟨o',(hs.2 b (above b o e)).trans e1⟩
 ·have hj:j≠i:=by
   rintro rfl;rw[xaX]at e2;split at e2
   ·split at e2<;>cases e2
   ·rename_i z;exact z rfl
  rw[xbB (xbA hj)]at e2;obtain⟨u2,r2,q2⟩:=hl j y v' e1 e2 e3;refine⟨u2,r2,?_⟩;rcases q2 with⟨k2,e⟩ |⟨k2,c,e,z⟩
  ·have ne:y≠x:=fun e=>hj (QG hN e1 (e ▸ hi));exact .inl ⟨k2,(xab ne).trans e⟩
  ·exact .inr ⟨k2,c,e,z.sameBut hs (I.cne y c e)⟩
 ·obtain⟨w',z⟩:=I.cell y c e;exact⟨w',z.sameBut hs (I.cne y c e)⟩
 ·obtain⟨e,n,ne,nf,d⟩:=I.pin p hp;exact⟨(hs.2 p.1 ne).trans e,n,ne,nf,d⟩
 ·refine(I.hok b ob e).stay (fun c w' hc q=>(hs.2 c ?_).trans q) (fun _ q=>q) fun _ _ q=>q;rintro rfl;rcases hc with rfl |hc
  ·rw[I.free]at e;cases e
  ·rw[I.free]at hc;cases hc
structure Caught (X:Cx)(pins:Pnx)(σ:St)(H:Hp)(s:Shared)(a C:Addr)(dx:Option Addr)(T:Addr):Prop where
 inv:Inv X pins σ H s
 obj:H a=some (xo a C dx false)
 fl:MK s.heap a T
 hT:H T=none
 t1:X.s₀.heap.objs.size<=T
 t2:T≠X.env.locals
 t3:∀x c,X.env.cells.lookup x=some c->c≠T
 t4:∀p∈X.pn ++ pins,p.1≠T
def Vl (I:Inv X pins σ H s)(h:s.heap.objs.size<=T):X.s₀.heap.objs.size<=T/\T≠X.env.locals/\(∀x c,X.env.cells.lookup x=some c->c≠T)/\∀p∈X.pn ++ pins,p.1≠T:=by
 refine⟨xau I.sz h,xdQ (xao I.lt h),fun x c e=>?_,fun p hp=>?_⟩
 ·obtain⟨v,o,ho,_⟩:=I.cell x c e;exact xaR (xao (xar ho) h)
 ·exact xaR (xao (xar (I.pin p hp).1) h)
def Jr (I:Inv X pins σ H s)(h:sG X.prog X.w X.stack H s E e s'):∃a C dx H' T,e=.ref a/\Caught X pins σ H' s' a C dx T/\E (.ref C) dx H':=by
 obtain⟨a,C,dx,H',T,rfl,os,bare,un,hok,ha,hT,hz,fl,hE⟩:=h;have I2:=I.call' os un hok bare (fun b z=>nomatch z)
 obtain⟨z1,z2,z3,z4⟩:=Vl I hz;exact⟨a,C,dx,H',T,rfl,⟨I2,ha,fl,hT,z1,z2,z3,z4⟩,hE⟩
variable {a C T:Addr}{dx:Option Addr}{Q:Unit->Shared->Prop}{E:Value->Shared->Prop}{M:Model}
def Caught.note (c:Caught X pins σ H s a C dx T)(hs:X.stack=X.env::X.outer)(hf:X.env.frame=some X.env.locals)(k:∀s' T',Caught X pins σ H s' a C dx T'->Q () s'):
  wpAny M X.A (noteFrame (.ref a) X.env) (fun _ s2=>wpAny M X.A (setFlight (.ref a) none) Q E s2) E s:=by
 obtain ⟨oe, vs, t, e1, e2, e3, e4, e5, e6, _⟩ := yr c.inv.hok c.obj;obtain ⟨oe', vs', oT, ts, f1, f2, f3, f4, f5, f6, f7⟩ := c.fl;rw [e1] at f1;cases f1;rw [e4] at f2;cases f2;have fr := c.inv.ok.frames;have st := c.inv.stack;rw [hs] at fr st;refine zca fr st hf e1 e4 f3 f4 f5 f6 f7 fun h' T' N => Yu (s := { s with heap := h' }) N e1 e4 (by omega) fun h2 N2 => k _ T' ?_;have hx : ∃ vs t, oe.cls = .ref C /\ oe.dict = dx /\ oe.data = .fields vs /\ vs.size = 6 /\ vs[0]? = some (.ref t) := ⟨vs, t, e2, e3, e4, e5, e6⟩;rw [<- hs] at N2;have u := zbv (ch := [T]) N2 c.obj (.inr (xaF.mpr rfl));have hk := Wv c.inv.hok N2 c.obj (.inr c.hT) (fun b hb => c.inv.stkFree b hb) hx;rw [zdU c.obj] at u hk;have I2 : Inv X pins σ H { s with heap := h2 } := c.inv.call' (s' := { s with heap := h2 }) rfl u hk c.inv.bare (fun b hb=>by
  rw[xaF.mp hb];exact⟨.inr c.t1,c.t2,c.t3,c.t4⟩)
 obtain⟨z1,z2,z3,z4⟩:=Vl c.inv N2.new;exact⟨I2,c.obj,Yt N2 e1 e4 e5,c.inv.hok.fresh N2.new,z1,z2,z3,z4⟩
def Caught.off (c:Caught X pins σ H s a C dx T)(k:∀s',Caught X pins σ H s' a C dx T->Q () s'):wpAny M A (setFlight (.ref a) none) Q E s:=by
 obtain⟨oe,vs,oT,ts,f1,f2,f3,f4,f5,f6,f7⟩:=c.fl;have z3:3<ts.size:=(xbd.mp f7).1;refine Wc f1 f2 f3 f5 f6 z3 (k _ ?_);have kp:∀b o,b≠T->s.heap.get? b=some o->(s.heap.update T (Obj.mapFields (·.setIfInBounds 3 .none))).get? b=some o:=fun b o n e=>(xa2 _ _ (xbA n)).trans e;have I2:=c.inv.turned (t':=s.toks) kp c.hT c.t2 (.inr c.t1) c.t3 c.t4;exact⟨I2,c.obj,⟨oe,vs,_,_,kp a oe (xbA f4) f1,f2,f3,f4,xbn _ f5 (xbI (xaY f6 _)),xaY f6 _,by simp[z3]⟩,c.hT,c.t1,c.t2,c.t3,c.t4⟩
end
abbrev Cx.pin (X:Cx)(pins:Pnx)(E:Value->Shared->Prop):Cx:={X with pn:=X.pn ++ pins,xe:=E}
abbrev Cx.suite (X:Cx)(e:Value):Cx:={X with A:=X.A.mark (some e),calm:=false,xe:=fun _ _=>False}
section
variable {X:Cx}{pins ps:Pnx}{σ:St}{H:Hp}{s:Shared}{E:Value->Shared->Prop}{e:Value}
def Inv.to_pin (I:Inv X pins σ H s)(E:Value->Shared->Prop):Inv (X.pin pins E) [] σ H s:=
  ⟨⟨I.ok.mod,I.ok.kind,I.ok.glob,I.ok.blt,I.ok.above,I.ok.inj,I.ok.has,I.ok.cab,I.ok.hd,I.ok.frames,I.ok.stk,I.ok.exf,I.ok.bs,I.ok.bsz,I.ok.noex,I.ok.exfs,I.ok.funs,I.ok.frf⟩,I.os,I.bare,I.base,I.loc,I.cell,I.free,I.freeC,
    fun p hp=>I.pin p (by simpa using hp),I.hok,I.len⟩
def Inv.of_pin (I:Inv (X.pin pins E) ps σ H s):Inv X pins σ H s:=
  ⟨⟨I.ok.mod,I.ok.kind,I.ok.glob,I.ok.blt,I.ok.above,I.ok.inj,I.ok.has,I.ok.cab,I.ok.hd,I.ok.frames,I.ok.stk,I.ok.exf,I.ok.bs,I.ok.bsz,I.ok.noex,I.ok.exfs,I.ok.funs,I.ok.frf⟩,I.os,I.bare,I.base,I.loc,I.cell,I.free,I.freeC,
    fun p hp=>I.pin p (xc5 _ hp),I.hok,I.len⟩
def Inv.to_suite (I:Inv X pins σ H s)(e:Value):Inv (X.suite e) pins σ H s:=
 ⟨⟨I.ok.mod,I.ok.kind,I.ok.glob,I.ok.blt,I.ok.above,I.ok.inj,I.ok.has,I.ok.cab,(fun z=>by cases z),I.ok.frames,I.ok.stk,I.ok.exf,I.ok.bs,I.ok.bsz,I.ok.noex,I.ok.exfs,I.ok.funs,I.ok.frf⟩,I.os,I.bare,I.base,I.loc,I.cell,I.free,I.freeC,I.pin,I.hok,I.len⟩
def Inv.of_suite (I:Inv (X.suite e) pins σ H s)(hd:X.A.handled=none):Inv X pins σ H s:=
 ⟨⟨I.ok.mod,I.ok.kind,I.ok.glob,I.ok.blt,I.ok.above,I.ok.inj,I.ok.has,I.ok.cab,fun _=>hd,I.ok.frames,I.ok.stk,I.ok.exf,I.ok.bs,I.ok.bsz,I.ok.noex,I.ok.exfs,I.ok.funs,I.ok.frf⟩,I.os,I.bare,I.base,I.loc,I.cell,I.free,I.freeC,I.pin,I.hok,I.len⟩
end
noncomputable def gn (K:Fgx) (C c:Addr):Bool:=match K.lookup C with
 |some ⟨_,_,.cls cd,_⟩=>cd.mro.contains (.ref c)
 |_=>false
def zdB {X:Cx}{CX:nQ}{k:Nat}{f:Addr}{fd:FuncData}{ps:List Str}{sp:Sp}{dvs:List V}{ds:List Value}{x:Str}{p pos:Pos}{e:Expr}{es:List Expr}{t:TA}{Ex:St->XK}(F:FnOk X.prog X.w X.K X.mg X.base CX k f fd ps sp)(hr:Room k X.A)(hg:Gl X x)
    (hm:X.mg x=some (.ref f)) (hk:PySem.W.keepIn X.K (.ref f)=true) (hb:Binds X.K fd ps ds) (hd:Vals dvs ds) (hx:∀pins σ H s e s',Inv X pins σ H s->CX X.stack H s (Ex σ) e s'->X.xe e s') (ha:PA X (e::es) t)
    (hdb:(x==("__debug__":Str))=false) (he:starEach (e::es) X.env=(false,eval e X.env)::starEach es X.env) (hpl:(backTo pos (starEach es X.env)).any (·.1)=false):
    PE X (.Call (.Name x p) (e::es) [] pos) (fun σ H Q=>t σ H fun vs H1=>sp (vs ++ dvs) H1 Q (Ex σ)):=by
  intro pins s σ H Q I h;refine xbH (tZ I hg hm ?_ hdb);refine xci (h₀:=X.base) I.ok.mod.kin hk (aQ (ha pos pins s σ H _ I h) fun us s1 ⟨vs,H1,I1,r,q⟩=>⟨I1.kIn,?_⟩) he hpl;have r2:Vals (vs ++ dvs) (us ++ ds):=r.append hd;have hl:(us ++ ds).length=ps.length:=by rw[<-r2.length];exact F.len _ _ _ _ q
  refine xcy (xcs (F.run X.A X.stack s1 H1 ⟨us,[]⟩ (us ++ ds) (vs ++ dvs) Q (Ex σ) hr I1.env0 (hb s1 us I1.kIn hl) r2 q) fun rr s' hq=>?_)
  cases rr with
  |error e=>exact hx pins σ H1 s1 e s' I1 hq
  |ok fl=>
    cases fl with
    |ret u=>exact I1.after hq
    |next=>exact False.elim hq
    |brk=>exact False.elim hq
    |cont=>exact False.elim hq
def ns_none_of {K:Fgx}{h:Heap}{N:Addr}{mg:Mgx}{n:Str}(X:K.In h)(G:h.Ns N mg)(e:PySem.W.nsIn K N n=some none):mg n=none:=by
 obtain⟨o,es,ep,ho,hd,_,hf⟩:=G;unfold PySem.W.nsIn at e;split at e
 ·rename_i q;have z:=X _ _ q;rw[ho]at z;cases z;cases hd;split at e
  ·cases e
  ·rename_i he;rw[<-hf];unfold nsFind findBy;rw[<-xdu,he];rfl
 ·cases e
section
variable {X:Cx}
def tpC (C:Addr)(Q:VK)(vs:List V)(H:Hp):Prop:=vs.length=1/\∀a,H a=none->Q (.ref a) (upd H a (xo a C none true))
def zgZ (C:Addr)(te:TE):TE:=fun σ H Q=>te σ H fun v H1=>tpC C Q [v] H1
def zdH {C:Addr}{x:Str}{p pos:Pos}{e:Expr}{te:TE}(q1:aU X.K C=true)(q2:Iu X.K C=true)(kp:PySem.W.keepIn X.K (.ref C)=true)(hg:Gl X x)(hm:X.mg x=some (.ref C))(he:PE X e te)(hdb:(x==("__debug__":Str))=false)
  (hs:starEach [e] X.env=[(false,eval e X.env)]):PE X (.Call (.Name x p) [e] [] pos) (zgZ C te):=by
 intro pins s σ H Q I h;refine xbH (tZ I hg hm ?_ hdb);refine xci (h₀:=X.base) I.ok.mod.kin kp (aQ (q_ he wU hs pos pins s σ H (tpC C Q) I h) fun us s1 ⟨vs,H1,I1,r,q⟩=>⟨I1.kIn,?_⟩) hs rfl;obtain⟨nm,qn,N,bs,bm,sn,sub,ab,col,dd,k0,k1,k2,k3,k5,Y,lk⟩:=xG I1.kIn q1;unfold Iu at q2;rw[lk]at q2;simp only[xaZ]at q2;have c3:=ns_none_of I1.kIn Y.ns q2;have hl:us.length=1:=by
  rw[<-r.length,q.1]
 obtain⟨hh,g,d,t,os⟩:=s1;refine wpAny_call_exc_subU xa8 (by x_go) xa8 Y.tail Y.obj Y.ns c3 (fun h' a M=>?_) (by show us.length<=sizeLine;rw[hl,xav];decide);obtain⟨t0,m1,_,_⟩:=M.there;obtain⟨hn,I2⟩:=I1.laidN (a:=a) (o:=xo a C none true) (t':=t) M.keeps M.new (Iv ⟨_,_,t0,m1,rfl,rfl,rfl,rfl,rfl,fun _=>rfl⟩);exact⟨V.ref a,_,I2,rfl,q.2 a hn⟩
end
def ze4 {X:Cx}{body suite:List Stmt}{b0:Stmt}{cn n:Str}{np hp pos:Pos}{c:Addr}{i:Nat}{tb:Ends->TS}{th:TS}
    (hs:X.stack=X.env::X.outer) (hf:X.env.frame=some X.env.locals) (hc:X.calm=true) (hN:X.N.Nodup) (hi:X.N[i]? =some n) (hl:X.env.scope.names.lookup n=some .local) (hg:Gl X cn) (hm:X.mg cn=some (.ref c)) (q:aU X.K c=true) (hdb:(cn==("__debug__":Str))=false)
    (hb : ∀ (pins : Pnx) (D : Ends), lK (X.pin pins fun e s'=>∃σ' H' a C dx T,e=.ref a/\Caught X pins σ' H' s' a C dx T/\aU X.K C=true/\gn X.K C c=true/\
      th {D with nx:=fun σ H=>∃v,σ[i]? =some (some v)/\D.nx (σ.set i none) H,bk:=fun _ _=>False,ct:=fun _ _=>False} (σ'.set i (some (.ref a))) H') body (tb D))
    (hh:∀e,lK (X.suite e) (b0::suite) th):
    PS X (.Try body [.ExceptHandler (some (.Name cn np)) (some n) (b0::suite) hp] [] [] pos) (fun D σ H=>tb D D σ H):=by
  intro pins s σ H D I h;refine xdX (xa3 (hb pins D [] s σ H D (I.to_pin _) h) (fun f s1 z=>?_) fun e s1 z=>?_)
  · cases f with
    |next=>obtain⟨σ',H',J,q⟩:=z;exact xbT ⟨σ',H',J.of_pin,q⟩
    |brk=>obtain⟨σ',H',J,q⟩:=z;exact⟨σ',H',J.of_pin,q⟩
    |cont=>obtain⟨σ',H',J,q⟩:=z;exact⟨σ',H',J.of_pin,q⟩
    |ret u=>obtain⟨v,σ',H',J,r,q⟩:=z;exact⟨v,σ',H',J.of_pin,r,q⟩
  · obtain⟨σ',H',a,C,dx,T,rfl,K1,q1,q2,z⟩:=z;refine K1.note hs hf fun s2 T2 K2=>?_;have hd:=I.ok.hd hc;refine xdk (xcZ ?_) (by intro z;cases z);refine tZ (X:=X.suite (.ref a)) (K2.inv.to_suite _) hg hm ?_ hdb;obtain⟨nm,qn,N,bs,bm,sn,sub,ab,col,dd,k0,k1,k2,k3,k5,Y,lk⟩:=xG K2.inv.kIn q1;obtain⟨nm',qn',N',bs',bm',sn',sub',ab',col',dd',j0,j1,j2,j3,j5,Y',lk'⟩:=xG K2.inv.kIn q;obtain⟨oe,vs,t,e1,e2,e3,e4,e5,e6,_⟩:=yr K2.inv.hok K2.obj;have hit:(Value.ref C::bm).contains (.ref c)=true:=by
      unfold gn at q2;rw[lk]at q2;exact q2
    obtain⟨hh2,g,d,tk,os⟩:=s2;refine Uq Y.obj Y'.obj e1 e2 (Y'.tail.hasType xa8.hasBase) ?_;rw[hit];refine xdN (K2.off fun s3 K3=>?_);refine zp (X:=X.suite (.ref a)) (v:=.ref a) (K3.inv.to_suite _) hN hi (.inl hl) rfl (fun s4 I4=>?_) (.inr hl);refine xa3 (hh (.ref a) pins s4 _ H' _ I4 z) (fun f s5 y=>?_) fun _ _ y=>False.elim y
    cases f with
    |next=>
      obtain⟨σ5,H5,I5,v,ev,y⟩:=y;have I5':=I5.of_suite hd;refine xaa (xeg (zp (v:=.non) I5' hN hi (.inl hl) rfl (fun s6 I6=>?_) (.inr hl)));unfold unbindBehindTheSuite;refine xeo (I6.del (v:=.non) hN hi hl ?_ fun s7 I7=>?_)
      · rw[xbt];rw[I5'.len];exact(xag.mp hi).1
      · rw[xeD]at I7;exact⟨_,H5,I7,y⟩
    |brk=>obtain⟨_,_,_,y⟩:=y;exact False.elim y
    |cont=>obtain⟨_,_,_,y⟩:=y;exact False.elim y
    |ret u=>
      obtain⟨v,σ5,H5,I5,rv,y⟩:=y;have I5':=I5.of_suite hd;refine xaa (xeg (zp (v:=.non) I5' hN hi (.inl hl) rfl (fun s6 I6=>?_) (.inr hl)));unfold unbindBehindTheSuite;refine xeo (I6.del (v:=.non) hN hi hl ?_ fun s7 I7=>?_)
      · rw[xbt];rw[I5'.len];exact(xag.mp hi).1
      · rw[xeD]at I7;exact⟨v,_,H5,I7,rv,y⟩
end L2
namespace E3
open PySem PySem.Spec PyProof.Rows L2
inductive D where
 |non |bl (b:Bool) |int (i:Int) |str (s:Str) |tup (xs:List D) |lst (xs:List D) |ref (n:Nat)
inductive Cl where
  |lst (ds:List D) |obj (c:Str) (fs:List (Str×D)) |dct (kvs:List (L2.Key×D))
    |dcf (kvs:List (L2.Key×D))
abbrev Mm:=List Cl
inductive Slot where
 |un |val (d:D) |own (ds:List D) |exc (c:Str) (n:Int)
abbrev Env:=List Slot
mutual
def D.lf:D->Bool
 |.tup xs=>D.lfs xs
 |.lst _=>false
 |.ref _=>false
 |_=>true
def D.lfs:List D->Bool
 | []=>true
 |a::as=>D.lf a && D.lfs as
end
def KL (K:Fgx)(a:Addr)(vs:List V):Prop:=∃(o:Obj) (its:Array Value) (n:Nat),K.lookup a=some o/\o.cls=.type "list"/\o.dict=none/\o.data=.seq its n/\its.size<=sizeLine/\Vals vs its.toList
structure Pl where
 io:Nat->Addr
 n:Nat
 bd:Addr->Prop
def M_ (K:Fgx)(P:Pl)(H:Hp)(a:Addr)(vs:List V):Prop:=(¬ P.bd a/\Rd H a (.lst vs))\/KL K a vs
def U3 (K:Fgx)(P:Pl)(H:Hp)(a:Addr)(vs:List V):Prop:=((∀k,k<P.n->P.io k≠a)/\Rd H a (.lst vs))\/KL K a vs
mutual
def Is (K:Fgx)(P:Pl)(H:Hp):D->V->Prop
 |.non,v=>v=.non
 |.bl b,v=>v=.bl b
 |.int i,v=>v=.int i
 |.str s,v=>v=.str s
 |.tup ds,v=>∃a vs,v=.ref a/\g_ K H a vs/\aH K P H ds vs
 |.lst ds,v=>∃a vs,v=.ref a/\M_ K P H a vs/\aH K P H ds vs
 |.ref k,v=>k<P.n/\v=.ref (P.io k)
def aH (K:Fgx)(P:Pl)(H:Hp):List D->List V->Prop
 | [],vs=>vs=[]
 |d::ds,vs=>∃v r,vs=v::r/\Is K P H d v/\aH K P H ds r
end
def Fx (o:HO):Prop:=(∃xs,o=.tup xs)\/(∃u w,o=.frz u w)\/(∃g,o=.ext g)\/∃fs,o=.xd fs
structure Lt (P:Pl)(H:Hp)(P':Pl)(H':Hp):Prop where
 n:P.n<=P'.n
 io:∀k,k<P.n->P'.io k=P.io k
 bd:∀a,P'.bd a->P.bd a\/H a=none
 keep:∀a o,H a=some o->(Fx o\/¬ P.bd a)->H' a=some o
 sure:∀a,H' a=none->H a=none
section
variable {K:Fgx}{P P' P'':Pl}{H H' H'':Hp}
def Lt.refl (P:Pl)(H:Hp):Lt P H P H:=⟨xad _,fun _ _=>rfl,fun _ z=>.inl z,fun _ _ e _=>e,fun _ z=>z⟩
def Lt.not (l:Lt P H P' H')(e:H a=some o)(n:¬ P.bd a):¬ P'.bd a:=fun z=>(l.bd a z).elim n fun z=>by rw[e]at z;cases z
theorem Lt.trans (l:Lt P H P' H')(m:Lt P' H' P'' H''):Lt P H P'' H'' where
 n:=xau l.n m.n
 io:=fun k h=>(m.io k (xao h l.n)).trans (l.io k h)
 bd:=fun a z=>(m.bd a z).elim (l.bd a) fun z=>.inr (l.sure a z)
 keep:=fun a o e h=>m.keep a o (l.keep a o e h) (h.imp id fun n=>l.not e n)
 sure:=fun a z=>l.sure a (m.sure a z)
def Lt.rd (l:Lt P H P' H')(n:¬ P.bd a)(h:Rd H a (.lst xs)):Rd H' a (.lst xs):=by
 rcases h with h |⟨o,h⟩
 ·exact .inl (l.keep _ _ h (.inr n))
 ·exact .inr ⟨o,l.keep _ _ h (.inr n)⟩
def Zj (h:Rd H a o):∃o',H a=some o':=h.elim (fun h=>⟨_,h⟩) fun⟨_,h⟩=>⟨_,h⟩
def Lt.rda (l:Lt P H P' H')(h:M_ K P H a xs):M_ K P' H' a xs:=h.imp (fun⟨n,h⟩=>⟨by obtain⟨o,e⟩:=Zj h;exact l.not e n,l.rd n h⟩) id
def Lt.tup (l:Lt P H P' H')(h:g_ K H a xs):g_ K H' a xs:=by
 rcases h with(h |⟨o,h⟩) |h
 ·exact .inl (.inl (l.keep _ _ h (.inl (.inl ⟨_,rfl⟩))))
 ·exact .inl (.inr ⟨o,l.keep _ _ h (.inl (.inr (.inl ⟨_,_,rfl⟩)))⟩)
 ·exact .inr h
mutual
theorem Is.lt (l:Lt P H P' H'):∀{d:D} {v:V},Is K P H d v->Is K P' H' d v
  |.non,_,h=>h
  |.bl _,_,h=>h
  |.int _,_,h=>h
  |.str _,_,h=>h
  |.tup ds,_,h=>by
    obtain⟨a,vs,e,s,r⟩:=h;exact⟨a,vs,e,l.tup s,aH.lt l r⟩
  |.lst ds,_,h=>by
    obtain⟨a,vs,e,s,r⟩:=h;exact⟨a,vs,e,l.rda s,aH.lt l r⟩
  |.ref k,_,h=>⟨xao h.1 l.n,by rw[l.io k h.1];exact h.2⟩
theorem aH.lt (l:Lt P H P' H'):∀{ds:List D} {vs:List V},aH K P H ds vs->aH K P' H' ds vs
  | [],_,h=>h
  |_::_,_,h=>by
    obtain⟨v,r,e,p,q⟩:=h;exact⟨v,r,e,Is.lt l p,aH.lt l q⟩
end
def Pl.less (P:Pl)(B:Addr->Prop):Pl:={P with bd:=fun a=>P.bd a/\B a}
mutual
theorem Is.less:∀{d:D} {v:V},Is K P H d v->Is K (P.less B) H d v
  |.non,_,h=>h
  |.bl _,_,h=>h
  |.int _,_,h=>h
  |.str _,_,h=>h
  |.tup ds,_,h=>by
    obtain⟨a,vs,e,s,r⟩:=h;exact⟨a,vs,e,s,aH.less r⟩
  |.lst ds,_,h=>by
    obtain⟨a,vs,e,s,r⟩:=h;exact⟨a,vs,e,s.imp (fun⟨n,h⟩=>⟨fun z=>n z.1,h⟩) id,aH.less r⟩
  |.ref k,_,h=>h
theorem aH.less:∀{ds:List D} {vs:List V},aH K P H ds vs->aH K (P.less B) H ds vs
  | [],_,h=>h
  |_::_,_,h=>by
    obtain⟨v,r,e,p,q⟩:=h;exact⟨v,r,e,Is.less p,aH.less q⟩
end
mutual
theorem Is.free (P':Pl):∀{d:D} {v:V},d.lf=true->Is K P H d v->Is K P' H d v
  |.non,_,_,h=>h
  |.bl _,_,_,h=>h
  |.int _,_,_,h=>h
  |.str _,_,_,h=>h
  |.tup ds,_,l,h=>by
    obtain⟨a,vs,e,s,r⟩:=h;exact⟨a,vs,e,s,aH.free P' (by simpa only[D.lf] using l) r⟩
  |.lst _,_,l,_=>by simp[D.lf]at l
  |.ref _,_,l,_=>by simp[D.lf]at l
theorem aH.free (P':Pl):∀{ds:List D} {vs:List V},D.lfs ds=true->aH K P H ds vs->aH K P' H ds vs
  | [],_,_,h=>h
  |_::_,_,l,h=>by
    obtain⟨v,r,e,p,q⟩:=h;simp only[D.lfs,xac]at l;exact⟨v,r,e,Is.free P' l.1 p,aH.free P' l.2 q⟩
end
theorem aH.len:∀{ds:List D} {vs:List V},aH K P H ds vs->vs.length=ds.length
  | [],_,h=>by rw[show _=[] from h];rfl
  |d::ds,_,h=>by
    obtain⟨v,r,e,_,q⟩:=h;subst e
    simp[aH.len q]
theorem aH.get:∀{ds:List D} {vs:List V} {i:Nat} {d:D},aH K P H ds vs->ds[i]? =some d->∃v,vs[i]? =some v/\Is K P H d v
  | [],_,_,_,_,e=>by simp at e
  |d::ds,_,0,_,h,e=>by
    obtain⟨v,r,e',p,_⟩:=h
    simp at e
    subst e e';exact⟨v,rfl,p⟩
  |d::ds,_,i + 1,_,h,e=>by
    obtain⟨v,r,e',_,q⟩:=h;subst e'
    simpa using aH.get (i:=i) q (by simpa using e)
theorem aH.append:∀{ds es:List D} {vs ws:List V},aH K P H ds vs->aH K P H es ws->aH K P H (ds ++ es) (vs ++ ws)
  | [],_,_,_,h,q=>by rw[show _=[] from h];exact q
  |d::ds,_,_,_,h,q=>by
    obtain⟨v,r,e,p,h⟩:=h;subst e;exact⟨v,r ++ _,rfl,p,aH.append h q⟩
theorem aH.take:∀{ds:List D} {vs:List V} (n:Nat),aH K P H ds vs->aH K P H (ds.take n) (vs.take n)
  |_,_,0,_=>rfl
  | [],_,n + 1,h=>by rw[show _=[] from h];rfl
  |d::ds,_,n + 1,h=>by
    obtain⟨v,r,e,p,h⟩:=h;subst e;exact⟨v,_,rfl,p,aH.take n h⟩
theorem aH.drop:∀{ds:List D} {vs:List V} (n:Nat),aH K P H ds vs->aH K P H (ds.drop n) (vs.drop n)
  |_,_,0,h=>h
  | [],_,n + 1,h=>by rw[show _=[] from h];rfl
  |d::ds,_,n + 1,h=>by
    obtain⟨v,r,e,p,h⟩:=h;subst e;exact aH.drop n h
def aH.one (h:Is K P H d v):aH K P H [d] [v]:=⟨v,[],rfl,h,rfl⟩
theorem aH.set:∀{ds:List D} {vs:List V} {d:D} {v:V} (n:Nat),aH K P H ds vs->Is K P H d v->aH K P H (ds.set n d) (vs.set n v)
  | [],_,_,_,_,h,_=>by rw[show _=[] from h];rfl
  |d::ds,_,_,_,0,h,p=>by
    obtain⟨v,r,e,_,h⟩:=h;subst e;exact⟨_,r,rfl,p,h⟩
  |d::ds,_,_,_,n + 1,h,p=>by
    obtain⟨v,r,e,q,h⟩:=h;subst e;exact⟨v,_,rfl,q,aH.set n h p⟩
end
noncomputable def Ac (K:Fgx) (mg:Mgx) (P:Pl) (H:Hp) (a:Addr):Cl->Prop
 |.lst ds=>∃vs,H a=some (.lst vs)/\aH K P H ds vs
 |.obj c fs=>∃C dx gs,mg c=some (.ref C)/\H a=some (.ins C dx gs)/\gs.map (·.1)=fs.map (·.1)/\aH K P H (fs.map (·.2)) (gs.map (·.2))
 |.dct kvs=>∃vs:List (L2.Key×V),H a=some (.dK vs)/\vs.map (·.1)=kvs.map (·.1)/\aH K P H (kvs.map (·.2)) (vs.map (·.2))
 |.dcf kvs=>∃(vs:List (L2.Key×V)) (ob:Obj) (es:Array DictEntry) (ep:Nat),H a=some (.frz ob (.dK vs))/\ob.data=.dict es ep/\vs.map (·.1)=kvs.map (·.1)/\aH K P H (kvs.map (·.2)) (vs.map (·.2))
structure Hk (K:Fgx)(mg:Mgx)(P:Pl)(H:Hp)(M:Mm):Prop where
 n:P.n=M.length
 cell:∀(k:Nat) c,M[k]? =some c->Ac K mg P H (P.io k) c
 inj:∀j k,j<P.n->k<P.n->P.io j=P.io k->j=k
 bd:∀k,k<P.n->P.bd (P.io k)
 here:∀a,P.bd a->H a≠none
structure LtE (P:Pl)(H:Hp)(P':Pl)(H':Hp):Prop where
 n:P.n<=P'.n
 io:∀k,k<P.n->P'.io k=P.io k
 bd:∀a,P'.bd a->P.bd a\/H a=none
 bm:∀a,P.bd a->P'.bd a
 keep:∀a o,H a=some o->(Fx o\/∀k,k<P.n->P.io k≠a)->H' a=some o
 sure:∀a,H' a=none->H a=none
 nw:∀k,P.n<=k->k<P'.n->H (P'.io k)=none
section
variable {K:Fgx}{mg:Mgx}{P P' P'':Pl}{H H' H'':Hp}{M M':Mm}
def LtE.refl (P:Pl)(H:Hp):LtE P H P H:=⟨xad _,fun _ _=>rfl,fun _ z=>.inl z,fun _ z=>z,fun _ _ e _=>e,fun _ z=>z,fun k h1 h2=>absurd h1 (xdO.mpr h2)⟩
def LtE.same (s:Same H H'):LtE P H P H':=⟨xad _,fun _ _=>rfl,fun _ z=>.inl z,fun _ z=>z,fun a o e _=>s a o e,fun a z=>s.free z,fun k h1 h2=>absurd h1 (xdO.mpr h2)⟩
def Hk.cellAt (h:Hk K mg P H M)(hc:M[k]? =some c)(nd:∀kvs,c≠ .dcf kvs:=by intro _ z;cases z):∃o,H (P.io k)=some o/\¬ Fx o:=by
  have:=h.cell k c hc
  cases c with
  |lst ds=>
    obtain⟨vs,e,_⟩:=this;exact⟨_,e,fun z=>by rcases z with⟨_,z⟩ |⟨_,_,z⟩ |⟨_,z⟩ |⟨_,z⟩<;>cases z⟩
  |obj c fs=>
    obtain⟨C,dx,gs,_,e,_⟩:=this;exact⟨_,e,fun z=>by rcases z with⟨_,z⟩ |⟨_,_,z⟩ |⟨_,z⟩ |⟨_,z⟩<;>cases z⟩
  |dct kvs=>
    obtain⟨vs,e,_⟩:=this;exact⟨_,e,fun z=>by rcases z with⟨_,z⟩ |⟨_,_,z⟩ |⟨_,z⟩ |⟨_,z⟩<;>cases z⟩
  |dcf kvs=>exact absurd rfl (nd kvs)
def LtE.lt (l:LtE P H P' H')(h:Hk K mg P H M):Lt P H P' H' where
 n:=l.n
 io:=l.io
 bd:=l.bd
 sure:=l.sure
 keep:=fun a o e z=>l.keep a o e (z.imp id fun z k hk q=>z (q ▸ h.bd k hk))
theorem LtE.trans (l:LtE P H P' H')(m:LtE P' H' P'' H''):LtE P H P'' H'' where
 n:=xau l.n m.n
 io:=fun k h=>(m.io k (xao h l.n)).trans (l.io k h)
 bd:=fun a z=>(m.bd a z).elim (l.bd a) fun z=>.inr (l.sure a z)
 bm:=fun a z=>m.bm a (l.bm a z)
 keep:=fun a o e h=>m.keep a o (l.keep a o e h) <| h.imp id fun h k hk q=>by
  rcases xaS k P.n with z |z
  ·rw[l.io k z]at q;exact h k z q
  ·rw[<-q,l.nw k z hk]at e;cases e
 sure:=fun a z=>l.sure a (m.sure a z)
 nw:=fun k h1 h2=>by
  rcases xaS k P'.n with z |z
  ·rw[m.io k z];exact l.nw k h1 z
  ·exact l.sure _ (m.nw k z h2)
end
inductive Cp where
 |eq |ne |lt |le |gt |ge |isin |notin |same |other
mutual
def D.eq:D->D->Bool
 |.non,.non=>true
 |.bl a,.bl b=>a==b
 |.bl a,.int b=>(if a then 1 else 0)==b
 |.int a,.bl b=>a==(if b then 1 else 0)
 |.int a,.int b=>a==b
 |.str a,.str b=>a==b
 |.tup a,.tup b=>D.eqs a b
 |.lst a,.lst b=>D.eqs a b
 |.ref a,.ref b=>a==b
 |_,_=>false
def D.eqs:List D->List D->Bool
 | [],[]=>true
 |a::as,b::bs=>D.eq a b && D.eqs as bs
 |_,_=>false
end
mutual
def D.dep:D->Nat
 |.tup xs=>D.deps xs + 1
 |.lst xs=>D.deps xs + 1
 |.ref _=>101
 |_=>0
def D.deps:List D->Nat
 | []=>0
 |a::as=>max (D.dep a) (D.deps as)
end
def D.flat:D->Bool
 |.tup _=>false
 |.lst _=>false
 |.ref _=>false
 |_=>true
noncomputable def vq (i j:Str):Bool:= !(Builtin.Str.occurrences j i 0 j.length 1).isEmpty
def gY (a b:D):Bool:=a.flat==b.flat && decide (b.dep<=50)
def wF (a b:D):Option Bool:=if gY a b=true/\a.dep<=50 then some (D.eq a b) else none
def wH (a b:D):Option Bool:=if gY a b=true/\a.dep<=50 then some (!D.eq a b) else none
noncomputable def kJ (f:Int->Int->Bool) (a b:D):Option Bool:=match a with
 |.int i=>(match b with |.int j=>some (f i j) |_=>none)
 |_=>none
noncomputable def wG (a b:D):Option Bool:=match b with
 |.str j=>(match a with |.str i=>some (vq i j) |_=>none)
 |.lst xs=>if (a.flat && xs.all D.flat)=true then some (xs.any fun y=>D.eq y a) else none
 |.tup xs=>if (a.flat && xs.all D.flat)=true then some (xs.any fun y=>D.eq y a) else none
 |_=>none
noncomputable def pB (a b:D):Option Bool:=match b with
 |.str j=>(match a with |.str i=>some (!vq i j) |_=>none)
 |.lst xs=>if (a.flat && xs.all D.flat)=true then some (!xs.any fun y=>D.eq y a) else none
 |.tup xs=>if (a.flat && xs.all D.flat)=true then some (!xs.any fun y=>D.eq y a) else none
 |_=>none
noncomputable def zM (a b:D):Option Bool:=match b with
 |.bl b=>(match a with |.bl a=>some (a==b) |_=>some false)
 |.non=>(match a with |.non=>some true |_=>some false)
 |_=>none
noncomputable def zL (a b:D):Option Bool:=match b with
 |.bl b=>(match a with |.bl a=>some (!(a==b)) |_=>some true)
 |.non=>(match a with |.non=>some false |_=>some true)
 |_=>none
noncomputable def fV (c:Cp) (a b:D):Option Bool:=match c with
 |.eq=>wF a b
 |.ne=>wH a b
 |.lt=>kJ (fun i j=>decide (i<j)) a b
 |.le=>kJ (fun i j=>decide (i<=j)) a b
 |.gt=>kJ (fun i j=>decide (j<i)) a b
 |.ge=>kJ (fun i j=>decide (j<=i)) a b
 |.isin=>wG a b
 |.notin=>pB a b
 |.same=>zM a b
 |.other=>zL a b
noncomputable def gK (K:Fgx) (P:Pl) (H:Hp):D->V->Prop
 |.lst ds,v=>∃a vs,v=.ref a/\U3 K P H a vs/\aH K P H ds vs
 |d,v=>Is K P H d v
section
variable {X:Cx}{pins:Pnx}{σ:L2.St}{H:Hp}{s:Shared}
def zi9 {K:Fgx}{P:Pl}{a:Addr}{xs:List V}(h:U3 K P H a xs):fW K H a xs:=h.imp (·.2) id
noncomputable def gA (K:Fgx) (P:Pl) (H:Hp):D->V->Prop
 |.lst ds,v=>∃a vs,v=.ref a/\fW K H a vs/\aH K P H ds vs
 |d,v=>Is K P H d v
def gK.w {K:Fgx}{P:Pl}{d:D}{v:V}(h:gK K P H d v):gA K P H d v:=by
 cases d<;>first |exact h |(obtain⟨a,vs,e,r,q⟩:=h;exact⟨a,vs,e,zi9 r,q⟩)
def Is.w {K:Fgx}{P:Pl}{d:D}{v:V}(h:Is K P H d v):gA K P H d v:=by
 cases d<;>first |exact h |(obtain⟨a,vs,e,r,q⟩:=h;exact⟨a,vs,e,r.imp (·.2) id,q⟩)
def sql (I:Inv X pins σ H s)(h:fW X.K H l xs):xs.length<=sizeLine/\∃its:List Value,Vals xs its/\s.heap.IsList l its.toArray:=by
 obtain⟨its,r,p,z⟩:=I.list h;exact⟨z,its,r,p.isList⟩
mutual
theorem Is.inj (I:Inv X pins σ H s):∀(d e:D) (v:V),gA X.K A H d v->gA X.K B H e v->d.dep<=100->e.dep<=100->d=e
  |.ref _,e,v,h,h',hd,he=>by simp[D.dep]at hd
  |.non,e,v,h,h',hd,he=>by
    have hv:v=.non:=h;subst hv;cases e<;>first |(simp[D.dep]at he;done) |(simp[gA,Is]at h'<;>rfl)
  |.bl b,e,v,h,h',hd,he=>by
    have hv:v=.bl b:=h;subst hv;cases e<;>first |(simp[D.dep]at he;done) |(simp[gA,Is]at h'<;>simp[h'])
  |.int b,e,v,h,h',hd,he=>by
    have hv:v=.int b:=h;subst hv;cases e<;>first |(simp[D.dep]at he;done) |(simp[gA,Is]at h'<;>simp[h'])
  |.str b,e,v,h,h',hd,he=>by
    have hv:v=.str b:=h;subst hv;cases e<;>first |(simp[D.dep]at he;done) |(simp[gA,Is]at h'<;>simp[h'])
  |.tup ds,e,v,h,h',hd,he=>by
    simp only[D.dep]at hd;simp only[gA,Is]at h;obtain⟨a,vs,rfl,t,r⟩:=h
    cases e with
    |tup es=>
      simp only[gA,Is]at h';obtain⟨b,ws,e1,t',r'⟩:=h';cases e1;have e2:=I.tuple_inj t t';subst e2;simp only[D.dep]at he;rw[aH.inj I ds es vs r r' (by omega) (by omega)]
    |lst es=>
      obtain⟨b,ws,e1,t',r'⟩:=h';cases e1;obtain⟨_,its,_,o2,e2,c2,_⟩:=sql I t';obtain⟨its2,_,⟨o,e3,c3,_⟩,_⟩:=I.tuple t;rw[e2]at e3;cases e3;rw[c2]at c3;exact absurd c3 (by simp)
    |ref _=>simp[D.dep]at he
    |_=>simp[gA,Is]at h'
  |.lst ds,e,v,h,h',hd,he=>by
    simp only[D.dep]at hd;obtain⟨a,vs,rfl,t,r⟩:=h
    cases e with
    |lst es=>
      obtain⟨b,ws,e1,t',r'⟩:=h';cases e1;have e2:=I.list_inj (t) (t');subst e2;simp only[D.dep]at he;rw[aH.inj I ds es vs r r' (by omega) (by omega)]
    |tup es=>
      simp only[gA,Is]at h';obtain⟨b,ws,e1,t',r'⟩:=h';cases e1;obtain⟨_,its,_,o2,e2,c2,_⟩:=sql I t;obtain⟨its2,_,⟨o,e3,c3,_⟩,_⟩:=I.tuple t';rw[e2]at e3;cases e3;rw[c2]at c3;exact absurd c3 (by simp)
    |ref _=>simp[D.dep]at he
    |_=>simp[gA,Is]at h'
theorem aH.inj (I:Inv X pins σ H s):∀(ds es:List D) (vs:List V),aH X.K A H ds vs->aH X.K B H es vs->D.deps ds<=100->D.deps es<=100->ds=es
  | [],es,vs,h,h',hd,he=>by
    have hv:vs=[]:=h;subst hv
    cases es with
    |nil=>rfl
    |cons=>simp[aH]at h'
  |d::ds,es,vs,h,h',hd,he=>by
    simp only[D.deps]at hd;obtain⟨v,r,rfl,p,q⟩:=h
    cases es with
    |nil=>simp[aH]at h'
    |cons e es=>
      obtain⟨v',r',e1,p',q'⟩:=h';cases e1;simp only[D.deps]at he;rw[Is.inj I d e v p.w p'.w (by omega) (by omega),aH.inj I ds es r q q' (by omega) (by omega)]
end
mutual
theorem D.eq_refl:∀d:D,D.eq d d=true
 |.non=>rfl
 |.bl b=>by simp[D.eq]
 |.int b=>by simp[D.eq]
 |.str b=>by simp[D.eq]
 |.tup ds=>by simp only[D.eq];exact D.eqs_refl ds
 |.lst ds=>by simp only[D.eq];exact D.eqs_refl ds
 |.ref n=>by simp[D.eq]
theorem D.eqs_refl:∀d:List D,D.eqs d d=true
 | []=>rfl
 |d::ds=>by simp only[D.eqs,D.eq_refl d,D.eqs_refl ds,xbY]
end
theorem D.eqs_len:∀(ds es:List D),ds.length≠es.length->D.eqs ds es=false
  | [],[],h=>absurd rfl h
  | [],_::_,_=>rfl
  |_::_,[],_=>rfl
  |d::ds,e::es,h=>by
    simp only[D.eqs,D.eqs_len ds es (by simpa using h),xbv]
theorem D.eqs_all:∀(ds es:List D),ds.length=es.length->D.eqs ds es=(List.range ds.length).all fun j=>D.eq (ds.getD j .non) (es.getD j .non)
  | [],[],_=>rfl
  |d::ds,e::es,h=>by
    rw[D.eqs,D.eqs_all ds es (by simpa using h),xal,List.range_succ_eq_map,xbs,xdY];rfl
mutual
theorem Pa (I:Inv X pins σ H s):∀(d e:D) (v w:V) (u u':Value),gA X.K A H d v->gA X.K B H e w->RelV v u->RelV w u'->Ar.units + d.dep<cLine->d.dep<=100->e.dep<=100->SeqAt.EqAt Ar s u u' (D.eq d e)
  |.ref _,e,v,w,u,u',h1,h2,r1,r2,hu,hd,he=>by simp[D.dep]at hd
  |.non,e,v,w,u,u',h1,h2,r1,r2,hu,hd,he=>by
    have hv:v=.non:=h1;subst hv;cases r1;have hu':Ar.units<cLine:=by omega
    cases e with
    |ref _=>simp[D.dep]at he
    |non=>have hw:w=.non:=h2;subst hw;cases r2;exact xc8 _
    |bl b=>have hw:w=.bl b:=h2;subst hw;cases r2;exact SeqAt.EqAt.none_bool _
    |int b=>have hw:w=.int b:=h2;subst hw;obtain⟨t,rfl⟩:=r2;exact SeqAt.EqAt.none_int _ _
    |str b=>have hw:w=.str b:=h2;subst hw;obtain⟨t,rfl⟩:=r2;exact SeqAt.EqAt.none_str _ _
    |tup es=>obtain⟨a,vs,rfl,t,_⟩:=h2;cases r2;obtain⟨its,_,p,_⟩:=I.tuple t;exact SeqAt.EqAt.none_tuple p hu'
    |lst es=>obtain⟨a,vs,rfl,t,_⟩:=h2;cases r2;obtain⟨_,its,_,p⟩:=sql I t;exact SeqAt.EqAt.none_list p hu'
  |.bl x,e,v,w,u,u',h1,h2,r1,r2,hu,hd,he=>by
    have hv:v=.bl x:=h1;subst hv;cases r1;have hu':Ar.units<cLine:=by omega
    cases e with
    |ref _=>simp[D.dep]at he
    |non=>have hw:w=.non:=h2;subst hw;cases r2;exact SeqAt.EqAt.bool_none _
    |bl b=>have hw:w=.bl b:=h2;subst hw;cases r2;exact SeqAt.EqAt.bool_bool _ _
    |int b=>have hw:w=.int b:=h2;subst hw;obtain⟨t,rfl⟩:=r2;exact SeqAt.EqAt.bool_int _ _ _
    |str b=>have hw:w=.str b:=h2;subst hw;obtain⟨t,rfl⟩:=r2;exact SeqAt.EqAt.bool_str _ _ _
    |tup es=>obtain⟨a,vs,rfl,t,_⟩:=h2;cases r2;obtain⟨its,_,p,_⟩:=I.tuple t;exact SeqAt.EqAt.bool_tuple _ p hu'
    |lst es=>obtain⟨a,vs,rfl,t,_⟩:=h2;cases r2;obtain⟨_,its,_,p⟩:=sql I t;exact SeqAt.EqAt.bool_list _ p hu'
  |.int x,e,v,w,u,u',h1,h2,r1,r2,hu,hd,he=>by
    have hv:v=.int x:=h1;subst hv;obtain⟨t0,rfl⟩:=r1;have hu':Ar.units<cLine:=by omega
    cases e with
    |ref _=>simp[D.dep]at he
    |non=>have hw:w=.non:=h2;subst hw;cases r2;exact SeqAt.EqAt.int_none _ _
    |bl b=>have hw:w=.bl b:=h2;subst hw;cases r2;exact SeqAt.EqAt.int_bool _ _ _
    |int b=>have hw:w=.int b:=h2;subst hw;obtain⟨t,rfl⟩:=r2;exact SeqAt.EqAt.int_int _ _ _ _
    |str b=>have hw:w=.str b:=h2;subst hw;obtain⟨t,rfl⟩:=r2;exact xds _ _ _ _
    |tup es=>obtain⟨a,vs,rfl,t,_⟩:=h2;cases r2;obtain⟨its,_,p,_⟩:=I.tuple t;exact SeqAt.EqAt.int_tuple _ _ p hu'
    |lst es=>obtain⟨a,vs,rfl,t,_⟩:=h2;cases r2;obtain⟨_,its,_,p⟩:=sql I t;exact SeqAt.EqAt.int_list _ _ p hu'
  |.str x,e,v,w,u,u',h1,h2,r1,r2,hu,hd,he=>by
    have hv:v=.str x:=h1;subst hv;obtain⟨t0,rfl⟩:=r1;have hu':Ar.units<cLine:=by omega
    cases e with
    |ref _=>simp[D.dep]at he
    |non=>have hw:w=.non:=h2;subst hw;cases r2;exact SeqAt.EqAt.str_none _ _
    |bl b=>have hw:w=.bl b:=h2;subst hw;cases r2;exact SeqAt.EqAt.str_bool _ _ _
    |int b=>have hw:w=.int b:=h2;subst hw;obtain⟨t,rfl⟩:=r2;exact xdt _ _ _ _
    |str b=>have hw:w=.str b:=h2;subst hw;obtain⟨t,rfl⟩:=r2;exact SeqAt.EqAt.str_str _ _ _ _
    |tup es=>obtain⟨a,vs,rfl,t,_⟩:=h2;cases r2;obtain⟨its,_,p,_⟩:=I.tuple t;exact SeqAt.EqAt.str_tuple _ _ p hu'
    |lst es=>obtain⟨a,vs,rfl,t,_⟩:=h2;cases r2;obtain⟨_,its,_,p⟩:=sql I t;exact SeqAt.EqAt.str_list _ _ p hu'
  |.tup ds,e,v,w,u,u',h1,h2,r1,r2,hu,hd,he=>by
    have h1':=h1;have hd':=hd;simp only[D.dep]at hu hd;have hu':Ar.units<cLine:=by omega
    obtain⟨a,vs,rfl,t,q⟩:=h1;cases r1;obtain⟨its,rv,p,hz⟩:=I.tuple t
    cases e with
    |ref _=>simp[D.dep]at he
    |non=>have hw:w=.non:=h2;subst hw;cases r2;exact SeqAt.EqAt.tuple_none p hu'
    |bl b=>have hw:w=.bl b:=h2;subst hw;cases r2;exact SeqAt.EqAt.tuple_bool _ p hu'
    |int b=>have hw:w=.int b:=h2;subst hw;obtain⟨t,rfl⟩:=r2;exact SeqAt.EqAt.tuple_int _ _ p hu'
    |str b=>have hw:w=.str b:=h2;subst hw;obtain⟨t,rfl⟩:=r2;exact SeqAt.EqAt.tuple_str _ _ p hu'
    |tup es=>
      have h2':=h2;have he':=he;simp only[D.dep]at he;obtain⟨b,ws,rfl,t',q'⟩:=h2;cases r2
      by_cases hab:a=b
      · subst hab;rw[Is.inj I _ _ _ h1' h2' hd' he',D.eq_refl];exact xc8 _
      · obtain⟨its',rv',p',hz'⟩:=I.tuple t';refine SeqAt.EqAt.of_refs hab ?_;have l1:its.toArray.size=ds.length:=by rw[xai, <-rv.length,q.len]
        have l2:its'.toArray.size=es.length:=by rw[xai, <-rv'.length,q'.len]
        have key:=SeqAt.RcAt.tuples (A:=Ar) (s:=s) (e:=fun j=>D.eq (ds.getD j .non) (es.getD j .non)) p p' hu' fun j j1 j2=>by
          simpa using Aq I ds es vs ws its its' q q' rv rv' (Ar:=Ar.in1) (by show Ar.units + 1 + _<_;omega) (by omega) (by omega) j (by simpa using j1) (by simpa using j2)
        rw[l1,l2]at key
        by_cases hl:ds.length=es.length
        · rw[show D.eq (.tup ds) (.tup es)=D.eqs ds es from rfl,D.eqs_all ds es hl];rw[hl,xeE,xbr,xep]at key;rw[hl];exact key
        · rw[show D.eq (.tup ds) (.tup es)=D.eqs ds es from rfl,D.eqs_len ds es hl];rw[xbj.mpr hl,xbv]at key;exact key
    |lst es=>obtain⟨b,ws,rfl,t',_⟩:=h2;cases r2;obtain⟨_,its',_,p'⟩:=sql I t';exact SeqAt.EqAt.tuple_list p p' hu'
  |.lst ds,e,v,w,u,u',h1,h2,r1,r2,hu,hd,he=>by
    have h1':=h1;have hd':=hd;simp only[D.dep]at hu hd;have hu':Ar.units<cLine:=by omega
    obtain⟨a,vs,rfl,t,q⟩:=h1;cases r1;obtain⟨hz,its,rv,p⟩:=sql I t
    cases e with
    |ref _=>simp[D.dep]at he
    |non=>have hw:w=.non:=h2;subst hw;cases r2;exact SeqAt.EqAt.list_none p hu'
    |bl b=>have hw:w=.bl b:=h2;subst hw;cases r2;exact SeqAt.EqAt.list_bool _ p hu'
    |int b=>have hw:w=.int b:=h2;subst hw;obtain⟨t,rfl⟩:=r2;exact SeqAt.EqAt.list_int _ _ p hu'
    |str b=>have hw:w=.str b:=h2;subst hw;obtain⟨t,rfl⟩:=r2;exact SeqAt.EqAt.list_str _ _ p hu'
    |tup es=>obtain⟨b,ws,rfl,t',_⟩:=h2;cases r2;obtain⟨its',_,p',_⟩:=I.tuple t';exact SeqAt.EqAt.list_tuple p p' hu'
    |lst es=>
      have h2':=h2;have he':=he;simp only[D.dep]at he;obtain⟨b,ws,rfl,t',q'⟩:=h2;cases r2
      by_cases hab:a=b
      · subst hab;rw[Is.inj I _ _ _ h1' h2' hd' he',D.eq_refl];exact xc8 _
      · obtain⟨hz',its',rv',p'⟩:=sql I t';refine SeqAt.EqAt.of_refs hab ?_;have l1:its.toArray.size=ds.length:=by rw[xai, <-rv.length,q.len]
        have l2:its'.toArray.size=es.length:=by rw[xai, <-rv'.length,q'.len]
        by_cases hl:ds.length=es.length
        · have key:=SeqAt.RcAt.lists (A:=Ar) (s:=s) (e:=fun j=>D.eq (ds.getD j .non) (es.getD j .non)) p p' (by rw[l1,l2,hl]) hu' fun j j1 j2=>by
            simpa using Aq I ds es vs ws its its' q q' rv rv' (Ar:=Ar.in1) (by show Ar.units + 1 + _<_;omega) (by omega) (by omega) j (by simpa using j1) (by simpa using j2)
          rw[show D.eq (.lst ds) (.lst es)=D.eqs ds es from rfl,D.eqs_all ds es hl];rw[l1]at key;exact key
        · rw[show D.eq (.lst ds) (.lst es)=D.eqs ds es from rfl,D.eqs_len ds es hl];exact xdZ p p' (by rw[l1,l2];simpa using hl) hu'
theorem Aq (I:Inv X pins σ H s):∀(ds es:List D) (vs ws:List V) (its its':List Value),aH X.K A H ds vs->aH X.K B H es ws->Vals vs its->Vals ws its'->Ar.units + D.deps ds<cLine->D.deps ds<=100->D.deps es<=100->
    ∀(j:Nat) (h1:j<its.length) (h2:j<its'.length),SeqAt.EqAt Ar s its[j] its'[j] (D.eq (ds.getD j .non) (es.getD j .non))
  | [],es,vs,ws,its,its',h,h',r,r',hu,hd,he,j,j1,j2=>by
    have hv:vs=[]:=h;subst hv;cases r;exact absurd j1 (xck _)
  |d::ds,[],vs,ws,its,its',h,h',r,r',hu,hd,he,j,j1,j2=>by
    have hv:ws=[]:=h';subst hv;cases r';exact absurd j2 (xck _)
  |d::ds,e::es,vs,ws,its,its',h,h',r,r',hu,hd,he,j,j1,j2=>by
    obtain⟨v,vr,rfl,p,q⟩:=h;obtain⟨w,wr,rfl,p',q'⟩:=h';simp only[D.deps]at hu hd he
    cases r with
    |cons r1 r2=>
      cases r' with
      |cons r1' r2'=>
        cases j with
        |zero=>exact Pa I d e v w _ _ p.w p'.w r1 r1' (by omega) (by omega) (by omega)
        |succ j=>exact Aq I ds es vr wr _ _ q q' r2 r2' (by omega) (by omega) (by omega) j (by simpa using j1) (by simpa using j2)
end
def zbh {d e:D}{A B:Pl}{K:Fgx}{v w:V}(fd:d.flat=true)(fe:e.flat=true)(h1:gA K A H d v)(h2:gA K B H e w):
  (zj v w=true/\D.eq d e=decide (v=w))\/(∃a i,v=.bl a/\w=.int i/\D.eq d e=((if a then 1 else 0)==i))\/∃a i,v=.int i/\w=.bl a/\D.eq d e=(i==(if a then 1 else 0)):=by
 cases d<;>cases e<;>simp only[D.flat,xdy]at fd fe<;>simp only[gA,Is]at h1 h2<;>subst h1 h2<;>simp[zj,D.eq]
 all_goals first |rfl |(rw[xaQ];simp)
noncomputable def yW (K:Fgx) (neg:Bool):R2:=fun x y H Q=>∃(A B:Pl) (d e:D),gA K A H d x/\gA K B H e y/\gY d e=true/\d.dep<=50/\Q (.bl (if neg then !D.eq d e else D.eq d e)) H
def zhF (hu:X.A.units + 60<cLine):fU X (compareOp .Eq) (yW X.K false):=by
  intro pins s σ H x y v u Q I rx ry h;obtain⟨A,B,d,e,h1,h2,hk,hd,q⟩:=h;have q:Q (.bl (D.eq d e)) H:=q;have fin:SeqAt.RcAt X.A s v u (D.eq d e)->wpAny (model X.prog X.w) X.A (compareOp .Eq v u) (EP X pins σ Q) X.xe s:=fun r=>EqBoolInt.of_rc r ⟨.bl _,H,I,rfl,q⟩;have hu':X.A.units<cLine:=by omega
  cases fd:d.flat with
  |true=>
    simp only[gY,xac,xaB,xaZ]at hk;have fe:e.flat=true:=hk.1.symm.trans fd;rcases zbh fd fe h1 h2 with⟨sc,eq⟩ |⟨a,i,rfl,rfl,eq⟩ |⟨a,i,rfl,rfl,eq⟩
    · exact zkh pins s σ H x y v u Q I rx ry ⟨sc,by rw[<-eq];exact q⟩
    · cases rx;obtain⟨t,rfl⟩:=ry;exact EqBoolInt.eq_bool_int ⟨.bl _,H,I,rfl,by rw[<-eq];exact q⟩
    · cases ry;obtain⟨t,rfl⟩:=rx;exact EqBoolInt.eq_int_bool ⟨.bl _,H,I,rfl,by rw[<-eq];exact q⟩
  |false=>
    simp only[gY,xac,xaB,xaZ]at hk;have he:=hk.2;have fe:e.flat=false:=hk.1.symm.trans fd
    cases d with
    |tup ds=>
      obtain⟨a,vs,rfl,t,p⟩:=h1;cases rx;obtain⟨its,rv,pt,hz⟩:=I.tuple t;simp only[D.dep]at hd
      cases e with
      |tup es=>
        obtain⟨b,ws,rfl,t',p'⟩:=h2;cases ry;obtain⟨its',rv',pt',hz'⟩:=I.tuple t';have l1:its.toArray.size=ds.length:=by rw[xai, <-rv.length,p.len]
        have l2:its'.toArray.size=es.length:=by rw[xai, <-rv'.length,p'.len]
        have key:=SeqAt.RcAt.tuples (A:=X.A) (s:=s) (e:=fun j=>D.eq (ds.getD j .non) (es.getD j .non)) pt pt' hu' fun j j1 j2=>by
          simpa using Aq I ds es vs ws its its' p p' rv rv' (Ar:=X.A.in1) (by show X.A.units + 1 + _<_;omega) (by omega) (by simp only[D.dep]at he;omega) j (by simpa using j1) (by simpa using j2)
        rw[l1,l2]at key;refine fin ?_
        by_cases hl:ds.length=es.length
        · rw[show D.eq (.tup ds) (.tup es)=D.eqs ds es from rfl,D.eqs_all ds es hl];rw[hl,xeE,xbr,xep]at key;rw[hl];exact key
        · rw[show D.eq (.tup ds) (.tup es)=D.eqs ds es from rfl,D.eqs_len ds es hl];rw[xbj.mpr hl,xbv]at key;exact key
      |lst es=>
        obtain⟨b,ws,rfl,t',p'⟩:=h2;cases ry;obtain⟨_,its',rv',e'⟩:=sql I t';exact fin (SeqAt.RcAt.tuple_list pt e' hu')
      |ref _=>simp[D.dep]at he
      |_=>cases fe
    |lst ds=>
      obtain⟨a,vs,rfl,t,p⟩:=h1;cases rx;obtain⟨hz,its,rv,pt⟩:=sql I t;simp only[D.dep]at hd
      cases e with
      |tup es=>
        obtain⟨b,ws,rfl,t',p'⟩:=h2;cases ry;obtain⟨its',rv',pt',hz'⟩:=I.tuple t';exact fin (SeqAt.RcAt.list_tuple pt pt' hu')
      |lst es=>
        obtain⟨b,ws,rfl,t',p'⟩:=h2;cases ry;obtain⟨_,its',rv',pt'⟩:=sql I t';have l1:its.toArray.size=ds.length:=by rw[xai, <-rv.length,p.len]
        have l2:its'.toArray.size=es.length:=by rw[xai, <-rv'.length,p'.len]
        refine fin ?_
        by_cases hl:ds.length=es.length
        · have key:=SeqAt.RcAt.lists (A:=X.A) (s:=s) (e:=fun j=>D.eq (ds.getD j .non) (es.getD j .non)) pt pt' (by rw[l1,l2,hl]) hu' fun j j1 j2=>by
            simpa using Aq I ds es vs ws its its' p p' rv rv' (Ar:=X.A.in1) (by show X.A.units + 1 + _<_;omega) (by omega) (by simp only[D.dep]at he;omega) j (by simpa using j1) (by simpa using j2)
          rw[show D.eq (.lst ds) (.lst es)=D.eqs ds es from rfl,D.eqs_all ds es hl];rw[l1]at key;exact key
        · rw[show D.eq (.lst ds) (.lst es)=D.eqs ds es from rfl,D.eqs_len ds es hl];exact xdZ pt pt' (by rw[l1,l2];simpa using hl) hu'
      |ref _=>simp[D.dep]at he
      |_=>cases fe
    |ref _=>simp[D.dep]at hd
    |_=>cases fd
def zhZ (hu:X.A.units + 60<cLine):fU X (compareOp .NotEq) (yW X.K true):=by
  intro pins s σ H x y v u Q I rx ry h;obtain⟨A,B,d,e,h1,h2,hk,hd,q⟩:=h;have q:Q (.bl (!D.eq d e)) H:=q;have fin:SeqAt.RcNeAt X.A s v u (!D.eq d e)->wpAny (model X.prog X.w) X.A (compareOp .NotEq v u) (EP X pins σ Q) X.xe s:=fun r=>EqBoolInt.of_rcne r ⟨.bl _,H,I,rfl,q⟩;have hu':X.A.units<cLine:=by omega
  cases fd:d.flat with
  |true=>
    simp only[gY,xac,xaB,xaZ]at hk;have fe:e.flat=true:=hk.1.symm.trans fd;rcases zbh fd fe h1 h2 with⟨sc,eq⟩ |⟨a,i,rfl,rfl,eq⟩ |⟨a,i,rfl,rfl,eq⟩
    · exact zlr pins s σ H x y v u Q I rx ry ⟨sc,by rw[<-eq];exact q⟩
    · cases rx;obtain⟨t,rfl⟩:=ry;exact EqBoolInt.ne_bool_int ⟨.bl _,H,I,rfl,by rw[<-eq];exact q⟩
    · cases ry;obtain⟨t,rfl⟩:=rx;exact EqBoolInt.ne_int_bool ⟨.bl _,H,I,rfl,by rw[<-eq];exact q⟩
  |false=>
    simp only[gY,xac,xaB,xaZ]at hk;have he:=hk.2;have fe:e.flat=false:=hk.1.symm.trans fd
    cases d with
    |tup ds=>
      obtain⟨a,vs,rfl,t,p⟩:=h1;cases rx;obtain⟨its,rv,pt,hz⟩:=I.tuple t;simp only[D.dep]at hd
      cases e with
      |tup es=>
        obtain⟨b,ws,rfl,t',p'⟩:=h2;cases ry;obtain⟨its',rv',pt',hz'⟩:=I.tuple t';have l1:its.toArray.size=ds.length:=by rw[xai, <-rv.length,p.len]
        have l2:its'.toArray.size=es.length:=by rw[xai, <-rv'.length,p'.len]
        have key:=SeqAt.RcNeAt.tuples (A:=X.A) (s:=s) (e:=fun j=>D.eq (ds.getD j .non) (es.getD j .non)) pt pt' hu' fun j j1 j2=>by
          simpa using Aq I ds es vs ws its its' p p' rv rv' (Ar:=X.A.in1) (by show X.A.units + 1 + _<_;omega) (by omega) (by simp only[D.dep]at he;omega) j (by simpa using j1) (by simpa using j2)
        rw[l1,l2]at key;refine fin ?_
        by_cases hl:ds.length=es.length
        · rw[show D.eq (.tup ds) (.tup es)=D.eqs ds es from rfl,D.eqs_all ds es hl];rw[hl,xeE,xbr,xep]at key;rw[hl];exact key
        · rw[show D.eq (.tup ds) (.tup es)=D.eqs ds es from rfl,D.eqs_len ds es hl];rw[xbj.mpr hl,xbv]at key;exact key
      |lst es=>
        obtain⟨b,ws,rfl,t',p'⟩:=h2;cases ry;obtain⟨_,its',rv',e'⟩:=sql I t';exact fin (SeqAt.RcNeAt.tuple_list pt e' hu')
      |ref _=>simp[D.dep]at he
      |_=>cases fe
    |lst ds=>
      obtain⟨a,vs,rfl,t,p⟩:=h1;cases rx;obtain⟨hz,its,rv,pt⟩:=sql I t;simp only[D.dep]at hd
      cases e with
      |tup es=>
        obtain⟨b,ws,rfl,t',p'⟩:=h2;cases ry;obtain⟨its',rv',pt',hz'⟩:=I.tuple t';exact fin (SeqAt.RcNeAt.list_tuple pt pt' hu')
      |lst es=>
        obtain⟨b,ws,rfl,t',p'⟩:=h2;cases ry;obtain⟨_,its',rv',pt'⟩:=sql I t';have l1:its.toArray.size=ds.length:=by rw[xai, <-rv.length,p.len]
        have l2:its'.toArray.size=es.length:=by rw[xai, <-rv'.length,p'.len]
        refine fin ?_
        by_cases hl:ds.length=es.length
        · have key:=SeqAt.RcNeAt.lists (A:=X.A) (s:=s) (e:=fun j=>D.eq (ds.getD j .non) (es.getD j .non)) pt pt' (by rw[l1,l2,hl]) hu' fun j j1 j2=>by
            simpa using Aq I ds es vs ws its its' p p' rv rv' (Ar:=X.A.in1) (by show X.A.units + 1 + _<_;omega) (by omega) (by simp only[D.dep]at he;omega) j (by simpa using j1) (by simpa using j2)
          rw[show D.eq (.lst ds) (.lst es)=D.eqs ds es from rfl,D.eqs_all ds es hl];rw[l1]at key;exact key
        · rw[show D.eq (.lst ds) (.lst es)=D.eqs ds es from rfl,D.eqs_len ds es hl];exact SeqAt.RcNeAt.lists_lengths pt pt' (by rw[l1,l2];simpa using hl) hu'
      |ref _=>simp[D.dep]at he
      |_=>cases fe
    |ref _=>simp[D.dep]at hd
    |_=>cases fd
noncomputable def wI:Cp->CmpOp
 |.eq=>.Eq
 |.ne=>.NotEq
 |.lt=>.Lt
 |.le=>.LtE
 |.gt=>.Gt
 |.ge=>.GtE
 |.isin=>.In
 |.notin=>.NotIn
 |.same=>.Is
 |.other=>.IsNot
noncomputable def Hh (K:Fgx):Cp->R2
 |.eq=>yW K false
 |.ne=>yW K true
 |.lt=>tK fun i j=>.bl (decide (i<j))
 |.le=>tK fun i j=>.bl (decide (i<=j))
 |.gt=>tK fun i j=>.bl (decide (j<i))
 |.ge=>tK fun i j=>.bl (decide (j<=i))
 |.isin=>fun x y H Q=>(∃i j,x=.str i/\y=.str j/\Q (.bl (!(Builtin.Str.occurrences j i 0 j.length 1).isEmpty)) H)\/Ks K false x y H Q
 |.notin=>fun x y H Q=>(∃i j,x=.str i/\y=.str j/\Q (.bl (!(!(Builtin.Str.occurrences j i 0 j.length 1).isEmpty))) H)\/Ks K true x y H Q
 |.same=>fun x y H Q=>(y=.non/\Q (.bl (decide (x=.non))) H)\/(∃b,y=.bl b/\Q (.bl (decide (x=.bl b))) H)
 |.other=>fun x y H Q=>(y=.non/\Q (.bl (!decide (x=.non))) H)\/(∃b,y=.bl b/\Q (.bl (!decide (x=.bl b))) H)
def wJ (hu:X.A.units + 60<cLine):∀c:Cp,fU X (compareOp (wI c)) (Hh X.K c)
 |.eq=>zhF hu
 |.ne=>zhZ hu
 |.lt=>zjw
 |.le=>zlq
 |.gt=>zlz
 |.ge=>zlk
 |.isin=>zcc.or zcb
 |.notin=>zbg.or za3
 |.same=>zhm.or zin
 |.other=>zfN.or zcL
theorem Ft {K:Fgx}{A:Pl}{d:D}{v:V}(f:d.flat=true)(h:Is K A H d v):xQ v=true:=by
 cases d<;>simp only[D.flat,xdy]at f<;>simp only[Is]at h<;>subst h<;>rfl
theorem Pb {K:Fgx}{A B:Pl}{d e:D}{v w:V}(f:d.flat=true)(g:e.flat=true)(h:Is K A H d v)(h':Is K B H e w):yG v w=D.eq d e:=by
 cases d<;>cases e<;>simp only[D.flat,xdy]at f g<;>simp only[Is]at h h'<;>subst h h'<;>rfl
theorem Fv {K:Fgx}{A:Pl}:∀{ds:List D} {vs:List V},ds.all D.flat=true->aH K A H ds vs->vs.all xQ=true
  | [],_,_,h=>by rw[show _=[] from h];rfl
  |d::ds,_,f,h=>by
    obtain⟨v,r,rfl,p,q⟩:=h;rw[xbs,xac]at f;rw[xbs,Ft f.1 p,Fv f.2 q];rfl
theorem wM {K:Fgx}{A B:Pl}{e:D}{w:V}(g:e.flat=true)(h':Is K B H e w):∀{ds:List D} {vs:List V},ds.all D.flat=true->aH K A H ds vs->inV w vs=ds.any fun y=>D.eq y e
  | [],_,_,h=>by rw[show _=[] from h];rfl
  |d::ds,_,f,h=>by
    obtain⟨v,r,rfl,p,q⟩:=h;rw[xbs,xac]at f;have:=wM g h' f.2 q;unfold inV at this ⊢;rw[xbm,xbm,this,Pb f.1 g p h']
def Js {K:Fgx}{A B:Pl}{c:Cp}{d e:D}{v w:V}{b:Bool}{Q:VK}(h:fV c d e=some b)(h1:gA K A H d v)(h2:gA K B H e w)(q:Q (.bl b) H):Hh K c v w H Q:=by
  cases c
  case eq=>
    simp only[fV,wF,wH]at h;split at h
    · rename_i hc;cases h;exact⟨A,B,d,e,h1,h2,hc.1,hc.2,q⟩
    · cases h
  case ne=>
    simp only[fV,wF,wH]at h;split at h
    · rename_i hc;cases h;exact⟨A,B,d,e,h1,h2,hc.1,hc.2,q⟩
    · cases h
  case isin=>
    cases e with
    |str j=>
      cases d<;>simp only[fV,kJ,wG,pB,zM,zL,reduceCtorEq]at h
      simp only[gA,Is]at h1 h2;subst h1 h2;cases h;exact .inl ⟨_,_,rfl,rfl,q⟩
    |lst xs=>
      have h':(if (d.flat && xs.all D.flat)=true then some (xs.any fun y=>D.eq y d) else none)=some b:=by cases d<;>exact h
      split at h'
      · rename_i hc;rw[xac]at hc;cases h';obtain⟨a,vs,rfl,t,p⟩:=h2;have h1':Is K A H d v:=by cases d<;>first |exact h1 |cases hc.1
        refine .inr ⟨a,vs,rfl,.inl (t),Ft hc.1 h1',Fv hc.2 p,?_⟩;rw[wM hc.1 h1' hc.2 p];exact q
      · cases h'
    |tup xs=>
      have h':(if (d.flat && xs.all D.flat)=true then some (xs.any fun y=>D.eq y d) else none)=some b:=by cases d<;>exact h
      split at h'
      · rename_i hc;rw[xac]at hc;cases h';obtain⟨a,vs,rfl,t,p⟩:=h2;have h1':Is K A H d v:=by cases d<;>first |exact h1 |cases hc.1
        refine .inr ⟨a,vs,rfl,.inr t,Ft hc.1 h1',Fv hc.2 p,?_⟩;rw[wM hc.1 h1' hc.2 p];exact q
      · cases h'
    |_=>cases d<;>simp only[fV,kJ,wG,pB,zM,zL,reduceCtorEq]at h
  case notin=>
    cases e with
    |str j=>
      cases d<;>simp only[fV,kJ,wG,pB,zM,zL,reduceCtorEq]at h
      simp only[gA,Is]at h1 h2;subst h1 h2;cases h;exact .inl ⟨_,_,rfl,rfl,q⟩
    |lst xs=>
      have h':(if (d.flat && xs.all D.flat)=true then some (!xs.any fun y=>D.eq y d) else none)=some b:=by cases d<;>exact h
      split at h'
      · rename_i hc;rw[xac]at hc;cases h';obtain⟨a,vs,rfl,t,p⟩:=h2;have h1':Is K A H d v:=by cases d<;>first |exact h1 |cases hc.1
        refine .inr ⟨a,vs,rfl,.inl (t),Ft hc.1 h1',Fv hc.2 p,?_⟩;rw[wM hc.1 h1' hc.2 p];exact q
      · cases h'
    |tup xs=>
      have h':(if (d.flat && xs.all D.flat)=true then some (!xs.any fun y=>D.eq y d) else none)=some b:=by cases d<;>exact h
      split at h'
      · rename_i hc;rw[xac]at hc;cases h';obtain⟨a,vs,rfl,t,p⟩:=h2;have h1':Is K A H d v:=by cases d<;>first |exact h1 |cases hc.1
        refine .inr ⟨a,vs,rfl,.inr t,Ft hc.1 h1',Fv hc.2 p,?_⟩;rw[wM hc.1 h1' hc.2 p];exact q
      · cases h'
    |_=>cases d<;>simp only[fV,kJ,wG,pB,zM,zL,reduceCtorEq]at h
  case same=>
    cases d<;>cases e<;>simp only[fV,kJ,wG,pB,zM,zL,reduceCtorEq]at h<;>cases h<;>simp only[gA,Is]at h1 h2
    all_goals first
      |(subst h1 h2;first |exact .inr ⟨_,rfl,by rw[Jt];exact q⟩ |exact .inl ⟨rfl,by simpa using q⟩ |exact .inr ⟨_,rfl,by simpa using q⟩)
      |(obtain⟨a,vs,rfl,_⟩:=h1;subst h2;first |exact .inl ⟨rfl,by simpa using q⟩ |exact .inr ⟨_,rfl,by simpa using q⟩)
  case other=>
    cases d<;>cases e<;>simp only[fV,kJ,wG,pB,zM,zL,reduceCtorEq]at h<;>cases h<;>simp only[gA,Is]at h1 h2
    all_goals first
      |(subst h1 h2;first |exact .inr ⟨_,rfl,by rw[Jt];exact q⟩ |exact .inl ⟨rfl,by simpa using q⟩ |exact .inr ⟨_,rfl,by simpa using q⟩)
      |(obtain⟨a,vs,rfl,_⟩:=h1;subst h2;first |exact .inl ⟨rfl,by simpa using q⟩ |exact .inr ⟨_,rfl,by simpa using q⟩)
  all_goals
    cases d<;>cases e<;>simp only[fV,kJ,wG,pB,zM,zL,reduceCtorEq]at h
    simp only[gA,Is]at h1 h2;subst h1 h2;cases h;exact⟨_,_,rfl,rfl,q⟩
end
inductive Mode where
 |val |bor
def Ja (mg:Mgx)(H:Hp)(c:Str)(n:Int)(v:V):Prop:=∃a C dx,v=.ref a/\mg c=some (.ref C)/\H a=some (xo a C dx false)/\
 match dx with
 |none=>n=0
 |some d=>∃fs,H d=some (.xd fs)/\fs.lookup ("at":Str)=some (.int (n - 1))/\n≠0
def Ja.lt (l:Lt P H P' H')(h:Ja mg H c n v):Ja mg H' c n v:=by
  obtain⟨a,C,dx,e,m,ea,q⟩:=h;refine⟨a,C,dx,e,m,l.keep _ _ ea (.inl (.inr (.inr (.inl ⟨_,rfl⟩)))),?_⟩
  cases dx with
  |none=>exact q
  |some d=>
    obtain⟨fs,ed,el⟩:=q;exact⟨fs,l.keep _ _ ed (.inl (.inr (.inr (.inr ⟨_,rfl⟩)))),el⟩
noncomputable def Nb (K:Fgx) (mg:Mgx) (P:Pl) (H:Hp) (o:Option Addr) (sv:Option V):Slot->Prop
 |.un=>True
 |.val d=>∃v,sv=some v/\Is K P H d v
 |.own ds=>∃a vs,o=some a/\sv=some (.ref a)/\H a=some (.lst vs)/\aH K P H ds vs
 |.exc c n=>∃v,sv=some v/\Ja mg H c n v
structure Ok (K:Fgx)(mg:Mgx)(P0:Pl)(H0:Hp)(P:Pl)(O:List (Option Addr))(H:Hp)(M:Mm)(st:L2.St)(env:Env):Prop where
 hk:Hk K mg P H M
 base:LtE P0 H0 P H
 b0:∀a,P0.bd a->H0 a≠none
 slot:∀(i:Nat) s,env[i]? =some s->Nb K mg P H (O[i]?).join (st[i]?).join s
 own:∀a,some a∈O->P.bd a/\(∀k,k<P.n->P.io k≠a)/\H0 a=none
 inj:∀(i j:Nat) a,O[i]? =some (some a)->O[j]? =some (some a)->i=j
 olen:O.length=env.length
 slen:st.length=env.length
def gB (K:Fgx)(P:Pl)(H:Hp)(m:Mode)(d:D)(v:V):Prop:=match m with
 |.val=>Is K P H d v
 |.bor=>gK K P H d v
inductive Res where
 |v (d:D) |x (c:Str) (n:Int)
abbrev O:=Option (Res×Mm)
abbrev E:=Env->Mm->O
noncomputable def bnd (o:O) (k:D->Mm->O):O:=match o with
 |some (.v d,M)=>k d M
 |some (.x c n,M)=>some (.x c n,M)
 |none=>none
def gD (h:bnd o k=some (r,M')):(∃d M,o=some (.v d,M)/\k d M=some (r,M'))\/∃c n,o=some (.x c n,M')/\r=.x c n:=by
 unfold bnd at h;split at h
 ·exact .inl ⟨_,_,rfl,h⟩
 ·cases h;exact .inr ⟨_,_,rfl,rfl⟩
 ·cases h
abbrev XW:=Pl->Hp->Mm->Str->Int->Prop
section
variable {K:Fgx}{mg:Mgx}{P0 P P':Pl}{H0 H H':Hp}{M M':Mm}{Os:List (Option Addr)}{st:L2.St}{env:Env}{d:D}{v:V}{m:Mode}
def Is.b (h:Hk K mg P H M)(i:Is K P H d v):gK K P H d v:=by
  cases d with
  |lst ds=>
    obtain⟨a,vs,e,r,q⟩:=i;exact⟨a,vs,e,r.imp (fun⟨n,r⟩=>⟨fun k hk z=>n (z ▸ h.bd k hk),r⟩) id,q⟩
  |_=>exact i
def gB.of (h:Hk K mg P H M)(i:Is K P H d v):gB K P H m d v:=by
 cases m with
 |val=>exact i
 |bor=>exact i.b h
theorem gB.b (h:Hk K mg P H M)(i:gB K P H m d v):gK K P H d v:=by
 cases m with
 |val=>exact Is.b h i
 |bor=>exact i
def LtE.nc (l:LtE P H P' H')(e:H a=some o)(n:∀k,k<P.n->P.io k≠a):∀k,k<P'.n->P'.io k≠a:=fun k hk z=>by
 rcases xaS k P.n with q |q
 ·rw[l.io k q]at z;exact n k q z
 ·rw[<-z,l.nw k q hk]at e;cases e
theorem gK.lt (l:LtE P H P' H')(h:Hk K mg P H M)(i:gK K P H d v):gK K P' H' d v:=by
  cases d with
  |lst ds=>
    obtain⟨a,vs,e,r,q⟩:=i;refine⟨a,vs,e,r.imp (fun⟨n,r⟩=>?_) id,aH.lt (l.lt h) q⟩;obtain⟨o,eo⟩:=Zj r;refine⟨l.nc eo n,?_⟩;rcases r with r |⟨o',r⟩
    · exact .inl (l.keep _ _ r (.inr n))
    · exact .inr ⟨o',l.keep _ _ r (.inr n)⟩
  |_=>exact Is.lt (l.lt h) i
def Ok.next (k:Ok K mg P0 H0 P Os H M st env)(l:LtE P H P' H')(h:Hk K mg P' H' M'):Ok K mg P0 H0 P' Os H' M' st env where
  hk:=h
  base:=k.base.trans l
  b0:=k.b0
  slot:=fun i s e=>by
    have q:=k.slot i s e
    cases s with
    |un=>exact True.intro
    |val d=>
      obtain⟨v,e1,q⟩:=q;exact⟨v,e1,Is.lt (l.lt k.hk) q⟩
    |own ds=>
      obtain ⟨a, vs, e1, e2, e3, q⟩ := q;have ho := k.own a (by
        cases hx:Os[i]? with
        |none=>rw[hx]at e1;cases e1
        |some o=>rw[hx]at e1;cases o with
          |none=>cases e1
          |some b=>cases e1;exact xaW hx)
      exact⟨a,vs,e1,e2,l.keep _ _ e3 (.inr ho.2.1),aH.lt (l.lt k.hk) q⟩
    |exc c n=>
      obtain⟨v,e1,q⟩:=q;exact⟨v,e1,q.lt (l.lt k.hk)⟩
  own:=fun a z=>by
    have ho:=k.own a z;refine⟨l.bm a ho.1,?_,ho.2.2⟩;obtain⟨o,eo⟩:∃o,H a=some o:=by
      cases e:H a with
      |none=>exact absurd e (k.hk.here a ho.1)
      |some o=>exact⟨o,rfl⟩
    exact l.nc eo ho.2.1
  inj:=k.inj
  olen:=k.olen
  slen:=k.slen
theorem Hk.same (h:Hk K mg P H M)(s:Same H H'):Hk K mg P H' M:=by
  have l:Lt P H P H':=(LtE.same s).lt h;refine⟨h.n,fun k c e=>?_,h.inj,h.bd,fun a z q=>h.here a z (s.free q)⟩;have:=h.cell k c e
  cases c with
  |lst ds=>
    obtain⟨vs,e1,q⟩:=this;exact⟨vs,s _ _ e1,aH.lt l q⟩
  |obj c fs=>
    obtain⟨C,dx,gs,e1,e2,e3,q⟩:=this;exact⟨C,dx,gs,e1,s _ _ e2,e3,aH.lt l q⟩
  |dct kvs=>
    obtain⟨vs,e1,e2,q⟩:=this;exact⟨vs,s _ _ e1,e2,aH.lt l q⟩
  |dcf kvs=>
    obtain⟨vs,ob,es,ep,e1,eD,e2,q⟩:=this;exact⟨vs,ob,es,ep,s _ _ e1,eD,e2,aH.lt l q⟩
end
noncomputable def RQ (K:Fgx) (mg:Mgx) (Wx:XW) (m:Mode) (P0:Pl) (H0:Hp) (P:Pl) (H:Hp) (M':Mm) (Q:VK):Res->Prop
 |.v d=>∀P' v H',LtE P H P' H'->Hk K mg P' H' M'->gB K P' H' m d v->Q v H'
 |.x c n=>Wx P0 H0 M' c n
def gC (h:PE X e t)(i:∀st H Q,t' st H Q->t st H Q):PE X e t':=fun pins s σ H Q I z=>h pins s σ H Q I (i _ _ _ z)
noncomputable def tE (K:Fgx) (mg:Mgx) (Wx:XW) (m:Mode) (f:E):TE:=fun st H Q=>∃P0 H0 P Os env M r M',Ok K mg P0 H0 P Os H M st env/\f env M=some (r,M')/\RQ K mg Wx m P0 H0 P H M' Q r
structure Fit (X:Cx)(Wx:XW):Prop where
 calm:X.calm=true
 room:X.A.units + 60<cLine
section
variable {X:Cx}{Wx:XW}{m:Mode}
def SE (X:Cx)(Wx:XW)(m:Mode)(e:Expr)(f:E):Prop:=PE X e (tE X.K X.mg Wx m f)
def SE.bor (h : SE X Wx .val e f) : SE X Wx m e f := gC h fun st H Q ⟨P0, H0, P, Os, env, M, r, M', k, e, q⟩ => ⟨P0,H0,P,Os,env,M,r,M',k,e,by
 cases r with
 |v d=>exact fun P' v H' l h i=>q P' v H' l h (gB.of h i)
 |x c n=>exact q⟩
def aV {f:E}{K:Fgx}{mg:Mgx}{P0 P:Pl}{H0 H:Hp}{Os:List (Option Addr)}{M M':Mm}{st:L2.St}{env:Env}{r:Res}{Q:VK}(k:Ok K mg P0 H0 P Os H M st env)(e:f env M=some (r,M'))
  (q:RQ K mg Wx m P0 H0 P H M' Q r):tE K mg Wx m f st H Q:=⟨P0,H0,P,Os,env,M,r,M',k,e,q⟩
def ak (i:Nat):E:=fun env M=>match env[i]? with
 |some (.val d)=>some (.v d,M)
 |_=>none
noncomputable def yd (i:Nat):E:=fun env M=>match env[i]? with
 |some (.val d)=>some (.v d,M)
 |some (.own ds)=>some (.v (.lst ds),M)
 |_=>none
def aj (d:D):E:=fun _ M=>some (.v d,M)
theorem sU {α:Type}{l:List (Option α)}{i:Nat}{a:α}(h:(l[i]?).join=some a):l[i]? =some (some a):=by
  cases e:l[i]? with
  |none=>rw[e]at h;cases h
  |some o=>rw[e]at h;cases o with
    |none=>cases h
    |some b=>cases h;rfl
def zd2 {i:Nat}{x:Str}{pos:Pos}(hN:X.N[i]? =some x)(hv:Ah X.env.scope x)(hd:(x==("__debug__":Str))=false:=by x_go)(hcd:(x==("__classdict__":Str))=false:=by x_go):SE X Wx .val (.Name x pos) (ak i):=by
 refine gC (zX hN hv hd hcd) ?_;rintro st H Q ⟨P0,H0,P,Os,env,M,r,M',k,e,q⟩;unfold ak at e;split at e
 ·rename_i d hs;cases e;obtain⟨v,e1,i1⟩:=k.slot i _ hs;exact⟨v,sU e1,q P v H (LtE.refl P H) k.hk i1⟩
 ·cases e
def zfK {i:Nat}{x:Str}{pos:Pos}(hN:X.N[i]? =some x)(hv:Ah X.env.scope x)(hd:(x==("__debug__":Str))=false:=by x_go)(hcd:(x==("__classdict__":Str))=false:=by x_go):SE X Wx .bor (.Name x pos) (yd i):=by
 refine gC (zX hN hv hd hcd) ?_;rintro st H Q ⟨P0,H0,P,Os,env,M,r,M',k,e,q⟩;unfold yd at e;split at e
 ·rename_i d hs;cases e;obtain⟨v,e1,i1⟩:=k.slot i _ hs;exact⟨v,sU e1,q P v H (LtE.refl P H) k.hk (gB.of k.hk i1)⟩
 ·rename_i ds hs;cases e;obtain⟨a,vs,e1,e2,e3,i1⟩:=k.slot i _ hs;exact⟨.ref a,sU e2,q P _ H (LtE.refl P H) k.hk ⟨a,vs,rfl,.inl ⟨(k.own a (xaW (sU e1))).2.1,.inl e3⟩,i1⟩⟩
 ·cases e
def Ly (h:PE X e (tC v))(hd:∀P H,Is X.K P H d v):SE X Wx .val e (aj d):=by
 refine gC h ?_;rintro st H Q ⟨P0,H0,P,Os,env,M,r,M',k,e,q⟩;cases e;exact q P v H (LtE.refl P H) k.hk (hd P H)
noncomputable def vw (M:Mm) (d:D):D:=match d with
  | .ref k => (match M[k]? with
    |some (.lst ds)=>.lst ds
    |_=>.ref k)
  |d=>d
theorem gK.vw {K:Fgx}{mg:Mgx}{P:Pl}{H:Hp}{M:Mm}{d:D}{v:V}(h:Hk K mg P H M)(i:gK K P H d v):gA K P H (vw M d) v:=by
  cases d with
  |ref k=>
    unfold E3.vw;dsimp only
    split
    · rename_i ds e;obtain⟨i1,i2⟩:k<P.n/\v=.ref (P.io k):=i;obtain⟨vs,e1,q⟩:=h.cell k _ e;exact⟨_,vs,i2,.inl (.inl e1),q⟩
    · exact i
  |lst ds=>exact i.w
  |_=>exact i
noncomputable def s1 (o:D->Option D) (f:E):E:=fun env M=>bnd (f env M) fun d M1=>(o (vw M1 d)).map fun z=>(.v z,M1)
noncomputable def s2 (o:D->D->Option D) (f g:E):E:=fun env M=>bnd (f env M) fun d M1=>bnd (g env M1) fun e M2=>(o (vw M2 d) (vw M2 e)).map fun z=>(.v z,M2)
def sH (K:Fgx)(r:R2)(o:D->D->Option D):Prop:=∀(P:Pl) (H:Hp) (d e z:D) (v w:V) (Q:VK),o d e=some z->gA K P H d v->gA K P H e w->(∀p,H p=none->¬ P.bd p)->(∀u H',Same H H'->Is K P H' z u->Q u H')->r v w H Q
def M9 (K:Fgx)(r:V->Hp->VK->Prop)(o:D->Option D):Prop:=∀(P:Pl) (H:Hp) (d z:D) (v:V) (Q:VK),o d=some z->gA K P H d v->(∀p,H p=none->¬ P.bd p)->(∀u H',Same H H'->Is K P H' z u->Q u H')->r v H Q
def Hk.new {K:Fgx}{mg:Mgx}{P:Pl}{H:Hp}{M:Mm}(h:Hk K mg P H M):∀p,H p=none->¬ P.bd p:=fun p hp z=>h.here p z hp
def Mf {f g:E}{o:D->D->Option D}{r:R2}{st:L2.St}{H:Hp}{Q:VK}(po:sH X.K r o)(h:tE X.K X.mg Wx m (s2 o f g) st H Q):Dz r (tE X.K X.mg Wx .bor f) (tE X.K X.mg Wx .bor g) st H Q:=by
 obtain⟨P0,H0,P,Os,env,M,rr,M',k,e,q⟩:=h;unfold s2 at e;rcases gD e with⟨d,M1,e1,e⟩ |⟨c,n,e1,rfl⟩
 ·refine aV k e1 fun P1 v1 H1 l1 h1 i1=>?_;have k1:=k.next l1 h1
  rcases gD e with⟨d2,M2,e2,e⟩ |⟨c,n,e2,rfl⟩
  ·refine aV k1 e2 fun P2 v2 H2 l2 h2 i2=>?_;rw[xae]at e;obtain⟨z,ez,e⟩:=e;cases e;exact po P2 H2 _ _ z v1 v2 Q ez (gK.vw h2 (gK.lt l2 h1 i1)) (gK.vw h2 i2) h2.new fun u H' s i=>q P2 u H' (l1.trans (l2.trans (LtE.same s))) (h2.same s) (gB.of (h2.same s) i)
  ·exact aV k1 e2 q
 ·exact aV k e1 q
def zka {f:E}{o:D->Option D}{r:V->Hp->VK->Prop}{st:L2.St}{H:Hp}{Q:VK}(po:M9 X.K r o)(h:tE X.K X.mg Wx m (s1 o f) st H Q):tUn r (tE X.K X.mg Wx .bor f) st H Q:=by
 obtain⟨P0,H0,P,Os,env,M,rr,M',k,e,q⟩:=h;unfold s1 at e;rcases gD e with⟨d,M1,e1,e⟩ |⟨c,n,e1,rfl⟩
 ·refine aV k e1 fun P1 v1 H1 l1 h1 i1=>?_;rw[xae]at e;obtain⟨z,ez,e⟩:=e;cases e;exact po P1 H1 _ z v1 Q ez (gK.vw h1 i1) h1.new fun u H' s i=>q P1 u H' (l1.trans (LtE.same s)) (h1.same s) (gB.of (h1.same s) i)
 ·exact aV k e1 q
def aJ (ho:fU X (binaryOp op) r)(po:sH X.K r o)(ha:SE X Wx .bor a f)(hb:SE X Wx .bor b g):SE X Wx m (.BinOp a op b pos) (s2 o f g):=
 gC (YJ ho ha hb) fun _ _ _ h=>Mf po h
def HW (ho:fU X (compareOp op) r)(po:sH X.K r o)(ha:SE X Wx .bor a f)(hb:SE X Wx .bor b g)(hm:behindInMarks op b=false:=by rfl):SE X Wx m (.Compare a [op] [b] pos) (s2 o f g):=
 gC (zeZ ho ha hb hm) fun _ _ _ h=>Mf po h
def zj2 (ho:xH X r)(po:sH X.K r o)(ha:SE X Wx .bor a f)(hb:SE X Wx .bor b g)(hs:M8 b:=by exact fun _ _=>rfl):SE X Wx m (.Subscript a b pos) (s2 o f g):=
 gC (zkY ho ha hb hs) fun _ _ _ h=>Mf po h
noncomputable def TQ (K:Fgx) (mg:Mgx) (Wx:XW) (P0:Pl) (H0:Hp) (P:Pl) (H:Hp) (M':Mm) (Q:Bool->Hp->Prop):Res->Prop
 |.v d=>∃b,d=.bl b/\∀P' H',LtE P H P' H'->Hk K mg P' H' M'->Q b H'
 |.x c n=>Wx P0 H0 M' c n
noncomputable def zA (K:Fgx) (mg:Mgx) (Wx:XW) (f:E):TT:=fun st H Q=>∃P0 H0 P Os env M r M',Ok K mg P0 H0 P Os H M st env/\f env M=some (r,M')/\TQ K mg Wx P0 H0 P H M' Q r
def ST (X:Cx)(Wx:XW)(e:Expr)(f:E):Prop:=PT X e (zA X.K X.mg Wx f)
def Bq (h:PT X e t)(i:∀st H Q,t' st H Q->t st H Q):PT X e t':=fun pins s σ H Q I z=>h pins s σ H Q I (i _ _ _ z)
def pW {f:E}{K:Fgx}{mg:Mgx}{P0 P:Pl}{H0 H:Hp}{Os:List (Option Addr)}{M M':Mm}{st:L2.St}{env:Env}{r:Res}{Q:Bool->Hp->Prop}(k:Ok K mg P0 H0 P Os H M st env)(e:f env M=some (r,M'))
  (q:TQ K mg Wx P0 H0 P H M' Q r):zA K mg Wx f st H Q:=⟨P0,H0,P,Os,env,M,r,M',k,e,q⟩
def Ij {f:E}{st:L2.St}{H:Hp}{Q:Bool->Hp->Prop}(h:zA X.K X.mg Wx f st H Q):TF (tE X.K X.mg Wx .val f) st H Q:=by
  obtain⟨P0,H0,P,Os,env,M,r,M',k,e,q⟩:=h;refine aV k e ?_
  cases r with
  |v d=>
    obtain⟨b,rfl,q⟩:=q;exact fun P' v H' l h i=>⟨b,i,q P' H' l h⟩
  |x c n=>exact q
def zd6 (ho:fU X (compareOp op) r)(po:sH X.K r o)(ha:SE X Wx .bor a f)(hb:SE X Wx .bor b g)(hm:behindInMarks op b=false:=by rfl):ST X Wx (.Compare a [op] [b] pos) (s2 o f g):=
 Bq (zfq ho ha hb hm) fun _ _ _ h=>Mf po (Ij h)
noncomputable def vm:D->Option Bool
 |.non=>some false
 |.bl b=>some b
 |.int i=>some (i !=0)
 |.str s=>if s.length<=sizeLine then some ((s.length:Int) !=0) else none
 |.lst ds=>some (!ds.isEmpty)
 |.tup ds=>some (!ds.isEmpty)
 |.ref _=>none
def gQ (f:E):E:=s1 (fun d=>(vm d).map .bl) f
noncomputable def lq (f:E):E:=fun env M=>bnd (f env M) fun d M1=>match d with
 |.bl b=>some (.v (.bl (!b)),M1)
 |_=>none
noncomputable def fL (f g:E):E:=fun env M=>bnd (f env M) fun d M1=>match d with
 |.bl b=>if b=true then g env M1 else some (.v (.bl false),M1)
 |_=>none
noncomputable def nM (f g:E):E:=fun env M=>bnd (f env M) fun d M1=>match d with
 |.bl b=>if b=true then some (.v (.bl true),M1) else g env M1
 |_=>none
noncomputable def yZ (c f g:E):E:=fun env M=>bnd (c env M) fun d M1=>match d with
 |.bl b=>if b=true then f env M1 else g env M1
 |_=>none
def SW (X:Cx)(Wx:XW)(e:Expr)(f:E):Prop:=PW X e (zA X.K X.mg Wx f)
def Y0 (h:PW X e t)(i:∀st H Q,t' st H Q->t st H Q):PW X e t':=fun wh pins s σ H Q I z=>h wh pins s σ H Q I (i _ _ _ z)
def yp (ha:ST X Wx a f):ST X Wx (.UnaryOp .Not a pos) (lq f):=by
 refine Bq (zgE ha) ?_;rintro st H Q ⟨P0,H0,P,Os,env,M,r,M',k,e,q⟩;unfold lq at e;rcases gD e with⟨d,M1,e1,e⟩ |⟨c,n,e1,rfl⟩
 ·cases d<;>simp only[reduceCtorEq]at e
  cases e;obtain⟨b,e2,q⟩:=q;cases e2;exact pW k e1 ⟨_,rfl,q⟩
 ·exact pW k e1 q
def zx (ha:ST X Wx a f):SW X Wx (.BoolOp .And [a] pos) f:=zfl ha
def xu (ha:ST X Wx a f):SW X Wx (.BoolOp .Or [a] pos) f:=zh2 ha
def xq (ha:ST X Wx a f)(hb:SW X Wx (.BoolOp .And (b::rest) pos) g):SW X Wx (.BoolOp .And (a::b::rest) pos) (fL f g):=by
  refine Y0 (zgk ha hb) ?_;rintro st H Q ⟨P0,H0,P,Os,env,M,r,M',k,e,q⟩;unfold fL at e;rcases gD e with⟨d,M1,e1,e⟩ |⟨c,n,e1,rfl⟩
  · cases d<;>simp only[reduceCtorEq]at e
    rename_i b;refine pW k e1 ⟨b,rfl,fun P1 H1 l1 h1=>?_⟩
    cases b with
    |true=>
      rw[tG rfl]at e ⊢;refine pW (k.next l1 h1) e ?_
      cases r with
      |v d=>obtain⟨b,e2,q⟩:=q;exact⟨b,e2,fun P' H' l h=>q P' H' (l1.trans l) h⟩
      |x c n=>exact q
    |false=>
      rw[xab (by decide)]at e ⊢;cases e;obtain⟨b,e2,q⟩:=q;cases e2;exact q P1 H1 l1 h1
  · exact pW k e1 q
def wz (ha:ST X Wx a f)(hb:SW X Wx (.BoolOp .Or (b::rest) pos) g):SW X Wx (.BoolOp .Or (a::b::rest) pos) (nM f g):=by
  refine Y0 (zk7 ha hb) ?_;rintro st H Q ⟨P0,H0,P,Os,env,M,r,M',k,e,q⟩;unfold nM at e;rcases gD e with⟨d,M1,e1,e⟩ |⟨c,n,e1,rfl⟩
  · cases d<;>simp only[reduceCtorEq]at e
    rename_i b;refine pW k e1 ⟨b,rfl,fun P1 H1 l1 h1=>?_⟩
    cases b with
    |false=>
      rw[xab (by decide)]at e ⊢;refine pW (k.next l1 h1) e ?_
      cases r with
      |v d=>obtain⟨b,e2,q⟩:=q;exact⟨b,e2,fun P' H' l h=>q P' H' (l1.trans l) h⟩
      |x c n=>exact q
    |true=>
      rw[tG rfl]at e ⊢;cases e;obtain⟨b,e2,q⟩:=q;cases e2;exact q P1 H1 l1 h1
  · exact pW k e1 q
def SW.st (h:SW X Wx e f):ST X Wx e f:=h.pt
end
section
variable {X:Cx}{Wx:XW}{m:Mode}
def RQ.imp {K:Fgx}{mg:Mgx}{P0 P P1:Pl}{H0 H H1:Hp}{M':Mm}{Q:VK}{r:Res}(l:LtE P H P1 H1)(q:RQ K mg Wx m P0 H0 P H M' Q r):RQ K mg Wx m P0 H0 P1 H1 M' Q r:=by
 cases r with
 |v d=>exact fun P' v H' l' h i=>q P' v H' (l.trans l') h i
 |x c n=>exact q
def yh (ha:SE X Wx m a f):SE X Wx m (.BoolOp op [a] pos) f:=zgR ha
def z8 (ha:SE X Wx .val a f)(hb:SE X Wx m (.BoolOp .And (b::rest) pos) g):SE X Wx m (.BoolOp .And (a::b::rest) pos) (fL f g):=by
  refine gC (zgq ha hb) ?_;rintro st H Q ⟨P0,H0,P,Os,env,M,r,M',k,e,q⟩;unfold fL at e;rcases gD e with⟨d,M1,e1,e⟩ |⟨c,n,e1,rfl⟩
  · cases d<;>simp only[reduceCtorEq]at e
    rename_i b;refine aV k e1 fun P1 v1 H1 l1 h1 i1=>⟨b,i1,?_⟩
    cases b with
    |true=>
      rw[tG rfl]at e ⊢;exact aV (k.next l1 h1) e (RQ.imp l1 q)
    |false=>
      rw[xab (by decide)]at e ⊢;cases e;exact q P1 _ H1 l1 h1 (gB.of h1 (show Is _ _ _ (.bl false) _ from rfl))
  · exact aV k e1 q
def Ss (ha:SE X Wx .val a f)(hb:SE X Wx m (.BoolOp .Or (b::rest) pos) g):SE X Wx m (.BoolOp .Or (a::b::rest) pos) (nM f g):=by
  refine gC (zlJ ha hb) ?_;rintro st H Q ⟨P0,H0,P,Os,env,M,r,M',k,e,q⟩;unfold nM at e;rcases gD e with⟨d,M1,e1,e⟩ |⟨c,n,e1,rfl⟩
  · cases d<;>simp only[reduceCtorEq]at e
    rename_i b;refine aV k e1 fun P1 v1 H1 l1 h1 i1=>⟨b,i1,?_⟩
    cases b with
    |false=>
      rw[xab (by decide)]at e ⊢;exact aV (k.next l1 h1) e (RQ.imp l1 q)
    |true=>
      rw[tG rfl]at e ⊢;cases e;exact q P1 _ H1 l1 h1 (gB.of h1 (show Is _ _ _ (.bl true) _ from rfl))
  · exact aV k e1 q
def zgC (hc:ST X Wx c t)(ha:SE X Wx m a f)(hb:SE X Wx m b g):SE X Wx m (.IfExp c a b pos) (yZ t f g):=by
  refine gC (zcS hc ha hb) ?_;rintro st H Q ⟨P0,H0,P,Os,env,M,r,M',k,e,q⟩;unfold yZ at e;rcases gD e with⟨d,M1,e1,e⟩ |⟨c,n,e1,rfl⟩
  · cases d<;>simp only[reduceCtorEq]at e
    rename_i b;refine pW k e1 ⟨b,rfl,fun P1 H1 l1 h1=>?_⟩
    cases b with
    |true=>
      rw[tG rfl]at e ⊢;exact aV (k.next l1 h1) e (RQ.imp l1 q)
    |false=>
      rw[xab (by decide)]at e ⊢;exact aV (k.next l1 h1) e (RQ.imp l1 q)
  · exact pW k e1 q
def zkt {K:Fgx}{P:Pl}{H:Hp}{d:D}{v:V}{b:Bool}(h:vm d=some b)(i:gA K P H d v):Ag K v H b:=by
  cases d with
  |non=>have e:v=.non:=i;subst e;cases h;rfl
  |bl c=>have e:v=.bl c:=i;subst e;cases h;rfl
  |int c=>have e:v=.int c:=i;subst e;cases h;rfl
  |str c=>
    have e:v=.str c:=i;subst e;simp only[vm]at h;split at h
    · rename_i hl;cases h;exact⟨hl,rfl⟩
    · cases h
  |lst ds=>
    obtain⟨a,vs,rfl,r,q⟩:=i;cases h;refine .inl ⟨vs,r,?_⟩
    cases ds with
    |nil=>rw[show vs=[] from q];rfl
    |cons d ds=>obtain⟨w,r',rfl,_⟩:=q;rfl
  |tup ds=>
    obtain⟨a,vs,rfl,r,q⟩:=i;cases h;refine .inr (.inl ⟨vs,r,?_⟩)
    cases ds with
    |nil=>rw[show vs=[] from q];rfl
    |cons d ds=>obtain⟨w,r',rfl,_⟩:=q;rfl
  |ref k=>cases h
def vh (ha:SE X Wx .bor a f)(he:∀whole,isTrue a X.env whole=(do let v <-whole;standAt a.pos;holding [v] (truthy v)):=by exact fun _=>rfl):ST X Wx a (gQ f):=by
 refine Bq (zc2 ha he) ?_;rintro st H Q ⟨P0,H0,P,Os,env,M,r,M',k,e,q⟩;unfold gQ s1 at e;rcases gD e with⟨d,M1,e1,e⟩ |⟨c,n,e1,rfl⟩
 ·rw[xae]at e;obtain⟨z,ez,e⟩:=e;cases e;rw[xae]at ez;obtain⟨b,eb,rfl⟩:=ez;obtain⟨b',e2,q⟩:=q;cases e2;exact aV k e1 fun P1 v1 H1 l1 h1 i1=>⟨b,zkt eb (gK.vw h1 i1),q P1 H1 l1 h1⟩
 ·exact aV k e1 q
inductive ResA where
 |v (ds:List D) |x (c:Str) (n:Int)
abbrev EA:=Env->Mm->Option (ResA×Mm)
def aq:EA:=fun _ M=>some (.v [],M)
noncomputable def au (f:E) (fs:EA):EA:=fun env M=>match f env M with
  | some (.v d, M1) => (match fs env M1 with
    |some (.v ds,M2)=>some (.v (d::ds),M2)
    |some (.x c n,M2)=>some (.x c n,M2)
    |none=>none)
  |some (.x c n,M1)=>some (.x c n,M1)
  |none=>none
noncomputable def lZ (o:Option (ResA×Mm)) (k:List D->Mm->O):O:=match o with
 |some (.v ds,M)=>k ds M
 |some (.x c n,M)=>some (.x c n,M)
 |none=>none
def zK (h:lZ o k=some (r,M')):(∃ds M,o=some (.v ds,M)/\k ds M=some (r,M'))\/∃c n,o=some (.x c n,M')/\r=.x c n:=by
 unfold lZ at h;split at h
 ·exact .inl ⟨_,_,rfl,h⟩
 ·cases h;exact .inr ⟨_,_,rfl,rfl⟩
 ·cases h
noncomputable def g8 (K:Fgx) (P:Pl) (H:Hp) (m:Mode):List D->List V->Prop
 | [],vs=>vs=[]
 |d::ds,vs=>∃v ws,vs=v::ws/\gB K P H m d v/\g8 K P H m ds ws
theorem g8.iss {K:Fgx}{P:Pl}{H:Hp}:∀{ds:List D} {vs:List V},g8 K P H .val ds vs->aH K P H ds vs
  | [],_,h=>h
  |_::_,_,h=>by
    obtain⟨v,ws,e,p,q⟩:=h;exact⟨v,ws,e,p,g8.iss q⟩
noncomputable def AQ (K:Fgx) (mg:Mgx) (Wx:XW) (m:Mode) (P0:Pl) (H0:Hp) (P:Pl) (H:Hp) (M':Mm) (Q:List V->Hp->Prop):ResA->Prop
 |.v ds=>∀P' vs H',LtE P H P' H'->Hk K mg P' H' M'->g8 K P' H' m ds vs->Q vs H'
 |.x c n=>Wx P0 H0 M' c n
noncomputable def Mg (K:Fgx) (mg:Mgx) (Wx:XW) (m:Mode) (fs:EA):TA:=fun st H Q=>∃P0 H0 P Os env M r M',Ok K mg P0 H0 P Os H M st env/\fs env M=some (r,M')/\AQ K mg Wx m P0 H0 P H M' Q r
def SA (X:Cx)(Wx:XW)(m:Mode)(es:List Expr)(fs:EA):Prop:=PA X es (Mg X.K X.mg Wx m fs)
def Q6 (h:PA X es t)(w:∀σ H Q,t' σ H Q->t σ H Q):PA X es t':=fun pos pins s σ H Q I hw=>h pos pins s σ H Q I (w σ H Q hw)
theorem aG:SA X Wx m [] aq:=by
 refine Q6 wU ?_;rintro st H Q ⟨P0,H0,P,Os,env,M,r,M',k,e,q⟩;cases e;exact q P [] H (LtE.refl P H) k.hk rfl
def aA (ha:SE X Wx m e f)(hr:SA X Wx m es fs)(hs:starEach (e::es) X.env=(false,eval e X.env)::starEach es X.env:=by rfl):SA X Wx m (e::es) (au f fs):=by
 refine Q6 (q_ ha hr hs) ?_;rintro st H Q ⟨P0,H0,P,Os,env,M,r,M',k,e,q⟩;unfold au at e;split at e
 ·rename_i d M1 e1;refine aV k e1 fun P1 v1 H1 l1 h1 i1=>?_;split at e
  ·rename_i ds M2 e2;cases e;refine⟨P0,H0,P1,Os,env,M1,_,_,k.next l1 h1,e2,fun P2 vs H2 l2 h2 i2=>q P2 _ H2 (l1.trans l2) h2 ⟨v1,vs,rfl,?_,i2⟩⟩
   cases m with
   |val=>exact Is.lt (l2.lt h1) i1
   |bor=>exact gK.lt l2 h1 i1
  ·rename_i c n M2 e2;cases e;exact⟨P0,H0,P1,Os,env,M1,_,_,k.next l1 h1,e2,q⟩
  ·cases e
 ·rename_i c n M1 e1;cases e;exact aV k e1 q
 ·cases e
noncomputable def sN (o:List D->Option D) (fs:EA):E:=fun env M=>lZ (fs env M) fun ds M1=>(o (ds.map (vw M1))).map fun z=>(.v z,M1)
noncomputable def yt (K:Fgx) (P:Pl) (H:Hp):List D->List V->Prop
 | [],vs=>vs=[]
 |d::ds,vs=>∃v ws,vs=v::ws/\gA K P H d v/\yt K P H ds ws
theorem g8.w {K:Fgx}{mg:Mgx}{P:Pl}{H:Hp}{M:Mm}(h:Hk K mg P H M):∀{ds:List D} {vs:List V},g8 K P H m ds vs->yt K P H (ds.map (vw M)) vs
  | [],_,q=>q
  |d::ds,_,q=>by
    obtain⟨v,ws,e,p,q⟩:=q;exact⟨v,ws,e,gK.vw h (p.b h),g8.w h q⟩
def xJ (K:Fgx)(r:List V->Hp->VK->Prop)(o:List D->Option D):Prop:=∀(P:Pl) (H:Hp) (ds:List D) (z:D) (vs:List V) (Q:VK),o ds=some z->yt K P H ds vs->(∀p,H p=none->¬ P.bd p)->(∀u H',Same H H'->Is K P H' z u->Q u H')->r vs H Q
def zig (h:∀t,PA X (e::es) t->PE X ex (Tg r t))(po:xJ X.K r o)(ha:SA X Wx .bor (e::es) fs):SE X Wx m ex (sN o fs):=by
 refine gC (h _ ha) ?_;rintro st H Q ⟨P0,H0,P,Os,env,M,r,M',k,e,q⟩;unfold sN at e;rcases zK e with⟨ds,M1,e1,e⟩ |⟨c,n,e1,rfl⟩
 ·rw[xae]at e;obtain⟨z,ez,e⟩:=e;cases e;exact⟨P0,H0,P,Os,env,M,_,_,k,e1,fun P1 vs H1 l1 h1 i1=>po P1 H1 _ z vs Q ez (g8.w h1 i1) h1.new fun u H' s i=>q P1 u H' (l1.trans (LtE.same s)) (h1.same s) (gB.of (h1.same s) i)⟩
 ·exact⟨P0,H0,P,Os,env,M,_,_,k,e1,q⟩
noncomputable def aW (fs:EA):E:=fun env M=>lZ (fs env M) fun ds M1=>if ds.length<=sizeLine then some (.v (.tup ds),M1) else none
def gk {es:List Expr}{x1:Nat}{pos:Pos}{fs:EA}(ha:SA X Wx .val es fs):SE X Wx m (.Tuple es x1 pos) (aW fs):=by
 refine gC (YL ha) ?_;rintro st H Q ⟨P0,H0,P,Os,env,M,r,M',k,e,q⟩;unfold aW at e;rcases zK e with⟨ds,M1,e1,e⟩ |⟨c,n,e1,rfl⟩
 ·split at e
  ·rename_i hl;cases e;refine⟨P0,H0,P,Os,env,M,_,_,k,e1,fun P1 vs H1 l1 h1 i1=>⟨by rw[i1.iss.len];exact hl,fun p hp=>?_⟩⟩;have s:=yg (o:=.tup vs) hp;exact q P1 _ _ (l1.trans (LtE.same s)) (h1.same s) (gB.of (h1.same s) ⟨p,vs,rfl,.inl (.inl gq),aH.lt ((LtE.same s).lt h1) i1.iss⟩)
  ·cases e
 ·exact⟨P0,H0,P,Os,env,M,_,_,k,e1,q⟩
noncomputable def NQ (K:Fgx) (mg:Mgx) (Wx:XW) (P0:Pl) (H0:Hp) (P:Pl) (H:Hp) (M':Mm) (Q:VK):Res->Prop
 |.v d=>∃ds,d=.lst ds/\∀P' a vs H',LtE P H P' H'->Hk K mg P' H' M'->H a=none->P'.bd a->(∀k,k<P'.n->P'.io k≠a)->H' a=some (.lst vs)->aH K P' H' ds vs->Q (.ref a) H'
 |.x c n=>Wx P0 H0 M' c n
noncomputable def tN (K:Fgx) (mg:Mgx) (Wx:XW) (f:E):TE:=fun st H Q=>∃P0 H0 P Os env M r M',Ok K mg P0 H0 P Os H M st env/\f env M=some (r,M')/\NQ K mg Wx P0 H0 P H M' Q r
def SN (X:Cx)(Wx:XW)(e:Expr)(f:E):Prop:=PE X e (tN X.K X.mg Wx f)
def Pl.bar (P:Pl)(p:Addr):Pl:={P with bd:=fun a=>P.bd a\/a=p}
def Eu {K:Fgx}{mg:Mgx}{P:Pl}{H:Hp}{M:Mm}{p:Addr}{vs:List V}(h:Hk K mg P H M)(hp:H p=none):LtE P H (P.bar p) (upd H p (.lst vs))/\Hk K mg (P.bar p) (upd H p (.lst vs)) M/\∀k,k<P.n->P.io k≠p:=by
  have s:=yg (o:=.lst vs) hp;have nc:∀k,k<P.n->P.io k≠p:=fun k hk z=>h.here _ (h.bd k hk) (z ▸ hp);have l:LtE P H (P.bar p) (upd H p (.lst vs)):=⟨xad _,fun _ _=>rfl,fun a z=>Or.imp (fun q=>q) (fun(q:a=p)=>by rw[q];exact hp) z,fun a z=>.inl z,fun a o e _=>s a o e,fun a z=>s.free z,fun k h1 h2=>absurd h1 (xdO.mpr h2)⟩;have lt:=l.lt h;refine⟨l,⟨h.n,fun k c e=>?_,h.inj,fun k hk=>.inl (h.bd k hk),fun a z q=>?_⟩,nc⟩
  · have:=h.cell k c e
    cases c with
    |lst ds=>
      obtain⟨vs,e1,q⟩:=this;exact⟨vs,s _ _ e1,aH.lt lt q⟩
    |obj c fs=>
      obtain⟨C,dx,gs,e1,e2,e3,q⟩:=this;exact⟨C,dx,gs,e1,s _ _ e2,e3,aH.lt lt q⟩
    |dct kvs=>
      obtain⟨vs,e1,e2,q⟩:=this;exact⟨vs,s _ _ e1,e2,aH.lt lt q⟩
    |dcf kvs=>
      obtain⟨vs,ob,es,ep,e1,eD,e2,q⟩:=this;exact⟨vs,ob,es,ep,s _ _ e1,eD,e2,aH.lt lt q⟩
  · rcases z with z |z
    · exact h.here a z (s.free q)
    · subst z;rw[gq]at q;cases q
def SN.se (h:SN X Wx e f)(hf:∀env M r M',f env M=some (.v r,M')->∃ds,r=.lst ds):SE X Wx .val e f:=by
  refine gC h ?_;rintro st H Q ⟨P0,H0,P,Os,env,M,r,M',k,e,q⟩;refine⟨P0,H0,P,Os,env,M,r,M',k,e,?_⟩
  cases r with
  |x c n=>exact q
  |v d=>
    obtain⟨ds,rfl⟩:=hf _ _ _ _ e;refine⟨ds,rfl,fun P' a vs H' l h ha ba nc ea is=>q (P'.less (· ≠a)) _ H' ?_ ?_ ⟨a,vs,rfl,.inl ⟨fun z=>z.2 rfl,.inl ea⟩,aH.less is⟩⟩
    · exact⟨l.n,l.io,fun b z=>l.bd b z.1,fun b z=>⟨l.bm b z,fun q=>k.hk.here b z (q ▸ ha)⟩,l.keep,l.sure,l.nw⟩
    · refine⟨h.n,fun j c e=>?_,h.inj,fun j hj=>⟨h.bd j hj,nc j hj⟩,fun b z=>h.here b z.1⟩;have:=h.cell j c e
      cases c with
      |lst ds=>
        obtain⟨vs,e1,q⟩:=this;exact⟨vs,e1,aH.less q⟩
      |obj c fs=>
        obtain⟨C,dx,gs,e1,e2,e3,q⟩:=this;exact⟨C,dx,gs,e1,e2,e3,aH.less q⟩
      |dct kvs=>
        obtain⟨vs,e1,e2,q⟩:=this;exact⟨vs,e1,e2,aH.less q⟩
      |dcf kvs=>
        obtain⟨vs,ob,es,ep,e1,eD,e2,q⟩:=this;exact⟨vs,ob,es,ep,e1,eD,e2,aH.less q⟩
noncomputable def eV (fs:EA):E:=fun env M=>lZ (fs env M) fun ds M1=>if ds.length<=sizeLine then some (.v (.lst ds),M1) else none
def kj {es:List Expr}{pos:Pos}{fs:EA}(ha:SA X Wx .val es fs):SN X Wx (.List es pos) (eV fs):=by
 refine gC (zf3 ha) ?_;rintro st H Q ⟨P0,H0,P,Os,env,M,r,M',k,e,q⟩;unfold eV at e;rcases zK e with⟨ds,M1,e1,e⟩ |⟨c,n,e1,rfl⟩
 ·split at e
  ·rename_i hl;cases e;obtain⟨ds',e',q⟩:=q;cases e';refine⟨P0,H0,P,Os,env,M,_,_,k,e1,fun P1 vs H1 l1 h1 i1=>⟨by rw[i1.iss.len];exact hl,fun p hp=>?_⟩⟩;obtain⟨l2,h2,nc⟩:=Eu (vs:=vs) h1 hp;exact q (P1.bar p) p vs _ (l1.trans l2) h2 (l1.sure p hp) (.inr rfl) nc gq (aH.lt (l2.lt h1) i1.iss)
  ·cases e
 ·exact⟨P0,H0,P,Os,env,M,_,_,k,e1,q⟩
def lst_is:∀env M r M',eV fs env M=some (.v r,M')->∃ds,r=.lst ds:=fun env M r M' e=>by
 unfold eV at e;rcases zK e with⟨ds,M1,e1,e⟩ |⟨c,n,e1,e⟩
 ·split at e
  ·cases e;exact⟨_,rfl⟩
  ·cases e
 ·cases e
end
inductive Out where
 |nx (env:Env) |bk (env:Env) |ct (env:Env) |rt (d:D) |ex (c:Str) (n:Int)
abbrev OS:=Option (Out×Mm)
abbrev S:=Env->Mm->OS
noncomputable def Post (K:Fgx) (mg:Mgx) (Wx:XW) (P0:Pl) (H0:Hp) (P:Pl) (H:Hp) (M':Mm) (D:Ends):Out->Prop
 |.nx env=>∀P' Os' H' st',Lt P H P' H'->Ok K mg P0 H0 P' Os' H' M' st' env->D.nx st' H'
 |.bk env=>∀P' Os' H' st',Lt P H P' H'->Ok K mg P0 H0 P' Os' H' M' st' env->D.bk st' H'
 |.ct env=>∀P' Os' H' st',Lt P H P' H'->Ok K mg P0 H0 P' Os' H' M' st' env->D.ct st' H'
 |.rt d=>∀P' v H',LtE P0 H0 P' H'->Hk K mg P' H' M'->Is K P' H' d v->D.rt v H'
 |.ex c n=>Wx P0 H0 M' c n
noncomputable def tS (K:Fgx) (mg:Mgx) (Wx:XW) (f:S):TS:=fun D st H=>∃P0 H0 P Os env M out M',Ok K mg P0 H0 P Os H M st env/\f env M=some (out,M')/\Post K mg Wx P0 H0 P H M' D out
def SS (X:Cx)(Wx:XW)(s:Stmt)(f:S):Prop:=PS X s (tS X.K X.mg Wx f)
def SB (X:Cx)(Wx:XW)(s:List Stmt)(f:S):Prop:=lK X s (tS X.K X.mg Wx f)
noncomputable def fP (o:O) (k:D->Mm->OS):OS:=match o with
 |some (.v d,M)=>k d M
 |some (.x c n,M)=>some (.ex c n,M)
 |none=>none
def mZ (h:fP o k=some (r,M')):(∃d M,o=some (.v d,M)/\k d M=some (r,M'))\/∃c n,o=some (.x c n,M')/\r=.ex c n:=by
 unfold fP at h;split at h
 ·exact .inl ⟨_,_,rfl,h⟩
 ·cases h;exact .inr ⟨_,_,rfl,rfl⟩
 ·cases h
section
variable {K:Fgx}{mg:Mgx}{Wx:XW}{P0 P P' P1:Pl}{H0 H H' H1:Hp}{M M':Mm}{Os:List (Option Addr)}{st:L2.St}{env:Env}{d:D}{v:V}{i:Nat}
def z9 (l:List (Option α))(i j:Nat)(x:Option α)(hi:i<l.length):((l.set i x)[j]?).join=if i=j then x else(l[j]?).join:=by
 rw[xaX]
 by_cases h:i=j
 ·subst h;rw[tG rfl,tG hi,tG rfl];rfl
 ·rw[xab h,xab h]
def Ok.asg (k:Ok K mg P0 H0 P Os H M st env)(hi:i<env.length)(h:Is K P H d v):Ok K mg P0 H0 P (Os.set i none) H M (st.set i (some v)) (env.set i (.val d)) where
 hk:=k.hk
 base:=k.base
 b0:=k.b0
 slot:=fun j s e=>by
  rw[z9 _ _ _ _ (by rw[k.olen];exact hi),z9 _ _ _ _ (by rw[k.slen];exact hi)];rw[xaX]at e;split at e
  ·rename_i ij;subst ij;cases e;rw[tG rfl,tG rfl];exact⟨v,rfl,h⟩
  ·rename_i ij;rw[xab ij,xab ij];exact k.slot j s e
 own := fun a h => k.own a (by
  rcases xbK h with h |h
  ·exact h
  ·cases h)
 inj:=fun j l a e1 e2=>by
  rw[xaX]at e1 e2;split at e1
  ·split at e1<;>cases e1
  ·split at e2
   ·split at e2<;>cases e2
   ·exact k.inj j l a e1 e2
 olen:=by rw[xaL,xaL,k.olen]
 slen:=by rw[xaL,xaL,k.slen]
theorem Ok.here (k:Ok K mg P0 H0 P Os H M st env)(h:some a∈Os):H a≠none:=k.hk.here a (k.own a h).1
def Ok.mine (k0:Ok K mg P0 H0 P Os H M st env)(l:LtE P H P' H')(hk:Hk K mg P' H' M')(hi:i<env.length)(ha:H a=none)(ba:P'.bd a)(nc:∀j,j<P'.n->P'.io j≠a)(e:H' a=some (.lst vs))(h:aH K P' H' ds vs):
  Ok K mg P0 H0 P' (Os.set i (some a)) H' M' (st.set i (some (.ref a))) (env.set i (.own ds)):=by
 have k:=k0.next l hk
 have nO:∀j,Os[j]? ≠some (some a):=fun j z=>k0.here (xaW z) ha;exact {
  hk:=k.hk
  base:=k.base
  b0:=k.b0
  slot:=fun j s e'=>by
   rw[z9 _ _ _ _ (by rw[k.olen];exact hi),z9 _ _ _ _ (by rw[k.slen];exact hi)];rw[xaX]at e';split at e'
   ·rename_i ij;subst ij;cases e';rw[tG rfl,tG rfl];exact⟨a,vs,rfl,rfl,e,h⟩
   ·rename_i ij;rw[xab ij,xab ij];exact k.slot j s e'
  own:=fun b hb=>by
   rcases xbK hb with hb |hb
   ·exact k.own b hb
   ·cases hb;exact⟨ba,nc,k0.base.sure a ha⟩
  inj:=fun j l b e1 e2=>by
   rw[xaX]at e1 e2;split at e1
   ·split at e1
    ·cases e1;split at e2
     ·rename_i z1 _ z2;exact z1.symm.trans z2
     ·exact absurd e2 (nO l)
    ·cases e1
   ·split at e2
    ·split at e2
     ·cases e2;exact absurd e1 (nO j)
     ·cases e2
    ·exact k.inj j l b e1 e2
  olen:=by rw[xaL,xaL,k.olen]
  slen:=by rw[xaL,xaL,k.slen]}
def yR (b : P.bd a) (e : H a = some o) (nf : ¬ Fx o) : Lt P H P (upd H a o') := ⟨xad _,fun _ _=>rfl,fun _ z=>.inl z,fun c u ec z=>by
  by_cases h:c=a
  ·subst h;rw[e]at ec;cases ec;exact(z.elim nf fun n=>n b).elim
  ·rw[aZ h];exact ec,fun c z=>by
  by_cases h:c=a
  ·subst h;rw[gq]at z;cases z
  ·rw[aZ h]at z;exact z⟩
def Ka:¬ Fx (.lst vs):=fun z=>by rcases z with⟨_,z⟩ |⟨_,_,z⟩ |⟨_,z⟩ |⟨_,z⟩<;>cases z
def zgA:¬ Fx (.ins C dx gs):=fun z=>by rcases z with⟨_,z⟩ |⟨_,_,z⟩ |⟨_,z⟩ |⟨_,z⟩<;>cases z
theorem Ac.lt (l:Lt P H P' H')(e:∀o,H a=some o->H' a=some o)(h:Ac K mg P H a c):Ac K mg P' H' a c:=by
  cases c with
  |lst ds=>
    obtain⟨vs,e1,q⟩:=h;exact⟨vs,e _ e1,aH.lt l q⟩
  |obj c fs=>
    obtain⟨C,dx,gs,e1,e2,e3,q⟩:=h;exact⟨C,dx,gs,e1,e _ e2,e3,aH.lt l q⟩
  |dct kvs=>
    obtain⟨vs,e1,e2,q⟩:=h;exact⟨vs,e _ e1,e2,aH.lt l q⟩
  |dcf kvs=>
    obtain⟨vs,ob,es,ep,e1,eD,e2,q⟩:=h;exact⟨vs,ob,es,ep,e _ e1,eD,e2,aH.lt l q⟩
def Ok.chg (k:Ok K mg P0 H0 P Os H M st env)(hi:env[i]? =some (.own ds))(ho:Os[i]? =some (some a))(e:H a=some (.lst vs))(h:aH K P H ds' vs'):
    Lt P H P (upd H a (.lst vs'))/\Ok K mg P0 H0 P Os (upd H a (.lst vs')) M st (env.set i (.own ds')):=by
  obtain⟨b1,b2,b3⟩:=k.own a (xaW ho);have l:Lt P H P (upd H a (.lst vs')):=yR b1 e Ka;have ilt:i<env.length:=(xag.mp hi).1;refine⟨l,?_⟩;exact {
    hk:=⟨k.hk.n,fun j c ej=>(k.hk.cell j c ej).lt l fun o eo=>by rw[aZ (b2 j (by rw[k.hk.n];exact(xag.mp ej).1))];exact eo,k.hk.inj,k.hk.bd,fun c z q=>k.hk.here c z (l.sure c q)⟩
    base := ⟨k.base.n,k.base.io,k.base.bd,k.base.bm,fun c o ec n=>by
      have:=k.base.keep c o ec n;rw[aZ (fun z=>by subst z;rw[b3]at ec;cases ec)];exact this,fun c z=>k.base.sure c (l.sure c z),k.base.nw⟩
    b0:=k.b0
    slot:=fun j s ej=>by
      rw[xaX]at ej;split at ej
      · rename_i ij;subst ij;cases ej;obtain⟨a',vs0,e1,e2,e3,q⟩:=k.slot i _ hi;rw[ho]at e1;cases e1;exact⟨a,vs',by rw[ho];rfl,e2,gq,aH.lt l h⟩
      · rename_i ij;have q:=k.slot j s ej
        cases s with
        |un=>exact True.intro
        |val d=>obtain⟨v,e1,q⟩:=q;exact⟨v,e1,Is.lt l q⟩
        |own es=>
          obtain⟨a',ws,e1,e2,e3,q⟩:=q;refine⟨a',ws,e1,e2,?_,aH.lt l q⟩;rw[aZ (fun z=>ij (k.inj i j a ho (by rw[<-z];exact sU e1)))];exact e3
        |exc c n=>obtain⟨v,e1,q⟩:=q;exact⟨v,e1,q.lt l⟩
    own:=k.own
    inj:=k.inj
    olen:=by rw[xaL,k.olen]
    slen:=by rw[xaL,k.slen]}
theorem Hk.set (h:Hk K mg P H M)(e:M[j]? =some c)(w:Ac K mg P (upd H (P.io j) o') (P.io j) c')(nd:∀kvs,c≠ .dcf kvs:=by intro _ z;cases z):Lt P H P (upd H (P.io j) o')/\LtE P H P (upd H (P.io j) o')/\Hk K mg P (upd H (P.io j) o') (M.set j c'):=by
 have jl:j<P.n:=by rw[h.n];exact(xag.mp e).1
 obtain ⟨o, eo, nf⟩ := h.cellAt e nd;have l : Lt P H P (upd H (P.io j) o') := yR (h.bd j jl) eo nf;refine ⟨l, ⟨xad _,fun _ _=>rfl,fun _ z=>.inl z,fun _ z=>z,fun a u ea n=>by
  have ne:a≠P.io j:=by
   rintro rfl;rw[eo]at ea;cases ea;exact n.elim nf fun nc=>nc j jl rfl
  rw[aZ ne];exact ea,l.sure,fun k h1 h2=>absurd h1 (xdO.mpr h2)⟩,⟨by rw[xaL,h.n],fun k b ek=>?_,h.inj,h.bd,fun a z q=>h.here a z (l.sure a q)⟩⟩
 rw[xaX]at ek;split at ek
 ·rename_i jk;subst jk;rw[tG (by rw[<-h.n];exact jl)]at ek;cases ek;exact w
 ·rename_i jk;have kl:k<P.n:=by rw[h.n];exact(xag.mp ek).1
  exact(h.cell k b ek).lt l fun u eu=>by rw[aZ (fun z=>jk (h.inj j k jl kl z.symm))];exact eu
def Ok.frz (k:Ok K mg P0 H0 P Os H M st env)(hi:env[i]? =some (.own ds)):∃P' Os',Lt P H P' H/\Ok K mg P0 H0 P' Os' H M st (env.set i (.val (.lst ds))):=by
 obtain⟨a,vs,e1,e2,e3,q⟩:=k.slot i _ hi;have ho:=sU e1;obtain⟨b1,b2,b3⟩:=k.own a (xaW ho);have ilt:i<env.length:=(xag.mp hi).1;have nO:∀b,some b∈Os.set i none->some b∈Os/\b≠a:=fun b z=>by
  obtain⟨j,hj⟩:=xc1.mp z;rw[xaX]at hj;split at hj
  ·split at hj<;>cases hj
  ·rename_i ij;exact⟨xaW hj,fun z=>by subst z;exact ij (k.inj i j b ho hj)⟩
 have l : Lt P H (P.less (· ≠ a)) H := ⟨xad _, fun _ _ => rfl, fun c z => .inl z.1, fun _ _ e _ => e, fun _ z => z⟩;refine ⟨P.less (· ≠a),Os.set i none,l,{
  hk:=⟨k.hk.n,fun j c ej=>(k.hk.cell j c ej).lt l fun _ z=>z,k.hk.inj,fun j hj=>⟨k.hk.bd j hj,b2 j hj⟩,fun c z=>k.hk.here c z.1⟩
  base:=⟨k.base.n,k.base.io,fun c z=>k.base.bd c z.1,fun c z=>⟨k.base.bm c z,fun q=>k.b0 c z (q ▸ b3)⟩,k.base.keep,k.base.sure,k.base.nw⟩
  b0:=k.b0
  slot:=fun j s ej=>?_
  own:=fun c z=>?_
  inj:=fun j l b z1 z2=>?_
  olen:=by rw[xaL,xaL,k.olen]
  slen:=by rw[xaL,k.slen]}⟩
 ·rw[z9 _ _ _ _ (by rw[k.olen];exact ilt)];rw[xaX]at ej;split at ej
  ·rename_i ij;subst ij;cases ej;exact⟨.ref a,e2,a,vs,rfl,.inl ⟨fun z=>z.2 rfl,.inl e3⟩,aH.less q⟩
  ·rename_i ij;rw[xab ij];have q:=k.slot j s ej
   cases s with
   |un=>exact True.intro
   |val d=>obtain⟨v,e1,q⟩:=q;exact⟨v,e1,Is.less q⟩
   |own es=>obtain⟨a',ws,e1,e2,e3,q⟩:=q;exact⟨a',ws,e1,e2,e3,aH.less q⟩
   |exc c n=>obtain⟨v,e1,q⟩:=q;exact⟨v,e1,q.lt l⟩
 ·obtain⟨z1,z2⟩:=nO c z;obtain⟨c1,c2,c3⟩:=k.own c z1;exact⟨⟨c1,z2⟩,c2,c3⟩
 ·rw[xaX]at z1 z2;split at z1
  ·split at z1<;>cases z1
  ·split at z2
   ·split at z2<;>cases z2
   ·exact k.inj j l b z1 z2
end
section
variable {X:Cx}{Wx:XW}{pos:Pos}
def nu (h:PS X s t)(w:∀D σ H,t' D σ H->t D σ H):PS X s t':=fun pins s σ H D I hw=>h pins s σ H D I (w D σ H hw)
def Kq (h:lK X s t)(w:∀D σ H,t' D σ H->t D σ H):lK X s t':=fun pins s σ H D I hw=>h pins s σ H D I (w D σ H hw)
def aC:S:=fun env M=>some (.nx env,M)
def ao (f g:S):S:=fun env M=>match f env M with
 |some (.nx e,M1)=>g e M1
 |o=>o
def aL:SB X Wx [] aC:=by
 refine Kq Rh ?_;rintro D st H ⟨P0,H0,P,Os,env,M,out,M',k,e,q⟩;cases e;exact q P Os H st (Lt.refl P H) k
def Post.lt {K:Fgx}{mg:Mgx}{P0 P P1:Pl}{H0 H H1:Hp}{M':Mm}{D:Ends}{o:Out}(l:Lt P H P1 H1)(q:Post K mg Wx P0 H0 P H M' D o):Post K mg Wx P0 H0 P1 H1 M' D o:=by
 cases o with
 |nx env=>exact fun P' Os' H' st' l' k=>q P' Os' H' st' (l.trans l') k
 |bk env=>exact fun P' Os' H' st' l' k=>q P' Os' H' st' (l.trans l') k
 |ct env=>exact fun P' Os' H' st' l' k=>q P' Os' H' st' (l.trans l') k
 |rt d=>exact q
 |ex c n=>exact q
def aD (h1:SS X Wx s f)(h2:SB X Wx ss g):SB X Wx (s::ss) (ao f g):=by
  refine Kq (Hg h1 h2) ?_;rintro D st H ⟨P0,H0,P,Os,env,M,out,M',k,e,q⟩;unfold ao at e;split at e
  · rename_i e1 M1 ef;refine⟨P0,H0,P,Os,env,M,_,_,k,ef,fun P1 Os1 H1 st1 l1 k1=>?_⟩;exact⟨P0,H0,P1,Os1,e1,M1,_,_,k1,e,q.lt l1⟩
  · rename_i o ho
    cases ef:f env M with
    |none=>rw[ef]at e;cases e
    |some om=>
      obtain⟨o1,M1⟩:=om;rw[ef]at e;cases e;refine⟨P0,H0,P,Os,env,M,_,_,k,ef,?_⟩
      cases out with
      |nx env'=>exact(ho _ _ ef).elim
      |bk env'=>exact q
      |ct env'=>exact q
      |rt d=>exact q
      |ex c n=>exact q
noncomputable def aM (i:Nat) (f:E):S:=fun env M=>fP (f env M) fun d M1=>if i<env.length then some (.nx (env.set i (.val d)),M1) else none
def eO (hN:X.N.Nodup)(hi:X.N[i]? =some x)(hx:Loc X.env.scope x)(he:SE X Wx .val e f)(hs:swapsWith e (some (.Name x pos')) pos.line X.env=pure false:=by rfl)
  (hf:X.fn x=true\/X.env.scope.names.lookup x=some .local:=by first |exact .inl rfl |exact .inr rfl):SS X Wx (.Assign [.Name x pos'] e pos) (aM i f):=by
 refine nu (YW hN hi hx he hs hf) ?_;rintro D st H ⟨P0,H0,P,Os,env,M,out,M',k,e,q⟩;unfold aM at e;rcases mZ e with⟨d,M1,e1,e⟩ |⟨c,n,e1,rfl⟩
 ·split at e
  ·rename_i hl;cases e;exact⟨P0,H0,P,Os,env,M,_,_,k,e1,fun P1 v1 H1 l1 h1 i1=>q _ _ _ _ (l1.lt k.hk) ((k.next l1 h1).asg hl i1)⟩
  ·cases e
 ·exact⟨P0,H0,P,Os,env,M,_,_,k,e1,q⟩
noncomputable def u_ (i:Nat) (f:E):S:=fun env M=>fP (f env M) fun d M1=>match d with
 |.lst ds=>if i<env.length then some (.nx (env.set i (.own ds)),M1) else none
 |_=>none
def Ca (hN:X.N.Nodup)(hi:X.N[i]? =some x)(hx:Loc X.env.scope x)(he:SN X Wx e f)(hs:swapsWith e (some (.Name x pos')) pos.line X.env=pure false:=by rfl)
  (hf:X.fn x=true\/X.env.scope.names.lookup x=some .local:=by first |exact .inl rfl |exact .inr rfl):SS X Wx (.Assign [.Name x pos'] e pos) (u_ i f):=by
 refine nu (YW hN hi hx he hs hf) ?_;rintro D st H ⟨P0,H0,P,Os,env,M,out,M',k,e,q⟩;unfold u_ at e;rcases mZ e with⟨d,M1,e1,e⟩ |⟨c,n,e1,rfl⟩
 ·cases d<;>simp only[reduceCtorEq]at e
  rename_i ds;split at e
  ·rename_i hl;cases e;exact⟨P0,H0,P,Os,env,M,_,_,k,e1,ds,rfl,fun P1 a vs H1 l1 h1 ha ba nc ea is=>q _ _ _ _ (l1.lt k.hk) (k.mine l1 h1 hl ha ba nc ea is)⟩
  ·cases e
 ·exact⟨P0,H0,P,Os,env,M,_,_,k,e1,q⟩
def aK (f:E):S:=fun env M=>fP (f env M) fun d M1=>some (.rt d,M1)
def eF (he:SE X Wx .val e f):SS X Wx (.Return (some e) pos) (aK f):=by
 refine nu (zhr he) ?_;rintro D st H ⟨P0,H0,P,Os,env,M,out,M',k,e,q⟩;unfold aK at e;rcases mZ e with⟨d,M1,e1,e⟩ |⟨c,n,e1,rfl⟩
 ·cases e;exact⟨P0,H0,P,Os,env,M,_,_,k,e1,fun P1 v1 H1 l1 h1 i1=>q P1 v1 H1 (k.base.trans l1) h1 i1⟩
 ·exact⟨P0,H0,P,Os,env,M,_,_,k,e1,q⟩
def wj (f:E):S:=fun env M=>fP (f env M) fun _ M1=>some (.nx env,M1)
def S8 (he:SE X Wx .bor e f)(hs:swapsWith e none pos.line X.env=pure false:=by rfl):SS X Wx (.Expr e pos) (wj f):=by
 refine nu (Dj he hs) ?_;rintro D st H ⟨P0,H0,P,Os,env,M,out,M',k,e,q⟩;unfold wj at e;rcases mZ e with⟨d,M1,e1,e⟩ |⟨c,n,e1,rfl⟩
 ·cases e;exact⟨P0,H0,P,Os,env,M,_,_,k,e1,fun P1 v1 H1 l1 h1 i1=>q _ _ _ _ (l1.lt k.hk) (k.next l1 h1)⟩
 ·exact⟨P0,H0,P,Os,env,M,_,_,k,e1,q⟩
noncomputable def fB (c:E) (f g:S):S:=fun env M=>fP (c env M) fun d M1=>match d with
 |.bl b=>if b=true then f env M1 else g env M1
 |_=>none
def fJ (hc:ST X Wx c t)(ha:SB X Wx a f)(hb:SB X Wx b g):SS X Wx (.If c a b pos) (fB t f g):=by
  refine nu (zj7 hc ha hb) ?_;rintro D st H ⟨P0,H0,P,Os,env,M,out,M',k,e,q⟩;unfold fB at e;rcases mZ e with⟨d,M1,e1,e⟩ |⟨c,n,e1,rfl⟩
  · cases d<;>simp only[reduceCtorEq]at e
    rename_i b;refine pW k e1 ⟨b,rfl,fun P1 H1 l1 h1=>?_⟩
    cases b with
    |true=>
      rw[tG rfl]at e ⊢;exact⟨P0,H0,P1,Os,env,M1,_,_,k.next l1 h1,e,q.lt (l1.lt k.hk)⟩
    |false=>
      rw[xab (by decide)]at e ⊢;exact⟨P0,H0,P1,Os,env,M1,_,_,k.next l1 h1,e,q.lt (l1.lt k.hk)⟩
  · exact pW k e1 q
noncomputable def sZ (i:Nat):S:=fun env M=>match env[i]? with
 |some (.own ds)=>some (.nx (env.set i (.val (.lst ds))),M)
 |_=>none
def Lx (h:SB X Wx ss g):SB X Wx ss (ao (sZ i) g):=by
 refine Kq h ?_;rintro D st H ⟨P0,H0,P,Os,env,M,out,M',k,e,q⟩;unfold ao sZ at e;split at e
 ·rename_i e1 M1 ef;split at ef
  ·rename_i ds es;cases ef;obtain⟨P1,Os1,l1,k1⟩:=k.frz es;exact⟨P0,H0,P1,Os1,_,_,_,_,k1,e,q.lt l1⟩
  ·cases ef
 ·rename_i ho;split at e
  ·rename_i es;exact(ho _ _ (by rw[es])).elim
  ·cases e
noncomputable def iB (i:Nat) (f:E):S:=fun env M=>match env[i]? with
 |some (.own ds)=>fP (f env M) fun d M1=>if ds.length<sizeLine then some (.nx (env.set i (.own (ds ++ [d]))),M1) else none
 |_=>none
def xg (hN:X.N[i]? =some x)(hv:Ah X.env.scope x)(he:SE X Wx .val e f)(hd:(x==("__debug__":Str))=false:=by x_go)(hcd:(x==("__classdict__":Str))=false:=by x_go)
  (hfew:((backTo q (starEach [e] X.env)).all (fun x=> !x.1) && (backToKw q (keywordEach [] X.env)).all (fun x=>x.1.isSome) && decide ([e].length + ([]:List Keyword).length + (if ([]:List Keyword).isEmpty then 0 else 1)<30))=true:=by rfl)
  (hline:(p.endLine==q.line)=true:=by rfl) (hs:starEach [e] X.env=(false,eval e X.env)::starEach [] X.env:=by rfl) (hw:swapsWith (.Call (.Attribute (.Name x p0) "append" p) [e] [] q) none pos.line X.env=pure false:=by rfl):
  SS X Wx (.Expr (.Call (.Attribute (.Name x p0) "append" p) [e] [] q) pos) (iB i f):=by
 refine nu (Dj (Kl xcQ xd0 xd1 Qu (zX hN hv hd hcd) (q_ he wU hs) rfl hfew hline hs rfl) hw) ?_;rintro D st H ⟨P0,H0,P,Os,env,M,out,M',k,e,q⟩;unfold iB at e;split at e
 ·rename_i ds es;obtain⟨a,vs,o1,o2,o3,o4⟩:=k.slot i _ es;refine⟨.ref a,sU o2,.inl ⟨rfl,vs,.inl (.inl o3)⟩,?_⟩;rcases mZ e with⟨d,M1,e1,e⟩ |⟨c,n,e1,rfl⟩
  ·split at e
   ·rename_i hz;cases e;refine aV k e1 fun P1 v1 H1 l1 h1 i1=>?_;have k1:=k.next l1 h1
    obtain⟨a',vs',o1',o2',o3',o4'⟩:=k1.slot i _ es;have ea:a'=a:=by
     have z:=o2'.symm.trans o2;cases z;rfl
    subst ea;refine⟨a',vs',v1,rfl,rfl,o3',by rw[o4'.len];exact hz,?_⟩;obtain⟨l2,k2⟩:=k1.chg es (sU o1') o3' (aH.append o4' (aH.one i1));exact q _ _ _ _ ((l1.lt k.hk).trans l2) k2
   ·cases e
  ·exact aV k e1 q
 ·cases e
def Wk (K:Fgx)(P1:Pl)(H1:Hp)(J:It)(ds:List D):Prop:=∀P H,Lt P1 H1 P H->(∀k,k<ds.length->J.go k H)/\(∀k,ds.length<=k->k<=ds.length->J.stop k H)/\∀k x H',J.yld k H x H'->k<ds.length->H'=H/\∃d,ds[k]? =some d/\Is K P H d x
noncomputable def IQ (K:Fgx) (mg:Mgx) (Wx:XW) (P0:Pl) (H0:Hp) (P:Pl) (H:Hp) (M':Mm) (R:It->Hp->Prop):ResA->Prop
 |.v ds=>∀P' H' J,LtE P H P' H'->Hk K mg P' H' M'->Wk K P' H' J ds->R J H'
 |.x c n=>Wx P0 H0 M' c n
noncomputable def tI (K:Fgx) (mg:Mgx) (Wx:XW) (fs:EA):TI:=fun st H R=>∃P0 H0 P Os env M r M',Ok K mg P0 H0 P Os H M st env/\fs env M=some (r,M')/\IQ K mg Wx P0 H0 P H M' R r
def SI (X:Cx)(Wx:XW)(tg iter:Expr)(fs:EA):Prop:=PI X tg iter (tI X.K X.mg Wx fs)
def G9 (h:PI X tg iter t)(w:∀σ H R,t' σ H R->t σ H R):PI X tg iter t':=fun pins s σ H R I hw=>h pins s σ H R I (w σ H R hw)
noncomputable def loopS (i:Nat) (body:S):List D->Env->Mm->OS
  | [],env,M=>some (.nx env,M)
  | d :: ds, env, M => if i < env.length then (match body (env.set i (.val d)) M with
    |some (.nx e,M1)=>loopS i body ds e M1
    |some (.ct e,M1)=>loopS i body ds e M1
    |some (.bk e,M1)=>some (.nx e,M1)
    |some (.rt d,M1)=>some (.rt d,M1)
    |some (.ex c n,M1)=>some (.ex c n,M1)
    |none=>none) else none
noncomputable def sY (i:Nat) (fs:EA) (body:S):S:=fun env M=>match fs env M with
 |some (.v ds,M1)=>loopS i body ds env M1
 |some (.x c n,M1)=>some (.ex c n,M1)
 |none=>none
def zcq {K:Fgx}{mg:Mgx}{P0 P1:Pl}{H0 H1:Hp}{Os:List (Option Addr)}{M M':Mm}{st:L2.St}{env:Env}{i:Nat}{b:S}{J:It}{ds:List D}{out:Out}{D:Ends}(k:Ok K mg P0 H0 P1 Os H1 M st env)(wk:Wk K P1 H1 J ds)
  (h:loopS i b ds env M=some (out,M')) (q:Post K mg Wx P0 H0 P1 H1 M' D out):
  ∃W:Nat->Nat->L2.St->Hp->Prop,(∃m,W 0 m st H1)/\∀j m σ H,W j m σ H->
   (J.stop j H/\D.nx σ H)\/(J.go j H/\∃Nn:L2.St->Hp->Prop,(∀σ' H',Nn σ' H'->∃m',m'<m/\W (j + 1) m' σ' H')/\∀x H',J.yld j H x H'->Pq i x σ H' fun σ2 H2=>tS K mg Wx b {D with nx:=Nn,ct:=Nn,bk:=D.nx} σ2 H2):=by
 refine⟨fun j m σ H=>m=ds.length - j/\j<=ds.length/\∃P Os' M1 env',Lt P1 H1 P H/\Ok K mg P0 H0 P Os' H M1 σ env'/\loopS i b (ds.drop j) env' M1=some (out,M'),⟨ds.length,by simp,xbL _,P1,Os,M,env,Lt.refl _ _,k,h⟩,?_⟩;rintro j m σ H ⟨rfl,hj,P,Os',M1,env',lt,k',h'⟩;obtain⟨w1,w2,w3⟩:=wk P H lt
 by_cases hlt:j<ds.length
 ·refine .inr ⟨w1 j hlt,fun σ' H'=>∃P Os' M1 env',Lt P1 H1 P H'/\Ok K mg P0 H0 P Os' H' M1 σ' env'/\loopS i b (ds.drop (j + 1)) env' M1=some (out,M'),fun σ' H' z=>⟨ds.length - (j + 1),by omega,rfl,hlt,z⟩,fun x H' y=>?_⟩;obtain⟨e3,d,ed,iv⟩:=w3 j x H' y hlt;subst e3;have ed':ds.drop j=d::ds.drop (j + 1):=by
   rw[xbh hlt];rw[xah hlt]at ed;rw[xaw ed]
  rw[ed']at h';simp only[loopS]at h';split at h'
  ·rename_i hi;have k2:=k'.asg hi iv;split at h'
   ·rename_i e M2 eb;exact⟨P0,H0,P,_,_,M1,_,_,k2,eb,fun P' Os2 H2 st2 l2 k3=>⟨P',Os2,_,e,lt.trans l2,k3,h'⟩⟩
   ·rename_i e M2 eb;exact⟨P0,H0,P,_,_,M1,_,_,k2,eb,fun P' Os2 H2 st2 l2 k3=>⟨P',Os2,_,e,lt.trans l2,k3,h'⟩⟩
   ·rename_i e M2 eb;cases h';exact⟨P0,H0,P,_,_,M1,_,_,k2,eb,fun P' Os2 H2 st2 l2 k3=>q P' Os2 H2 st2 (lt.trans l2) k3⟩
   ·rename_i e M2 eb;cases h';exact⟨P0,H0,P,_,_,M1,_,_,k2,eb,q⟩
   ·rename_i c n M2 eb;cases h';exact⟨P0,H0,P,_,_,M1,_,_,k2,eb,q⟩
   ·cases h'
  ·cases h'
 ·have ej:j=ds.length:=by omega
  subst ej;rw[xb6]at h';cases h';exact .inl ⟨w2 _ (xad _) (xad _),q P Os' H σ lt k'⟩
def L_ (hp:PassesOwn (model X.prog X.w) X.A X.env X.xe)(hc:X.calm=true)(hN:X.N.Nodup)(hi:X.N[i]? =some x)(hx:Loc X.env.scope x)(hI:SI X Wx (.Name x p) iter fs)(hb:SB X Wx body b)
  (hf:X.fn x=true\/X.env.scope.names.lookup x=some .local:=by first |exact .inl rfl |exact .inr rfl) (hs:∀x,foldedSetIterable iter X.env x=pure x:=by intro _;rfl):SS X Wx (.For (.Name x p) iter body [] pos) (sY i fs b):=by
 refine nu (YS hp hc hI (YM hN hi hx hf) hb hs) ?_;rintro D st H ⟨P0,H0,P,Os,env,M,out,M',k,e,q⟩;unfold sY at e;split at e
 ·rename_i ds M1 ef;exact⟨P0,H0,P,Os,env,M,_,_,k,ef,fun P1 H1 J l1 h1 wk=>zcq (k.next l1 h1) wk e (q.lt (l1.lt k.hk))⟩
 ·rename_i c n M1 ef;cases e;exact⟨P0,H0,P,Os,env,M,_,_,k,ef,q⟩
 ·cases e
noncomputable def tX (f:E):EA:=fun env M=>match f env M with
 |some (.v (.lst ds),M1)=>some (.v ds,M1)
 |some (.x c n,M1)=>some (.x c n,M1)
 |_=>none
def SM (h:SE X Wx .val e f):SI X Wx tg e (tX f):=by
 refine G9 (zek h) ?_;rintro st H R ⟨P0,H0,P,Os,env,M,r,M',k,e,q⟩;unfold tX at e;split at e
 ·rename_i ds M1 ef;cases e;refine⟨P0,H0,P,Os,env,M,_,_,k,ef,fun P1 v1 H1 l1 h1 i1=>?_⟩;obtain⟨a,vs,rfl,ra,is⟩:=i1;refine⟨a,rfl,⟨vs,ra.imp (·.2) id⟩,q P1 H1 _ l1 h1 fun P2 H2 l2=>?_⟩;have ra2:=l2.rda ra;have is2:=aH.lt l2 is;have sq:fW X.K H2 a vs:=ra2.imp (·.2) id;refine⟨fun j hj=>?_,fun j h1 h2=>⟨vs,sq,by rw[is2.len];exact h1⟩,fun j x H' y hj=>⟨y.1,?_⟩⟩
  ·obtain⟨v,ev,_⟩:=aH.get is2 (xah hj);exact⟨vs,v,sq,ev⟩
  ·obtain⟨v,ev,iv⟩:=aH.get is2 (xah hj);have:=y.2 vs sq;rw[ev]at this;cases this;exact⟨_,xah hj,iv⟩
 ·rename_i c n M1 ef;cases e;exact⟨P0,H0,P,Os,env,M,_,_,k,ef,q⟩
 ·cases e
end
abbrev G:=List D->Mm->O
noncomputable def zm (K:Fgx) (mg:Mgx) (n:Nat) (g:G):Sp:=fun vs H Q _=>vs.length=n/\∃P M ds d M',Hk K mg P H M/\aH K P H ds vs/\g ds M=some (.v d,M')/\∀P' v H',LtE P H P' H'->Hk K mg P' H' M'->Is K P' H' d v->Q v H'
noncomputable def kZ (o:OS):O:=match o with
 |some (.rt d,M)=>some (.v d,M)
 |some (.nx _,M)=>some (.v .non,M)
 |some (.ex c n,M)=>some (.x c n,M)
 |_=>none
def fH (n:Nat)(b:S):G:=fun ds M=>kZ (b (ds.map .val ++ List.replicate (n - ds.length) .un) M)
def zbx {K:Fgx}{mg:Mgx}{P:Pl}{H:Hp}{M:Mm}{N:List Str}{ds:List D}{vs:List V}(hk:Hk K mg P H M)(hl:vs.length<=N.length)(h:aH K P H ds vs):
  Ok K mg P H P (List.replicate N.length none) H M (L2.start N vs) (ds.map .val ++ List.replicate (N.length - ds.length) .un):=by
 have hd:=h.len;refine⟨hk,LtE.refl P H,hk.here,fun i s e=>?_,fun a z=>?_,fun i j a e1 _=>?_,by simp;omega,by simp[L2.start];omega⟩
 ·have e0:((List.replicate N.length (none:Option Addr))[i]?).join=none:=by
   rw[xcc]
   split<;>rfl
  rw[e0]
  by_cases hi:i<ds.length
  ·rw[xa0 (by simpa using hi),xax,xah hi]at e;simp only[xaV,xeO]at e;subst e;obtain⟨v,ev,p⟩:=h.get (xah hi);refine⟨v,?_,p⟩;unfold L2.start;rw[xa0 (by rw[xap];omega),xax,ev];rfl
  ·rw[xa4 (by simpa using hi),xcc]at e;split at e
   ·cases e;exact True.intro
   ·cases e
 ·exact absurd (List.eq_of_mem_replicate z) (by simp)
 ·rw[xcc]at e1;split at e1<;>cases e1
structure FunD (K:Fgx)(x qual:Str)(st:Stmt)(f:Addr)(fd:FuncData):Prop where
 ex:∃(oc:Value) (od:Option Addr) (dV kV doc pm:Value) (an:Option Addr) (cdv ct:Value) (osl:Array (Option Value)),
  fd=PySem.W.fnOf x qual (m_ st) (j_ st) (aY st) dV kV doc pm an cdv ct/\K.lookup f=some ⟨oc,od,.func fd,osl⟩/\PySem.W.codeIn K cdv qual=true
 kp:PySem.W.keepIn K (.ref f)=true
def CJ {K:Fgx}{x qual:Str}{st:Stmt}{f:Addr}{oc:Value}{od an:Option Addr}{osl:Array (Option Value)}{dV kV doc pm cdv ct:Value}(l:K.lookup f=some ⟨oc,od,.func (PySem.W.fnOf x qual (m_ st) (j_ st) (aY st) dV kV doc pm an cdv ct),osl⟩)
  (c:PySem.W.codeIn K cdv qual=true) (k:PySem.W.keepIn K (.ref f)=true):FunD K x qual st f (PySem.W.fnOf x qual (m_ st) (j_ st) (aY st) dV kV doc pm an cdv ct):=⟨⟨oc,od,dV,kV,doc,pm,an,cdv,ct,osl,rfl,l,c⟩,k⟩
section
variable {P:Program}{w:World}{K:Fgx}{mg:Mgx}{base:Heap}{k:Nat}{x qual:Str}{st:Stmt}{f:Addr}{fd:FuncData}{N ps:List Str}{b:S}
def W0:XW:=fun _ _ _ _ _=>False
abbrev Fl (P:Program)(w:World)(K:Fgx)(mg:Mgx)(base:Heap)(N:List Str)(qual:Str)(st:Stmt)(f:Addr)(cdv:Value)(A:Around)(outer:List PySem.Env)(s:Shared)(H:Hp)(E:XK):Cx:=(kY nF P w K mg base N qual (aY st) f cdv A outer s H E).nox
def JD (F:FunD K x qual st f fd)(S:FnScope N ps (aY st))(hp:ps.length<=N.length)
  (hb:∀cdv A outer s H E,Room k (A.deeper (envOfC qual (aY st) s.heap.objs.size f cdv))->SB (Fl P w K mg base N qual st f cdv A outer s H E) W0 (j_ st) b):FnOk P w K mg base nF (k + 1) f fd ps (zm K mg ps.length (fH N.length b)):=by
 obtain⟨oc,od,dV,kV,doc,pm,an,cdv,ct,osl,rfl,lk,hcd⟩:=F.ex;refine Ph lk hcd S (fun vs H Q E h=>h.1) fun A outer s H vs Q E hr h=>?_;obtain⟨hl,Pl,M,ds,d,M',hk,is,e,q⟩:=h;refine⟨_,lK.nox (hb cdv A outer s H E hr),?_⟩;unfold fH kZ at e;have st0:=zbx (N:=N) hk (by omega) is;split at e
 ·rename_i d' M2 eb;cases e;exact⟨Pl,H,Pl,_,_,M,_,_,st0,eb,fun P' v H' l h i=>q P' v H' l h i⟩
 ·rename_i env M2 eb;cases e;exact⟨Pl,H,Pl,_,_,M,_,_,st0,eb,fun P' Os' H' st' _ k'=>q P' .non H' k'.base k'.hk rfl⟩
 ·rename_i c n M2 eb;cases e
 ·cases e
def aR (P:Program)(w:World)(K:Fgx)(mg:Mgx)(base:Heap)(k:Nat)(f:Str)(n:Nat)(g:G):Prop:=
 ∃fa fd ps ds dvs sp,mg f=some (.ref fa)/\PySem.W.keepIn K (.ref fa)=true/\FnOk P w K mg base nF k fa fd ps sp/\Binds K fd ps ds/\Vals dvs ds/\∀vs H Q E,zm K mg n g vs H Q E->sp (vs ++ dvs) H Q E
def zji (F:FunD K x qual st f fd)(S:FnScope N ps (aY st))(hp:ps.length<=N.length)(hm:mg x=some (.ref f))(hd:Binds K fd ps [])
  (hb:∀cdv A outer s H E,Room k (A.deeper (envOfC qual (aY st) s.heap.objs.size f cdv))->SB (Fl P w K mg base N qual st f cdv A outer s H E) W0 (j_ st) b):aR P w K mg base (k + 1) x ps.length (fH N.length b):=
 ⟨f,fd,ps,[],[],_,hm,F.kp,JD F S hp hb,hd,.nil,fun vs H Q E h=>by rw[xaH];exact h⟩
theorem aR.mono (a:aR P w K mg base j x n g)(h:j<=k):aR P w K mg base k x n g:=by
 obtain⟨fa,fd,ps,ds,dvs,sp,h1,h2,h3,h4⟩:=a;exact⟨fa,fd,ps,ds,dvs,sp,h1,h2,h3.mono h,h4⟩
end
section
variable {X:Cx}{Wx:XW}{m:Mode}
noncomputable def fu (g:G) (fs:EA):E:=fun env M=>lZ (fs env M) fun ds M1=>match g ds M1 with
 |some (.v d,M2)=>some (.v d,M2)
 |_=>none
theorem g8.len {K:Fgx}{P:Pl}{H:Hp}:∀{ds:List D} {vs:List V},g8 K P H m ds vs->vs.length=ds.length
  | [],_,h=>by rw[show _=[] from h];rfl
  |d::ds,_,h=>by
    obtain⟨v,r,e,_,q⟩:=h;subst e
    simp[g8.len q]
def Cr (n:Nat)(fs:EA):Prop:=∀env M ds M',fs env M=some (.v ds,M')->ds.length=n
theorem cnt_nil:Cr 0 aq:=fun env M ds M' e=>by cases e;rfl
def cnt_cons (h:Cr n fs):Cr (n + 1) (au f fs):=fun env M ds M' e=>by
 unfold au at e;split at e
 ·split at e
  ·rename_i ef;cases e;rw[xal,h _ _ _ _ ef]
  ·cases e
  ·cases e
 ·cases e
 ·cases e
def fD {k n:Nat}{f:Str}{g:G}{e:Expr}{es:List Expr}{fs:EA}{p pos:Pos}(a:aR X.prog X.w X.K X.mg X.base k f n g)(hr:Room k X.A)(hg:Gl X f)(ha:SA X Wx .val (e::es) fs)(hn:Cr n fs)(hdb:(f==("__debug__":Str))=false:=by x_go)
  (he:starEach (e::es) X.env=(false,eval e X.env)::starEach es X.env:=by rfl) (hpl:(backTo pos (starEach es X.env)).any (·.1)=false:=by rfl):SE X Wx m (.Call (.Name f p) (e::es) [] pos) (fu g fs):=by
 obtain⟨fa,fd,ps,ds,dvs,sp,hm,hk,F,hb,hv,himp⟩:=a;refine gC (zeq F hr hg hm hk hb hv YD ha hdb he hpl) ?_;rintro st H Q ⟨P0,H0,P,Os,env,M,r,M',k,e,q⟩;unfold fu at e;rcases zK e with⟨ds,M1,e1,e⟩ |⟨c,n,e1,rfl⟩
 ·split at e
  ·rename_i d M2 eg;cases e;exact⟨P0,H0,P,Os,env,M,_,_,k,e1,fun P1 vs H1 l1 h1 i1=>himp _ _ _ _ ⟨by rw[i1.len];exact hn _ _ _ _ e1,P1,M1,ds,d,_,h1,i1.iss,eg,fun P2 v H2 l2 h2 i2=>q P2 v H2 (l1.trans l2) h2 (gB.of h2 i2)⟩⟩
  ·cases e
 ·exact⟨P0,H0,P,Os,env,M,_,_,k,e1,q⟩
end
def DX (i j:Int):Prop:=yu i j\/(i.natAbs.log2<10000/\j.natAbs.log2<10000)
def Vg (h:i.natAbs.log2<10000):Builtin.Int.intBits i<=10001:=by
 unfold Builtin.Int.intBits
 split<;>omega
theorem DX.ok (h:DX i j):IntMulOk i j:=by
 rcases h with h |⟨h1,h2⟩
 ·exact h.ok
 ·exact mulOk_of_bits (Vg h1) (Vg h2) (by decide)
def nY:fU X (binaryOp .Mult) (rI DX fun i j=>.int (i * j)):=Kg fun _ _ _ _ _ _ _ hc q=>mul_int q hc.ok
section
variable {X:Cx}{pins:Pnx}{σ:L2.St}{H:Hp}{s:Shared}{K:Fgx}
noncomputable def Y7 (K:Fgx):R2:=fun x y H Q=>∃l b xs zs,x=.ref l/\y=.ref b/\fW K H l xs/\fW K H b zs/\xs.length + zs.length<=sizeLine/\∀p,H p=none->Q (.ref p) (upd H p (.lst (xs ++ zs)))
def Yz:fU X (binaryOp .Add) (Y7 X.K):=by
 intro pins s σ H x y v u Q I rx ry h;obtain⟨l,b,xs,zs,rfl,rfl,hH,hB,hz,q⟩:=h;cases rx;cases ry;obtain⟨z,its,r,⟨cls,dd,data,sl⟩,ho,hc,n,hd⟩:=sql I hH;obtain⟨z2,its2,r2,⟨cls2,dd2,data2,sl2⟩,ho2,hc2,n2,hd2⟩:=sql I hB;simp only at hc hd hc2 hd2;subst hc hd hc2 hd2;have hl:=r.length;have hl2:=r2.length;refine concat_meets ⟨_,ho,rfl⟩ ⟨_,ho2,rfl⟩ noFill_list_add seq_list_add F.slot_list_add F.entry_list_add (F.args_list_add_2 _ _) (list_addW l b its.toArray its2.toArray n n2 dd dd2 sl sl2 (by rw[xai,xai];omega)) ⟨ho,ho2,?_⟩;have ea:its.toArray ++ its2.toArray=(its ++ its2).toArray:=by simp
 rw[ea];exact⟨.ref _,_,I.lnew (t':=s.toks) (r.append r2) (by rw[xam];omega),rfl,q _ I.fresh⟩
def Yo {P:Pl}{H:Hp}{ds:List D}{vs:List V}{Q:VK}(hn:∀p,H p=none->¬ P.bd p)(h:aH K P H ds vs)(q:∀u H',Same H H'->Is K P H' (.lst ds) u->Q u H'):∀p,H p=none->Q (.ref p) (upd H p (.lst vs)):=fun p hp=>by
 have s:=yg (o:=.lst vs) hp;exact q _ _ s ⟨p,vs,rfl,.inl ⟨hn p hp,.inl gq⟩,aH.lt ⟨xad _,fun _ _=>rfl,fun _ z=>.inl z,fun a o e _=>s a o e,fun a z=>s.free z⟩ h⟩
def QC {P:Pl}{H:Hp}{ds:List D}{vs:List V}{Q:VK}(h:aH K P H ds vs)(q:∀u H',Same H H'->Is K P H' (.tup ds) u->Q u H'):∀p,H p=none->Q (.ref p) (upd H p (.tup vs)):=fun p hp=>by
 have s:=yg (o:=.tup vs) hp;exact q _ _ s ⟨p,vs,rfl,.inl (.inl gq),aH.lt ⟨xad _,fun _ _=>rfl,fun _ z=>.inl z,fun a o e _=>s a o e,fun a z=>s.free z⟩ h⟩
noncomputable def aN:D->D->Option D
 |.int i,.int j=>some (.int (i + j))
 |.str i,.str j=>if i.length + j.length<=sizeLine then some (.str (i ++ j)) else none
 |.lst xs,.lst ys=>if xs.length + ys.length<=sizeLine then some (.lst (xs ++ ys)) else none
 |_,_=>none
noncomputable def Bt (K:Fgx):R2:=fun x y H Q=>tK (fun i j=>.int (i + j)) x y H Q\/(∃i j,x=.str i/\y=.str j/\i.length + j.length<=sizeLine/\Q (.str (i ++ j)) H)\/Y7 K x y H Q
def eX:fU X (binaryOp .Add) (Bt X.K):=zg0.or (zbL.or Yz)
def eY:sH K (Bt K) aN:=fun P H d e z v w Q h h1 h2 hn q=>by
 unfold aN at h;split at h
 ·cases h;cases h1;cases h2;exact .inl ⟨_,_,rfl,rfl,q _ H (Same.refl H) rfl⟩
 ·split at h
  ·rename_i hl;cases h;cases h1;cases h2;exact .inr (.inl ⟨_,_,rfl,rfl,hl,q _ H (Same.refl H) rfl⟩)
  ·cases h
 ·split at h
  ·rename_i hl;cases h;obtain⟨a,vs,rfl,r1,s1⟩:=h1;obtain⟨b,ws,rfl,r2,s2⟩:=h2;exact .inr (.inr ⟨a,b,vs,ws,rfl,rfl,r1,r2,by rw[s1.len,s2.len];exact hl,Yo hn (s1.append s2) q⟩)
  ·cases h
 ·cases h
noncomputable def oI (g:Int->Int->Option D):D->D->Option D
 |.int i,.int j=>g i j
 |_,_=>none
def G3 (h:oI g d e=some z)(h1:gA K P H d v)(h2:gA K P H e w):∃i j,v=.int i/\w=.int j/\g i j=some z:=by
 unfold oI at h;split at h
 ·cases h1;cases h2;exact⟨_,_,rfl,rfl,h⟩
 ·cases h
def lH:=oI fun i j=>some (.int (i - j))
def xY:sH K (tK fun i j=>.int (i - j)) lH:=fun P H d e z v w Q h h1 h2 _ q=>by
 obtain⟨i,j,rfl,rfl,h⟩:=G3 h h1 h2;cases h;exact⟨i,j,rfl,rfl,q _ H (Same.refl H) rfl⟩
noncomputable def fY:=oI fun i j=>if i.natAbs<18446744073709551616\/j.natAbs<18446744073709551616\/(i.natAbs.log2<10000/\j.natAbs.log2<10000) then some (.int (i * j)) else none
def nZ:sH K (rI DX fun i j=>.int (i * j)) fY:=fun P H d e z v w Q h h1 h2 _ q=>by
 obtain⟨i,j,rfl,rfl,h⟩:=G3 h h1 h2;split at h
 ·rename_i hg;cases h;exact⟨i,j,rfl,rfl,by unfold DX yu;rw[show(2:Int) ^ 64=18446744073709551616 from rfl];exact hg.elim (fun z=>.inl (.inl ⟨by omega,by omega⟩)) (fun z=>z.elim (fun z=>.inl (.inr ⟨by omega,by omega⟩)) .inr),q _ H (Same.refl H) rfl⟩
 ·cases h
def lR:=oI fun i j=>if 0<j/\j.natAbs<1073741824 then some (.int (i / j)) else none
def nA:sH K (rI DW fun i j=>.int (i / j)) lR:=fun P H d e z v w Q h h1 h2 _ q=>by
 obtain⟨i,j,rfl,rfl,h⟩:=G3 h h1 h2;split at h
 ·rename_i hg;cases h;exact⟨i,j,rfl,rfl,⟨hg.1,by omega⟩,q _ H (Same.refl H) rfl⟩
 ·cases h
def oMod:=oI fun i j=>if 0<j then some (.int (i % j)) else none
def fO:sH K (rI (fun _ j=>0<j) fun i j=>.int (i % j)) oMod:=fun P H d e z v w Q h h1 h2 _ q=>by
 obtain⟨i,j,rfl,rfl,h⟩:=G3 h h1 h2;split at h
 ·rename_i hg;cases h;exact⟨i,j,rfl,rfl,hg,q _ H (Same.refl H) rfl⟩
 ·cases h
noncomputable def pI:=oI fun i j=>if 0<=j/\j.natAbs<=1000000/\i.natAbs<18446744073709551616 then some (.int (i ^ j.toNat)) else none
def Dk:sH K (rI Aa fun i j=>.int (i ^ j.toNat)) pI:=fun P H d e z v w Q h h1 h2 _ q=>by
 obtain⟨i,j,rfl,rfl,h⟩:=G3 h h1 h2;split at h
 ·rename_i hg;cases h;exact⟨i,j,rfl,rfl,by unfold Aa;rw[show(2:Nat) ^ 64=18446744073709551616 from rfl];exact⟨hg.1,by omega,hg.2.2⟩,q _ H (Same.refl H) rfl⟩
 ·cases h
def aF (c:Cp)(a b:D):Option D:=(fV c a b).map .bl
def Br:sH K (Hh K c) (aF c):=fun P H d e z v w Q h h1 h2 _ q=>by
 unfold aF at h;rw[xae]at h;obtain⟨b,h,rfl⟩:=h;exact Js h h1 h2 (q _ H (Same.refl H) rfl)
noncomputable def aO:D->D->Option D
 |.lst ds,.int i=>eG ds i
 |.tup ds,.int i=>eG ds i
 |.str z,.int i=>if z.length<=sizeLine then(eG z.cps.toList i).map fun c=>.str ⟨#[c]⟩ else none
 |_,_=>none
def Rz (K:Fgx):R2:=fun x y H Q=>Bu K x y H Q\/Bw K x y H Q\/Bv x y H Q
def ziH:xH X (Rz X.K):=zfL.or (zh0.or zgT)
def Vb (h:eG ds i=some d)(q:aH K P H ds vs):∃u,eG vs i=some u/\Is K P H d u:=by
 unfold eG at h ⊢;rw[q.len]
 cases e:sS ds.length i with
 |none=>rw[e]at h;cases h
 |some j=>rw[e]at h;exact q.get h
def zi3:sH K (Rz K) aO:=fun P H d e z v w Q h h1 h2 _ q=>by
 unfold aO at h;split at h
 ·obtain⟨a,vs,rfl,r,s⟩:=h1;cases h2;obtain⟨u,e,p⟩:=Vb h s;exact .inl ⟨a,vs,_,u,rfl,rfl,r,e,q _ H (Same.refl H) p⟩
 ·obtain⟨a,vs,rfl,r,s⟩:=h1;cases h2;obtain⟨u,e,p⟩:=Vb h s;exact .inr (.inl ⟨a,vs,_,u,rfl,rfl,r,e,q _ H (Same.refl H) p⟩)
 ·split at h
  ·rename_i hl;rw[xae]at h;obtain⟨c,h,e⟩:=h;cases e;cases h1;cases h2;exact .inr (.inr ⟨_,_,c,rfl,rfl,hl,h,q _ H (Same.refl H) rfl⟩)
  ·cases h
 ·cases h
noncomputable def eU:List D->Option D
 | [.lst ds]=>some (.int ds.length)
 | [.tup ds]=>some (.int ds.length)
 | [.str z]=>if z.length<=sizeLine then some (.int z.length) else none
 |_=>none
def Hi (K:Fgx):List V->Hp->VK->Prop:=fun xs H Q=>(∃p ys,xs=[.ref p]/\(fW K H p ys\/g_ K H p ys)/\Q (.int ys.length) H)\/∃z,xs=[.str z]/\z.length<=sizeLine/\Q (.int z.length) H
def kO:lW X (.builtin "len") (Hi X.K):=za6.or za9
def k_:xJ K (Hi K) eU:=fun P H ds z vs Q h i _ q=>by
 unfold eU at h;split at h
 ·obtain⟨v,ws,rfl,p,rfl⟩:=i;cases h;obtain⟨a,us,rfl,r,s⟩:=p;exact .inl ⟨a,us,rfl,.inl r,q _ H (Same.refl H) (by rw[s.len];rfl)⟩
 ·obtain⟨v,ws,rfl,p,rfl⟩:=i;cases h;obtain⟨a,us,rfl,r,s⟩:=p;exact .inl ⟨a,us,rfl,.inr r,q _ H (Same.refl H) (by rw[s.len];rfl)⟩
 ·split at h
  ·rename_i hl;obtain⟨v,ws,rfl,p,rfl⟩:=i;cases h;cases p;exact .inr ⟨_,rfl,hl,q _ H (Same.refl H) rfl⟩
  ·cases h
 ·cases h
noncomputable def yE:List D->Option D
 | [.int i,.int j]=>some (.int (if j<i then j else i))
 |_=>none
def zfT:xJ K (fun xs H Q=>∃i j,xs=[.int i,.int j]/\Q (.int (if j<i then j else i)) H) yE:=fun P H ds z vs Q h i _ q=>by
 unfold yE at h;split at h
 ·obtain⟨v,ws,rfl,p,v',ws',rfl,p',rfl⟩:=i;cases h;cases p;cases p';exact⟨_,_,rfl,q _ H (Same.refl H) rfl⟩
 ·cases h
end
section
variable {X:Cx}{Wx:XW}{m:Mode}
noncomputable def Il:D->String
 |.non=>"NoneType"
 |.bl _=>"bool"
 |.int _=>"int"
 |.str _=>"str"
 |.tup _=>"tuple"
 |.lst _=>"list"
 |.ref _=>""
def zb5:lW X (.builtin "isinstance") (fun xs H Q=>∃(x:V) (T:String) (d:D) (P:Pl) (b:Bool),xs=[x,.ty T]/\gA X.K P H d x/\Il d≠""/\PySem.W.kitOne X.K (.type (Il d)) (.type T)=some b/\Q (.bl b) H):=by
  intro pins s σ H xs us Q I r h;obtain⟨x,T,d,A,b,rfl,i,ne,e,q⟩:=h;obtain⟨u,w',rfl,rx,rT⟩:=vals2 r;cases rT;have fin:∀tk,EP X pins σ Q (.bool b) {s with toks:=tk}:=fun tk=>⟨.bl b,H,I.tok _,rfl,q⟩
  cases d with
  |non=>have hv:x=.non:=i;subst hv;exact JK I rx (TyOf.non) e fin
  |bl y=>have hv:x=.bl y:=i;subst hv;exact JK I rx (TyOf.bl y) e fin
  |int y=>have hv:x=.int y:=i;subst hv;exact JK I rx (TyOf.int y) e fin
  |str y=>have hv:x=.str y:=i;subst hv;exact JK I rx (TyOf.str y) e fin
  |ref n=>exact absurd rfl ne
  |tup ds=>
    obtain⟨a,vs,rfl,t,_⟩:=i;cases rx;obtain⟨its,_,p,_⟩:=I.tuple t;obtain⟨o,h1,h2,_⟩:=p;exact xa5 xeA I.kIn ⟨o,h1,h2⟩ e (fun z=>nomatch z) fin
  |lst ds=>
    obtain⟨a,vs,rfl,t,_⟩:=i;cases rx;obtain⟨_,its,_,o,h1,h2,_⟩:=sql I t;exact xa5 xdG I.kIn ⟨o,h1,h2⟩ e (fun z=>nomatch z) fin
theorem zc1 {K:Fgx}{P:Pl}{H:Hp}{lo:Int}{n:Nat}:Wk K P H (IV lo n) ((List.range n).map fun(k:Nat)=>.int (lo + k)):=fun P' H' l=>by
 rw[xap,xcq];refine⟨fun k hk=>hk,fun k h1 _=>h1,fun k x H2 y hk=>⟨y.1,.int (lo + k),?_,y.2⟩⟩;rw[xax,xdl hk];rfl
noncomputable def yK (fs:EA):EA:=fun env M=>match fs env M with
 |some (.v [.int j],M1)=>if -1000000000<=j/\j<=1000000000 then some (.v ((List.range j.toNat).map fun(k:Nat)=>.int (0 + k)),M1) else none
 |some (.x c n,M1)=>some (.x c n,M1)
 |_=>none
def LC (hg:Gl X "range")(hm:X.mg "range"=none)(ha:SA X Wx .val [a] fs)(hs:starEach [a] X.env=[(false,eval a X.env)]:=by rfl):SI X Wx tg (.Call (.Name "range" p) [a] [] pos) (yK fs):=by
 refine G9 (zb7 hg hm ha hs) ?_;rintro st H R ⟨P0,H0,P,Os,env,M,r,M',k,e,q⟩;unfold yK at e;split at e
 ·rename_i j M1 ef;split at e
  ·rename_i hj;cases e;refine⟨P0,H0,P,Os,env,M,_,_,k,ef,fun P1 vs H1 l1 h1 i1=>?_⟩;obtain⟨v,ws,rfl,p,rfl⟩:=i1;exact⟨j,by rw[show v=.int j from p],by omega,by omega,q P1 H1 _ l1 h1 zc1⟩
  ·cases e
 ·rename_i c n M1 ef;cases e;exact⟨P0,H0,P,Os,env,M,_,_,k,ef,q⟩
 ·cases e
def t_:Env->Mm->Option (Option Int×Mm):=fun _ M=>some (none,M)
noncomputable def nJ (f:E):Env->Mm->Option (Option Int×Mm):=fun env M=>match f env M with
 |some (.v (.int i),M1)=>some (some i,M1)
 |_=>none
noncomputable def tP (K:Fgx) (mg:Mgx) (f:Env->Mm->Option (Option Int×Mm)):TO:=fun st H Q=>∃P0 H0 P Os env M i M',Ok K mg P0 H0 P Os H M st env/\f env M=some (i,M')/\∀P' H',LtE P H P' H'->Hk K mg P' H' M'->Q i H'
def Cw (X:Cx)(e:Option Expr)(f:Env->Mm->Option (Option Int×Mm)):Prop:=PO X e (tP X.K X.mg f)
def YQ (h:PO X e t)(w:∀σ H Q,t' σ H Q->t σ H Q):PO X e t':=fun pins s σ H Q I hw=>h pins s σ H Q I (w σ H Q hw)
def w6:Cw X none t_:=by
 refine YQ zfC ?_;rintro st H Q ⟨P0,H0,P,Os,env,M,i,M',k,e,q⟩;cases e;exact q P H (LtE.refl P H) k.hk
def pR (h:SE X Wx .val e f):Cw X (some e) (nJ f):=by
 refine YQ (zeX h) ?_;rintro st H Q ⟨P0,H0,P,Os,env,M,i,M',k,e,q⟩;unfold nJ at e;split at e
 ·rename_i j M1 ef;cases e;exact⟨P0,H0,P,Os,env,M,_,_,k,ef,fun P1 v H1 l1 h1 i1=>⟨j,i1,q P1 H1 l1 h1⟩⟩
 ·cases e
noncomputable def gO {α:Type} (xs:List α) (lo hi:Option Int):List α:=(xs.drop (HT.fj xs.length 0 lo)).take (HT.fj xs.length xs.length hi - HT.fj xs.length 0 lo)
def VD {K:Fgx}{P:Pl}{H:Hp}{ds:List D}{vs:List V}{lo hi:Option Int}(q:aH K P H ds vs):aH K P H (gO ds lo hi) (pC vs lo hi):=by
 unfold gO pC;rw[q.len];exact(q.drop _).take _
noncomputable def Dt (d:D) (lo hi:Option Int):Option D:=match d with
 |.lst ds=>some (.lst (gO ds lo hi))
 |.str z=>if z.length<=sizeLine then some (.str (Txt.slice z lo hi)) else none
 |_=>none
noncomputable def su (f:E) (l h:Env->Mm->Option (Option Int×Mm)):E:=fun env M=>bnd (f env M) fun d M1=>match l env M1 with
  | some (lo, M2) => (match h env M2 with
    |some (hi,M3)=>(Dt (vw M3 d) lo hi).map fun z=>(.v z,M3)
    |none=>none)
  |none=>none
def vf {e:Expr}{lo hi:Option Expr}{p2 pos:Pos}{f:E}{l h:Env->Mm->Option (Option Int×Mm)}(he:SE X Wx .bor e f)(hl:Cw X lo l)(hh:Cw X hi h):SE X Wx m (.Subscript e (.Slice lo hi none p2) pos) (su f l h):=by
 refine gC (YK (zeF.or zfY) he hl hh) ?_;rintro st H Q ⟨P0,H0,P,Os,env,M,r,M',k,e,q⟩;unfold su at e;rcases gD e with⟨d,M1,e1,e⟩ |⟨c,n,e1,rfl⟩
 ·split at e
  ·rename_i lo' M2 el;split at e
   ·rename_i hi' M3 eh;rw[xae]at e;obtain⟨z,ez,e⟩:=e;cases e;refine aV k e1 fun P1 v1 H1 l1 h1 i1=>⟨P0,H0,P1,Os,env,M1,_,_,k.next l1 h1,el,fun P2 H2 l2 h2=>⟨P0,H0,P2,Os,env,M2,_,_,(k.next l1 h1).next l2 h2,eh,fun P3 H3 l3 h3=>?_⟩⟩
    have i3:=gK.vw h3 (gK.lt l3 h2 (gK.lt l2 h1 i1));have fin:∀u H',Same H3 H'->Is X.K P3 H' z u->Q u H':=fun u H' s i=>q P3 u H' (l1.trans (l2.trans (l3.trans (LtE.same s)))) (h3.same s) (gB.of (h3.same s) i);generalize vw M' d=d' at i3 ez;unfold Dt at ez;split at ez
    ·cases ez;obtain⟨a,vs,rfl,r,s⟩:=i3;exact .inl ⟨a,vs,rfl,r,Yo h3.new (VD s) fin⟩
    ·split at ez
     ·rename_i hz;cases ez;cases i3;exact .inr ⟨_,rfl,hz,fin _ _ (Same.refl _) rfl⟩
     ·cases ez
    ·cases ez
   ·cases e
  ·cases e
 ·exact aV k e1 q
noncomputable def yc (f:E):E:=fun env M=>bnd (f env M) fun d M1=>match d with
 |.lst ds=>some (.v (.ref M1.length),M1 ++ [.lst ds])
 |_=>none
def BR (h:SN X Wx e f):SE X Wx m e (yc f):=by
  refine gC h ?_;rintro st H Q ⟨P0,H0,P,Os,env,M,r,M',k,e,q⟩;unfold yc at e;rcases gD e with⟨d,M1,e1,e⟩ |⟨c,n,e1,rfl⟩
  · cases d<;>simp only[reduceCtorEq]at e
    rename_i ds;cases e;refine⟨P0,H0,P,Os,env,M,_,_,k,e1,ds,rfl,fun P1 a vs H1 l1 h1 ha ba nc ea is=>?_⟩;have hn:P1.n=M1.length:=h1.n
    let P2:Pl:={io:=fun j=>if j=P1.n then a else P1.io j,n:=P1.n + 1,bd:=P1.bd}
    have io : ∀ j, j < P1.n -> P2.io j = P1.io j := fun j hj => xab (by omega);have ioN : P2.io P1.n = a := tG rfl;have l2 : Lt P1 H1 P2 H1 := ⟨xcC _, io, fun _ z => .inl z, fun _ _ e _ => e, fun _ z => z⟩;have le : LtE P H P2 H1 := ⟨xcr l1.n,fun j hj=>(io j (xao hj l1.n)).trans (l1.io j hj),l1.bd,l1.bm,l1.keep,l1.sure,fun j h2 h3=>by
      rcases xaS j P1.n with z |z
      · rw[io j z];exact l1.nw j h2 z
      · have:j=P1.n:=xaM (xaI h3) z;rw[this,ioN];exact ha⟩
    have hk2:Hk X.K X.mg P2 H1 (M1 ++ [.lst ds]):=by
      refine⟨by rw[xam, <-hn];rfl,fun j c ej=>?_,fun i j hi hj e=>?_,fun j hj=>?_,h1.here⟩
      · rcases xaS j P1.n with z |z
        · rw[xa0 (by rw[<-hn];exact z)]at ej;rw[io j z];exact(h1.cell j c ej).lt l2 fun _ z=>z
        · have jl:=(xag.mp ej).1;rw[xam,xaE, <-hn]at jl;have:j=P1.n:=by omega
          subst this;rw[xa4 (by rw[hn];exact xad _),hn,xbN]at ej;cases ej;rw[ioN];exact⟨vs,ea,aH.lt l2 is⟩
      · rcases xaS i P1.n with z |z
        · rcases xaS j P1.n with y |y
          · rw[io i z,io j y]at e;exact h1.inj i j z y e
          · have:j=P1.n:=xaM (xaI hj) y;rw[io i z,this,ioN]at e;exact absurd e (nc i z)
        · have iN:i=P1.n:=xaM (xaI hi) z;rcases xaS j P1.n with y |y
          · rw[iN,ioN,io j y]at e;exact absurd e.symm (nc j y)
          · rw[iN];exact xaM y (xaI hj)
      · rcases xaS j P1.n with z |z
        · rw[io j z];exact h1.bd j z
        · have:j=P1.n:=xaM (xaI hj) z;rw[this,ioN];exact ba
    exact q P2 _ H1 le hk2 (gB.of hk2 (show Is _ _ _ (.ref _) _ from⟨by show _<P1.n + 1;rw[hn];exact xbP _,by rw[<-hn,ioN]⟩))
  · exact⟨P0,H0,P,Os,env,M,_,_,k,e1,q⟩
noncomputable def Bx (f g:E):S:=fun env M=>fP (f env M) fun d M1=>match d with
  | .ref j => (match M1[j]? with
    | some (.lst _) => fP (g env M1) fun y M2 => (match M2[j]? with
      |some (.lst ds)=>if ds.length<sizeLine then some (.nx env,M2.set j (.lst (ds ++ [y]))) else none
      |_=>none)
    |_=>none)
  |_=>none
def LR (ho:SE X Wx .val o f)(he:SE X Wx .val e g)(hbase:attributeBase o "append" X.env (eval o X.env)=eval o X.env:=by rfl)
  (hfew:((backTo q (starEach [e] X.env)).all (fun x=> !x.1) && (backToKw q (keywordEach [] X.env)).all (fun x=>x.1.isSome) && decide ([e].length + ([]:List Keyword).length + (if ([]:List Keyword).isEmpty then 0 else 1)<30))=true:=by rfl)
  (hline:(p.endLine==q.line)=true:=by rfl) (hs:starEach [e] X.env=(false,eval e X.env)::starEach [] X.env:=by rfl) (hw:swapsWith (.Call (.Attribute o "append" p) [e] [] q) none pos.line X.env=pure false:=by rfl):
  SS X Wx (.Expr (.Call (.Attribute o "append" p) [e] [] q) pos) (Bx f g):=by
 refine nu (Dj (Kl xcQ xd0 xd1 Qu ho (q_ he wU hs) hbase hfew hline hs rfl) hw) ?_;rintro D st H ⟨P0,H0,P,Os,env,M,out,M',k,e,q⟩;unfold Bx at e;rcases mZ e with⟨d,M1,e1,e⟩ |⟨c,n,e1,rfl⟩
 ·cases d<;>simp only[reduceCtorEq]at e
  rename_i j;split at e
  rotate_left
  ·cases e
  rename_i ds0 em0;refine⟨P0,H0,P,Os,env,M,_,_,k,e1,fun P1 v1 H1 l1 h1 i1=>?_⟩;have k1:=k.next l1 h1
  obtain⟨jl,rfl⟩:j<P1.n/\v1=.ref (P1.io j):=i1;obtain⟨vs0,ev0,_⟩:=h1.cell j _ em0;refine⟨.inl ⟨rfl,vs0,.inl (.inl ev0)⟩,?_⟩;rcases mZ e with⟨y,M2,e2,e⟩ |⟨c,n,e2,rfl⟩
  ·split at e
   ·rename_i ds em;split at e
    ·rename_i hz;cases e;refine aV k1 e2 fun P2 v2 H2 l2 h2 i2=>?_;obtain⟨vs,ev,is⟩:=h2.cell j _ em;rw[l2.io j jl]at ev;have i3:=Is.lt (Lt.refl P2 H2) i2;refine⟨P1.io j,vs,v2,rfl,rfl,ev,by rw[is.len];exact hz,?_⟩;have eio:P2.io j=P1.io j:=l2.io j jl;have jl2:j<P2.n:=xao jl l2.n;obtain⟨o0,eo0,nf0⟩:=h2.cellAt em;have lc:Lt P2 H2 P2 (upd H2 (P2.io j) (.lst (vs ++ [v2]))):=yR (h2.bd j jl2) eo0 nf0;obtain⟨l3,l3e,h3⟩:=h2.set (c':=.lst (ds ++ [y])) (o':=.lst (vs ++ [v2])) em ⟨vs ++ [v2],gq,aH.append (aH.lt lc is) (aH.one (Is.lt lc i2))⟩;rw[eio]at l3 l3e h3;exact q _ _ _ _ ((l1.lt k.hk).trans ((l2.lt h1).trans l3)) ((k1.next l2 h2).next l3e h3)
    ·cases e
   ·cases e
  ·exact aV k1 e2 q
 ·exact⟨P0,H0,P,Os,env,M,_,_,k,e1,q⟩
end
section
variable {X:Cx}{Wx:XW}{m:Mode}{pos:Pos}
noncomputable def yS:D->Option D
 |.int i=>some (.int (-i))
 |_=>none
def ziu {K:Fgx}:M9 K (rU fun i=>.int (-i)) yS:=fun P H d z v Q h i _ q=>by
 unfold yS at h;split at h
 ·cases h;cases i;exact⟨_,rfl,q _ H (Same.refl H) rfl⟩
 ·cases h
def zkA (ho:I_ X (unaryOp op) r)(po:M9 X.K r o)(ha:SE X Wx .bor a f):SE X Wx m (.UnaryOp op a pos) (s1 o f):=
 gC (zi4 ho ha) fun _ _ _ h=>zka po h
noncomputable def lU (c c':Cp) (f g h:E):E:=fun env M=>bnd (f env M) fun x M1=>bnd (g env M1) fun y M2=>match fV c (vw M2 x) (vw M2 y) with
 |some true=>bnd (h env M2) fun z M3=>(fV c' (vw M3 y) (vw M3 z)).map fun b=>(.v (.bl b),M3)
 |some false=>some (.v (.bl false),M2)
 |none=>none
def Vr {c c':Cp}{f g h:E}{st:L2.St}{H:Hp}{Q:VK}(w:tE X.K X.mg Wx m (lU c c' f g h) st H Q):Ti (Hh X.K c) (Hh X.K c') (tE X.K X.mg Wx .bor f) (tE X.K X.mg Wx .bor g) (tE X.K X.mg Wx .bor h) st H Q:=by
  obtain⟨P0,H0,P,Os,env,M,rr,M',k,e,q⟩:=w;unfold lU at e;rcases gD e with⟨x,M1,e1,e⟩ |⟨c,n,e1,rfl⟩
  · refine aV k e1 fun P1 v1 H1 l1 h1 i1=>?_;have k1:=k.next l1 h1
    rcases gD e with⟨y,M2,e2,e⟩ |⟨c,n,e2,rfl⟩
    · refine aV k1 e2 fun P2 v2 H2 l2 h2 i2=>?_;have k2:=k1.next l2 h2
      have w1:=gK.vw h2 (gK.lt l2 h1 i1);have w2:=gK.vw h2 i2;split at e
      · rename_i ec;refine Js ec w1 w2 ⟨true,rfl,?_⟩;rw[tG rfl];rcases gD e with⟨z,M3,e3,e⟩ |⟨c,n,e3,rfl⟩
        · refine aV k2 e3 fun P3 v3 H3 l3 h3 i3=>?_;rw[xae]at e;obtain⟨b,eb,e⟩:=e;cases e;exact Js eb (gK.vw h3 (gK.lt l3 h2 i2)) (gK.vw h3 i3) (q P3 _ H3 (l1.trans (l2.trans l3)) h3 (gB.of h3 (show Is _ _ _ (.bl b) _ from rfl)))
        · exact aV k2 e3 q
      · rename_i ec;cases e;refine Js ec w1 w2 ⟨false,rfl,?_⟩;rw[xab (by decide)];exact q P2 _ H2 (l1.trans l2) h2 (gB.of h2 (show Is _ _ _ (.bl false) _ from rfl))
      · cases e
    · exact aV k1 e2 q
  · exact aV k e1 q
def zhk (hu:X.A.units + 60<cLine)(ha:SE X Wx .bor a f)(hb:SE X Wx .bor b g)(hc:SE X Wx .bor c h)(hm:lastMarks [wI c1,wI c2] [b,c]=false:=by with_unfolding_all rfl):SE X Wx m (.Compare a [wI c1,wI c2] [b,c] pos) (lU c1 c2 f g h):=
 gC (zdJ (wJ hu c1) (wJ hu c2) ha hb hc hm) fun _ _ _ w=>Vr w
def ziQ (hu:X.A.units + 60<cLine)(ha:SE X Wx .bor a f)(hb:SE X Wx .bor b g)(hc:SE X Wx .bor c h)(hm:lastMarks [wI c1,wI c2] [b,c]=false:=by with_unfolding_all rfl):ST X Wx (.Compare a [wI c1,wI c2] [b,c] pos) (lU c1 c2 f g h):=
 Bq (zc4 (wJ hu c1) (wJ hu c2) ha hb hc hm) fun _ _ _ w=>Vr (Ij w)
noncomputable def BL (f:E):E:=fun env M=>bnd (f env M) fun d M1=>match vw M1 d with
 |.lst ds=>some (.v (.lst ds),M1)
 |.tup ds=>some (.v (.lst ds),M1)
 |_=>none
def zcv (hg:Gl X "list")(hm:X.mg "list"=none)(he:SE X Wx .bor e f)(hs:starEach [e] X.env=(false,eval e X.env)::starEach [] X.env:=by rfl):SN X Wx (.Call (.Name "list" p) [e] [] pos) (BL f):=by
 refine gC (YH zbi hg hm boot_list (q_ he wU hs) (by x_go) (by x_go) hs rfl) ?_;rintro st H Q ⟨P0,H0,P,Os,env,M,r,M',k,e,q⟩;unfold BL at e;rcases gD e with⟨d,M1,e1,e⟩ |⟨c,n,e1,rfl⟩
 ·refine aV k e1 ?_;have key:∀ds,r=.v (.lst ds)->M'=M1->(∀P1 v1 H1,gA X.K P1 H1 (vw M1 d) v1->∃a vs,v1=.ref a/\(fW X.K H1 a vs\/g_ X.K H1 a vs)/\aH X.K P1 H1 ds vs)->∀P1 v1 H1,LtE P H P1 H1->Hk X.K X.mg P1 H1 M1->gB X.K P1 H1 .bor d v1->
    ∃p ys,[v1]=[V.ref p]/\(fW X.K H1 p ys\/g_ X.K H1 p ys)/\∀l,H1 l=none->Q (.ref l) (upd H1 l (.lst ys)):=by
   rintro ds rfl rfl hv P1 v1 H1 l1 h1 i1;obtain⟨ds',e',q⟩:=q;cases e';obtain⟨a,vs,rfl,sq,is⟩:=hv P1 v1 H1 (gK.vw h1 i1);refine⟨a,vs,rfl,sq,fun p hp=>?_⟩;obtain⟨l2,h2,nc⟩:=Eu (vs:=vs) h1 hp;exact q (P1.bar p) p vs _ (l1.trans l2) h2 (l1.sure p hp) (.inr rfl) nc gq (aH.lt (l2.lt h1) is)
  split at e
  ·rename_i ds ev;cases e;exact key ds rfl rfl fun P1 v1 H1 i=>by
    rw[ev]at i;obtain⟨a,vs,e,s,is⟩:=i;exact⟨a,vs,e,.inl s,is⟩
  ·rename_i ds ev;cases e;exact key ds rfl rfl fun P1 v1 H1 i=>by
    rw[ev]at i;obtain⟨a,vs,e,s,is⟩:=i;exact⟨a,vs,e,.inr s,is⟩
  ·cases e
 ·exact aV k e1 q
def Xf:∀env M r M',BL f env M=some (.v r,M')->∃ds,r=.lst ds:=fun env M r M' e=>by
 unfold BL at e;rcases gD e with⟨ds,M1,e1,e⟩ |⟨c,n,e1,e⟩
 ·split at e
  ·cases e;exact⟨_,rfl⟩
  ·cases e;exact⟨_,rfl⟩
  ·cases e
 ·cases e
end
def HY (K:Fgx)(g:G):Sp:=fun vs H Q E=>∀mg,zm K mg 1 g vs H Q E
def zhU {P:Program}{w:World}{K:Fgx}{mg:Mgx}{base:Heap}{k:Nat}{f:Addr}{fd:FuncData}{ps:List Str}{g:G}(F:FnOk P w K mg base nF k f fd ps (zm K mg 1 g)):FnOk P w K mg base nF k f fd ps (HY K g):=
 ⟨fun vs H Q E h=>F.len vs H Q E (h mg),fun A outer s H args us vs Q E hr he hb hv hs=>F.run A outer s H args us vs Q E hr he hb hv (hs mg)⟩
theorem WR {K:Fgx}{P:Pl}{H:Hp}:∀ns:List Int,aH K P H (ns.map D.int) (ns.map V.int)
 | []=>rfl
 |n::ns=>⟨.int n,_,rfl,rfl,WR ns⟩
def ziL {K:Fgx}{g:G}{H:Hp}{a:Addr}{ns:List Int}(hg:∃M,g [.lst (ns.map D.int)] []=some (.v (.bl true),M))(hS:fW K H a (ns.map V.int)):HY K g [.ref a] H (fun v _=>v=.bl true) fun _ _ _=>False:=by
 intro mg;obtain⟨M,e⟩:=hg;refine⟨rfl,⟨fun _=>0,0,fun _=>False⟩,[],[.lst (ns.map D.int)],.bl true,M,⟨rfl,fun k c e=>(by cases e),fun j k h=>absurd h (xck _),fun k h=>absurd h (xck _),fun a z=>z.elim⟩,⟨.ref a,[],rfl,⟨a,ns.map V.int,rfl,?_,WR ns⟩,rfl⟩,e,fun P' v H' _ _ i=>i⟩;rcases hS with h |h
 ·exact .inl ⟨fun z=>z,h⟩
 ·exact .inr h
def zeN {l:PySem.W.OpenLaw}{k:Nat}{q:Program}{loose:List Str}{XP:(Mgx)->Heap->Prop}{YP:World->Heap->Prop}{d:DefRec}{K:Params->Fgx}{x:Str}{g:G}
  (hn:l.most=some 63) (hdf:d.params.defaults=[]) (hr:Room k callerA) (hY:∀(w:World) (h:Heap),YP w h->(K w.params).In h)
  (F:∀(w:World) (mg:Mgx) (fa:Addr) (h:Heap),(K w.params).In h->h.Ns mainGlobals mg->mg d.name=some (.ref fa)->
   ∃fd:FuncData,(∀(s:Shared) (u:Value),BindsTo s fd ⟨[u],[]⟩ [(x,u)])/\
    ∀base:Heap,(K w.params).In base->base.Ns mainGlobals mg->FnOk l.prog w (K w.params) mg base nF k fa fd [x] (HY (K w.params) g))
  (hg:∀ns:List Int,ns.length<=63->∃M,g [.lst (ns.map D.int)] []=some (.v (.bl true),M)):PySem.W.WalkO q loose XP YP l.row.toRowW d [] (fun f vs=>PySem.call f vs):=
 L2.zdF (sp:=fun K=>HY K g) hn (by decide) hdf hr hY F (fun K H a ns hl _ hS=>ziL (hg ns hl) hS) fun _ _ _ _ z=>z
section
variable {X:Cx}{Wx:XW}{m:Mode}{e:Expr}
def pN (h:PE X e (tC (.int i))):SE X Wx m e (aj (.int i)):=(Ly (d:=.int i) h fun _ _=>rfl).bor
def vd (h:PE X e (tC (.str z))):SE X Wx m e (aj (.str z)):=(Ly (d:=.str z) h fun _ _=>rfl).bor
def Sq (h:PE X e (tC (.bl b))):SE X Wx m e (aj (.bl b)):=(Ly (d:=.bl b) h fun _ _=>rfl).bor
def BW (hN:X.N[i]? =some x)(hv:X.env.scope.names.lookup x=some .local)(hd:(x==("__debug__":Str))=false:=by x_go)(hcd:(x==("__classdict__":Str))=false:=by x_go):SE X Wx m (.Name x pos) (ak i):=(zd2 hN (.inl hv) hd hcd).bor
def Ds (hN:X.N[i]? =some x)(hv:X.env.scope.names.lookup x=some .local)(hd:(x==("__debug__":Str))=false:=by x_go)(hcd:(x==("__classdict__":Str))=false:=by x_go):SE X Wx .bor (.Name x pos) (yd i):=zfK hN (.inl hv) hd hcd
def SN.sem (h:SN X Wx e f)(hf:∀env M r M',f env M=some (.v r,M')->∃ds,r=.lst ds):SE X Wx m e f:=(SN.se h hf).bor
end
noncomputable def putD (f:Str) (d:D):List (Str×D)->List (Str×D)
 | []=>[(f,d)]
 |(g,x)::r=>if g=f then(g,d)::r else(g,x)::putD f d r
section
variable {K:Fgx}{mg:Mgx}{P:Pl}{H:Hp}{M:Mm}
def yw (K:Fgx)(P:Pl)(H:Hp)(fs:List (Str×D))(gs:List (Str×V)):Prop:=gs.map (·.1)=fs.map (·.1)/\aH K P H (fs.map (·.2)) (gs.map (·.2))
theorem Wh (i:Is K P H d v):∀{fs:List (Str×D)} {gs:List (Str×V)},yw K P H fs gs->yw K P H (putD f d fs) (fK f v gs)
  | [],[],_=>⟨rfl,v,[],rfl,i,rfl⟩
  | [],_::_,h=>by cases h.1
  |_::_,[],h=>by cases h.1
  |(g,x)::fs,(g',y)::gs,h=>by
    obtain⟨h1,v',r,e1,p,q⟩:=h;simp only[xak,xbV]at h1 e1;obtain⟨rfl,h1⟩:=h1;obtain⟨rfl,rfl⟩:=e1;unfold putD fK
    split
    · exact⟨by simp[h1],v,_,rfl,i,q⟩
    · obtain⟨a,b⟩:=Wh i (fs:=fs) (gs:=gs) ⟨h1,q⟩;exact⟨by simp[a],y,_,rfl,p,b⟩
def zio (h:yw K P H fs gs):gs.length=fs.length:=by
 have:=congrArg List.length h.1
 simpa using this
end
structure ClsOk (K:Fgx)(mg:Mgx)(c:Str)(C:Addr):Prop where
 mg:mg c=some (.ref C)
 cl:Cls K C
section
variable {X:Cx}{Wx:XW}{m:Mode}{pos:Pos}
noncomputable def G4 (M:Mm) (c:Str) (d:D):Option (Nat×List (Str×D)):=match d with
  | .ref k => (match M[k]? with
    |some (.obj c' fs)=>if c'=c then some (k,fs) else none
    |_=>none)
  |_=>none
def zcH (h:G4 M c d=some (k,fs)):d=.ref k/\M[k]? =some (.obj c fs):=by
 unfold G4 at h;split at h
 ·split at h
  ·split at h
   ·rename_i e1 e2;cases h;subst e2;exact⟨rfl,e1⟩
   ·cases h
  ·cases h
 ·cases h
noncomputable def Dn (c f:Str) (o v:E):S:=fun env M=>fP (v env M) fun y M1=>fP (o env M1) fun d M2=>match G4 M2 c d with
 |some (k,fs)=>if fs.length<1000 then some (.nx env,M2.set k (.obj c (putD f y fs))) else none
 |none=>none
def zeg {K:Fgx}{mg:Mgx}{P:Pl}{H:Hp}{M:Mm}{j:Nat}{c f:Str}{fs:List (Str×D)}{y:D}{v:V}{C dx:Addr}{gs:List (Str×V)}(h:Hk K mg P H M)(em:M[j]? =some (.obj c fs))(ec:mg c=some (.ref C))(eh:H (P.io j)=some (.ins C dx gs))(fo:yw K P H fs gs)(iv:Is K P H y v):
  Lt P H P (upd H (P.io j) (.ins C dx (fK f v gs)))/\LtE P H P (upd H (P.io j) (.ins C dx (fK f v gs)))/\Hk K mg P (upd H (P.io j) (.ins C dx (fK f v gs))) (M.set j (.obj c (putD f y fs))):=by
 have jl:j<P.n:=by rw[h.n];exact(xag.mp em).1
 have lc:Lt P H P (upd H (P.io j) (.ins C dx (fK f v gs))):=yR (h.bd j jl) eh zgA;have fp:=Wh (f:=f) iv fo;exact h.set (c':=.obj c (putD f y fs)) (o':=.ins C dx (fK f v gs)) em ⟨C,dx,fK f v gs,ec,gq,fp.1,aH.lt lc fp.2⟩
def zcD {c f:Str}{C:Addr}{o e:Expr}{fo fv:E}{pos':Pos}(hc:ClsOk X.K X.mg c C)(hn:Af X.K C f)(ho:SE X Wx .val o fo)(he:SE X Wx .val e fv)(hs:swapsWith e (some (.Attribute o f pos')) pos.line X.env=pure false:=by rfl):SS X Wx (.Assign [.Attribute o f pos'] e pos) (Dn c f fo fv):=by
 refine nu (zg3 ho he hs) ?_;rintro D st H ⟨P0,H0,P,Os,env,M,out,M',k,e,q⟩;unfold Dn at e;rcases mZ e with⟨y,M1,e1,e⟩ |⟨c,n,e1,rfl⟩
 ·refine aV k e1 fun P1 v1 H1 l1 h1 i1=>?_;have k1:=k.next l1 h1
  rcases mZ e with⟨d,M2,e2,e⟩ |⟨c,n,e2,rfl⟩
  ·split at e
   ·rename_i j fs eo;split at e
    ·rename_i hl;cases e;obtain⟨rfl,em⟩:=zcH eo;refine aV k1 e2 fun P2 v2 H2 l2 h2 i2=>?_;obtain⟨jl,rfl⟩:j<P2.n/\v2=.ref (P2.io j):=i2;obtain⟨C',dx,gs,ec,eh,en,is⟩:=h2.cell j _ em;have eC:C'=C:=by
      have:=ec.symm.trans hc.mg;cases this;rfl
     subst eC;obtain⟨l3,l3e,h3⟩:=zeg (f:=f) h2 em ec eh ⟨en,is⟩ (Is.lt (l2.lt h1) i1);exact⟨_,C',dx,gs,rfl,eh,hc.cl,hn,by rw[zio ⟨en,is⟩];exact hl,q _ _ _ _ ((l1.lt k.hk).trans ((l2.lt h1).trans l3)) ((k1.next l2 h2).next l3e h3)⟩
    ·cases e
   ·cases e
  ·exact aV k1 e2 q
 ·exact aV k e1 q
def IK (P:Program)(w:World)(K:Fgx)(mg:Mgx)(base:Heap)(k:Nat)(C:Addr)(m:Str)(n:Nat)(g:G):Prop:=
 ∃f fd ps,Meth K C m f/\FnOk P w K mg base nF k f fd ps (zm K mg n g)/\Binds K fd ps []
theorem IK.mono {P:Program}{w:World}{K:Fgx}{mg:Mgx}{base:Heap}{j k:Nat}{C:Addr}{m:Str}{n:Nat}{g:G}(a:IK P w K mg base j C m n g)(h:j<=k):IK P w K mg base k C m n g:=by
 obtain⟨f,fd,ps,h1,h2,h3⟩:=a;exact⟨f,fd,ps,h1,h2.mono h,h3⟩
end
section
variable {X:Cx}{Wx:XW}{m:Mode}{pos:Pos}
def zdq {K:Fgx}{mg:Mgx}{P:Pl}{H H':Hp}{M:Mm}{a:Addr}{c:Cl}(h:Hk K mg P H M)(s:Same H H')(ha:H a=none)(ea:H' a≠none)(hc:∀P',P'.n=P.n + 1->P'.io P.n=a->Ac K mg P' H' a c):∃P',P'.n=P.n + 1/\P'.io P.n=a/\LtE P H P' H'/\Hk K mg P' H' (M ++ [c]):=by
 let P2:Pl:={io:=fun j=>if j=P.n then a else P.io j,n:=P.n + 1,bd:=fun b=>P.bd b\/b=a}
 have io : ∀ j, j < P.n -> P2.io j = P.io j := fun j hj => xab (by omega);have ioN : P2.io P.n = a := tG rfl;have nc : ∀ j, j < P.n -> P.io j ≠ a := fun j hj z => h.here _ (h.bd j hj) (z ▸ ha);have l : LtE P H P2 H' := ⟨xcC _,io,fun b z=>Or.imp (fun q=>q) (fun(q:b=a)=>by rw[q];exact ha) z,fun _ z=>.inl z,fun b o e _=>s b o e,fun b z=>s.free z,fun j h2 h3=>by
  have:j=P.n:=xaM (xaI h3) h2;rw[this,ioN];exact ha⟩
 refine⟨P2,rfl,ioN,l,⟨by rw[xam, <-h.n];rfl,fun j d ej=>?_,fun i j hi hj e=>?_,fun j hj=>?_,fun b z=>?_⟩⟩
 ·rcases xaS j P.n with z |z
  ·rw[xa0 (by rw[<-h.n];exact z)]at ej;rw[io j z];exact(h.cell j d ej).lt (l.lt h) fun o eo=>s _ _ eo
  ·have jl:=(xag.mp ej).1;rw[xam,xaE, <-h.n]at jl;have:j=P.n:=by omega
   subst this;rw[xa4 (by rw[h.n];exact xad _),h.n,xbN]at ej;cases ej;rw[ioN];exact hc P2 rfl ioN
 ·rcases xaS i P.n with z |z
  ·rcases xaS j P.n with y |y
   ·rw[io i z,io j y]at e;exact h.inj i j z y e
   ·have:j=P.n:=xaM (xaI hj) y;rw[io i z,this,ioN]at e;exact absurd e (nc i z)
  ·have iN:i=P.n:=xaM (xaI hi) z;rcases xaS j P.n with y |y
   ·rw[iN,ioN,io j y]at e;exact absurd e.symm (nc j y)
   ·rw[iN];exact xaM y (xaI hj)
 ·rcases xaS j P.n with z |z
  ·rw[io j z];exact .inl (h.bd j z)
  ·have:j=P.n:=xaM (xaI hj) z;rw[this,ioN];exact .inr rfl
 ·rcases z with z |z
  ·exact fun q=>h.here b z (s.free q)
  ·rw[z];exact ea
def vo (P:Program)(w:World)(K:Fgx)(mg:Mgx)(base:Heap)(k:Nat)(C:Addr)(n:Nat)(g:G):Prop:=
 ∃f fd ps,Mk K C f/\FnOk P w K mg base nF k f fd ps (zm K mg n g)/\Binds K fd ps []
noncomputable def Dl (c:Str) (g:G) (fs:EA):E:=fun env M=>lZ (fs env M) fun ds M1=>match g (.ref M1.length::ds) (M1 ++ [.obj c []]) with
 |some (.v .non,M2)=>some (.v (.ref M1.length),M2)
 |_=>none
def zcQ {c:Str}{C:Addr}{k n:Nat}{g:G}{e:Expr}{es:List Expr}{fs:EA}{p:Pos}(hc:ClsOk X.K X.mg c C)(a:vo X.prog X.w X.K X.mg X.base k C (n + 1) g)(hr:Room (k + 1) X.A)(hg:Gl X c)(ha:SA X Wx .val (e::es) fs)(hn:Cr n fs)(hdb:(c==("__debug__":Str))=false:=by x_go)
  (he:starEach (e::es) X.env=(false,eval e X.env)::starEach es X.env:=by rfl) (hpl:(backTo pos (starEach es X.env)).any (·.1)=false:=by rfl):SE X Wx m (.Call (.Name c p) (e::es) [] pos) (Dl c g fs):=by
 obtain⟨f,fd,ps,mk,F,hb⟩:=a;refine gC (zen mk F hr hg hc.mg hb .nil YD ha hdb he hpl) ?_;rintro st H Q ⟨P0,H0,P,Os,env,M,r,M',k,e,q⟩;unfold Dl at e;rcases zK e with⟨ds,M1,e1,e⟩ |⟨c,n,e1,rfl⟩
 ·split at e
  ·rename_i M2 eg;cases e;refine⟨P0,H0,P,Os,env,M,_,_,k,e1,fun P1 vs H1 l1 h1 i1=>fun x dx hx hdx ne=>?_⟩;have s2:Same H1 (upd (upd H1 dx (.own x)) x (.ins C dx [])):=fun b o eb=>by
    rw[aZ (kh eb hx),aZ (kh eb hdx)];exact eb
   obtain⟨P2,n2,io2,l2,h2⟩:=zdq (c:=.obj c []) h1 s2 hx (by rw[gq];exact fun z=>nomatch z) fun P' _ _=>⟨C,dx,[],hc.mg,gq,rfl,rfl⟩
   have el:P1.n=M1.length:=h1.n;have iref:Is X.K P2 (upd (upd H1 dx (.own x)) x (.ins C dx [])) (.ref M1.length) (.ref x):=⟨by rw[n2,el];exact xbP _,by rw[<-el,io2]⟩;refine⟨by rw[xaH,xal,i1.len,hn _ _ _ _ e1],P2,M1 ++ [.obj c []],.ref M1.length::ds,.non,_,h2,⟨_,_,rfl,iref,by rw[xaH];exact aH.lt (l2.lt h1) i1.iss⟩,eg,fun P3 v H3 l3 h3 i3=>⟨i3,?_⟩⟩;refine q P3 _ H3 (l1.trans (l2.trans l3)) h3 (gB.of h3 (Is.lt (l3.lt h2) iref))
  ·cases e
 ·exact⟨P0,H0,P,Os,env,M,_,_,k,e1,q⟩
end
end E3
namespace E3
open PySem PySem.Spec PyProof.Rows L2 PySem.W
def zlR (a:Addr)(h h':Heap):Prop:=∀b o,b≠a->h.get? b=some o->h'.get? b=some o
def Low (n:Nat)(p:Array Nat):Prop:=p.size=n/\∀x∈p.toList,x<n
section
variable {n:Nat}{lt:Nat->Nat->Option Bool}(hn:0<n)(tot:∀i j,i<n->j<n->∃b,lt i j=some b)
include hn tot
end
end E3
namespace E3
open PySem L2
section
variable {env:Env}{M M1:Mm}{f g h c:E}{d e:D}{i j:Int}{n k:Nat}{z:Str}{b:Bool}{ds es:List D}{s t:S}{x:Str}
def vg (g:S):OS->OS
 |some (.nx e,M1)=>g e M1
 |o=>o
theorem Y6:ao s t env M=vg t (s env M):=rfl
theorem R3 {e:Env}:vg t (some (.nx e,M))=t e M:=rfl
theorem R4:vg t (some (.rt d,M))=some (.rt d,M):=rfl
theorem RN {e:Env}:vg t (some (.bk e,M))=some (.bk e,M):=rfl
theorem RV {e:Env}:vg t (some (.ct e,M))=some (.ct e,M):=rfl
theorem RX {a:Int}:vg t (some (.ex x a,M))=some (.ex x a,M):=rfl
theorem zjm:aC env M=some (.nx env,M):=rfl
def Im (M:Mm):Option Slot->O
 |some (.val d)=>some (.v d,M)
 |_=>none
noncomputable def Ci (M:Mm):Option Slot->O
 |some (.val d)=>some (.v d,M)
 |some (.own ds)=>some (.v (.lst ds),M)
 |_=>none
theorem Rx:ak k env M=Im M env[k]? :=rfl
theorem Ry:yd k env M=Ci M env[k]? :=rfl
theorem R5:Im M (some (.val d))=some (.v d,M):=rfl
theorem R6:Ci M (some (.val d))=some (.v d,M):=rfl
theorem R7:Ci M (some (.own ds))=some (.v (.lst ds),M):=rfl
theorem zkm:aj d env M=some (.v d,M):=rfl
def mapR (M:Mm)(o:Option D):O:=o.map fun z=>(.v z,M)
theorem zkg:mapR M (some d)=some (.v d,M):=rfl
def Bo (o:D->Option D)(r:O):O:=bnd r fun d M=>mapR M (o (vw M d))
theorem q_1 {o:D->Option D}:s1 o f env M=Bo o (f env M):=rfl
theorem r_1 {o:D->Option D}:Bo o (some (.v d,M))=mapR M (o (vw M d)):=rfl
def Cg (o:D->D->Option D)(d:D)(r:O):O:=bnd r fun e M=>mapR M (o (vw M d) (vw M e))
def Ik (o:D->D->Option D)(k:Mm->O)(r:O):O:=bnd r fun d M=>Cg o d (k M)
theorem q_2 {o:D->D->Option D}:s2 o f g env M=Ik o (g env) (f env M):=rfl
theorem r_2 {o:D->D->Option D}{q:Mm->O}:Ik o q (some (.v d,M))=Cg o d (q M):=rfl
theorem RM {o:D->D->Option D}:Cg o d (some (.v e,M))=mapR M (o (vw M d) (vw M e)):=rfl
theorem zi0:vw M (.int i)=.int i:=rfl
theorem zjo:vw M (.str z)=.str z:=rfl
theorem Uj:vw M (.bl b)=.bl b:=rfl
theorem zkB:vw M .non=.non:=rfl
theorem zjh:vw M (.tup ds)=.tup ds:=rfl
theorem zj6:vw M (.lst ds)=.lst ds:=rfl
theorem zkR:gQ f env M=Bo (fun d=>(vm d).map .bl) (f env M):=rfl
def GZ (r:O):O:=bnd r fun d M=>match d with
 |.bl b=>some (.v (.bl (!b)),M)
 |_=>none
theorem zln:lq f env M=GZ (f env M):=rfl
theorem zlC:GZ (some (.v (.bl b),M))=some (.v (.bl (!b)),M):=rfl
noncomputable def yN (k1 k2:Mm->O) (r:O):O:=bnd r fun d M=>match d with
 |.bl b=>if b=true then k1 M else k2 M
 |_=>none
theorem zjz:fL f g env M=yN (g env) (fun M=>some (.v (.bl false),M)) (f env M):=rfl
theorem Ru:nM f g env M=yN (fun M=>some (.v (.bl true),M)) (g env) (f env M):=rfl
theorem zjT:yZ c f g env M=yN (f env) (g env) (c env M):=rfl
theorem zjU {k1 k2:Mm->O}:yN k1 k2 (some (.v (.bl b),M))=if b=true then k1 M else k2 M:=rfl
noncomputable def yF (d:D):Option (ResA×Mm)->Option (ResA×Mm)
 |some (.v ds,M2)=>some (.v (d::ds),M2)
 |some (.x c n,M2)=>some (.x c n,M2)
 |none=>none
noncomputable def O2 (k:Mm->Option (ResA×Mm)):O->Option (ResA×Mm)
 |some (.v d,M1)=>yF d (k M1)
 |some (.x c n,M1)=>some (.x c n,M1)
 |none=>none
theorem zkF:aq env M=some (.v [],M):=rfl
theorem zhg {fs:EA}:au f fs env M=O2 (fs env) (f env M):=rfl
theorem zhV {q:Mm->Option (ResA×Mm)}:O2 q (some (.v d,M))=yF d (q M):=rfl
theorem ziB:yF d (some (.v ds,M))=some (.v (d::ds),M):=rfl
def yC (o:List D->Option D)(r:Option (ResA×Mm)):O:=lZ r fun ds M=>mapR M (o (ds.map (vw M)))
theorem q_n {o:List D->Option D}{fs:EA}:sN o fs env M=yC o (fs env M):=rfl
theorem r_n {o:List D->Option D}:yC o (some (.v ds,M))=mapR M (o (ds.map (vw M))):=rfl
noncomputable def wD (k:List D->Mm->O):Option (ResA×Mm)->O
 |some (.v ds,M)=>k ds M
 |some (.x c n,M)=>some (.x c n,M)
 |none=>none
theorem zgt {q:List D->Mm->O}:wD q (some (.v ds,M))=q ds M:=rfl
theorem ziY {fs:EA}:aW fs env M=wD (fun ds M1=>if ds.length<=sizeLine then some (.v (.tup ds),M1) else none) (fs env M):=rfl
theorem ziU {fs:EA}:eV fs env M=wD (fun ds M1=>if ds.length<=sizeLine then some (.v (.lst ds),M1) else none) (fs env M):=rfl
def Vi:O->O
 |some (.v d,M)=>some (.v d,M)
 |_=>none
theorem zej:Vi (some (.v d,M))=some (.v d,M):=rfl
theorem zf6 {u:G}{fs:EA}:fu u fs env M=wD (fun ds M1=>Vi (u ds M1)) (fs env M):=rfl
noncomputable def lE (k:D->Mm->O):O->O
 |some (.v d,M)=>k d M
 |some (.x c n,M)=>some (.x c n,M)
 |none=>none
theorem RP {q:D->Mm->O}:lE q (some (.v d,M))=q d M:=rfl
def Vo (M:Mm):D->O
 |.lst ds=>some (.v (.ref M.length),M ++ [.lst ds])
 |_=>none
theorem zeo:Vo M (.lst ds)=some (.v (.ref M.length),M ++ [.lst ds]):=rfl
theorem zhu:yc f env M=lE (fun d M1=>Vo M1 d) (f env M):=rfl
noncomputable def Qp (M:Mm):D->O
 |.lst ds=>some (.v (.lst ds),M)
 |.tup ds=>some (.v (.lst ds),M)
 |_=>none
theorem zeH:Qp M (.lst ds)=some (.v (.lst ds),M):=rfl
theorem zgS:BL f env M=lE (fun d M1=>Qp M1 (vw M1 d)) (f env M):=rfl
noncomputable def S6 (d:D) (lo:Option Int):Option (Option Int×Mm)->O
 |some (hi,M3)=>mapR M3 (Dt (vw M3 d) lo hi)
 |none=>none
noncomputable def slL (d:D) (k:Mm->Option (Option Int×Mm)):Option (Option Int×Mm)->O
 |some (lo,M2)=>S6 d lo (k M2)
 |none=>none
theorem Rw {l u:Env->Mm->Option (Option Int×Mm)}:su f l u env M=lE (fun d M1=>slL d (u env) (l env M1)) (f env M):=rfl
theorem zkU {lo:Option Int}{q:Mm->Option (Option Int×Mm)}:slL d q (some (lo,M))=S6 d lo (q M):=rfl
theorem zkT {lo hi:Option Int}:S6 d lo (some (hi,M))=mapR M (Dt (vw M d) lo hi):=rfl
theorem zkN:t_ env M=some (none,M):=rfl
def G6:O->Option (Option Int×Mm)
 |some (.v (.int i),M)=>some (some i,M)
 |_=>none
theorem zjd:nJ f env M=G6 (f env M):=rfl
theorem zke:G6 (some (.v (.int i),M))=some (some i,M):=rfl
noncomputable def h_ (k:D->Mm->OS):O->OS
 |some (.v d,M)=>k d M
 |some (.x c n,M)=>some (.ex c n,M)
 |none=>none
theorem zgd {q:D->Mm->OS}:h_ q (some (.v d,M))=q d M:=rfl
theorem zkM:aM k f env M=h_ (fun d M1=>if k<env.length then some (.nx (env.set k (.val d)),M1) else none) (f env M):=rfl
noncomputable def Xr (k:Nat) (env:Env) (M:Mm):D->OS
 |.lst ds=>if k<env.length then some (.nx (env.set k (.own ds)),M) else none
 |_=>none
theorem ziA:Xr k env M (.lst ds)=if k<env.length then some (.nx (env.set k (.own ds)),M) else none:=rfl
theorem zhn:u_ k f env M=h_ (fun d M1=>Xr k env M1 d) (f env M):=rfl
theorem zjp:aK f env M=h_ (fun d M1=>some (.rt d,M1)) (f env M):=rfl
theorem zhd:wj f env M=h_ (fun _ M1=>some (.nx env,M1)) (f env M):=rfl
def Ww (s t:Mm->OS)(M:Mm):D->OS
 |.bl b=>if b=true then s M else t M
 |_=>none
theorem RZ {q r:Mm->OS}:Ww q r M (.bl b)=if b=true then q M else r M:=rfl
theorem Rp:fB c s t env M=h_ (fun d M1=>Ww (s env) (t env) M1 d) (c env M):=rfl
noncomputable def Fw (k:Nat) (env:Env) (M:Mm):Option Slot->OS
 |some (.own ds)=>some (.nx (env.set k (.val (.lst ds))),M)
 |_=>none
theorem zk1:sZ k env M=Fw k env M env[k]? :=rfl
theorem zj1:Fw k env M (some (.own ds))=some (.nx (env.set k (.val (.lst ds))),M):=rfl
noncomputable def Eo (k:Nat) (env:Env) (o:O):Option Slot->OS
 |some (.own ds)=>h_ (fun d M1=>if ds.length<sizeLine then some (.nx (env.set k (.own (ds ++ [d]))),M1) else none) o
 |_=>none
theorem zkv:iB k f env M=Eo k env (f env M) env[k]? :=rfl
theorem zlj {o:O}:Eo k env o (some (.own ds))=h_ (fun d M1=>if ds.length<sizeLine then some (.nx (env.set k (.own (ds ++ [d]))),M1) else none) o:=rfl
noncomputable def forR (k:Nat) (t:S) (env:Env):Option (ResA×Mm)->OS
 |some (.v ds,M1)=>loopS k t ds env M1
 |some (.x c n,M1)=>some (.ex c n,M1)
 |none=>none
theorem zi8 {fs:EA}:sY k fs t env M=forR k t env (fs env M):=rfl
theorem zjj:forR k t env (some (.v ds,M))=loopS k t ds env M:=rfl
noncomputable def GK:O->Option (ResA×Mm)
 |some (.v (.lst ds),M1)=>some (.v ds,M1)
 |some (.x c n,M1)=>some (.x c n,M1)
 |_=>none
theorem zf5:tX f env M=GK (f env M):=rfl
theorem zhT:GK (some (.v (.lst ds),M))=some (.v ds,M):=rfl
noncomputable def Zq:Option (ResA×Mm)->Option (ResA×Mm)
 |some (.v [.int j],M1)=>if -1000000000<=j/\j<=1000000000 then some (.v ((List.range j.toNat).map fun(k:Nat)=>.int (0 + k)),M1) else none
 |some (.x c n,M1)=>some (.x c n,M1)
 |_=>none
theorem zg9 {fs:EA}:yK fs env M=Zq (fs env M):=rfl
def Ho (h: -1000000000<=i/\i<=1000000000):Zq (some (.v [.int i],M))=some (.v ((List.range i.toNat).map fun(k:Nat)=>.int (0 + k)),M):=tG h
theorem Rn {m:Nat}{t:S}:fH m t ds M=kZ (t (ds.map .val ++ List.replicate (m - ds.length) .un) M):=rfl
theorem zgx:kZ (some (.rt d,M))=some (.v d,M):=rfl
theorem zh6 {e:Env}:kZ (some (.nx e,M))=some (.v .non,M):=rfl
theorem zhh:aN (.int i) (.int j)=some (.int (i + j)):=rfl
theorem zis:aN (.lst ds) (.lst es)=if ds.length + es.length<=sizeLine then some (.lst (ds ++ es)) else none:=rfl
theorem zk6:lH (.int i) (.int j)=some (.int (i - j)):=rfl
theorem zlM:fY (.int i) (.int j)=if i.natAbs<18446744073709551616\/j.natAbs<18446744073709551616\/(i.natAbs.log2<10000/\j.natAbs.log2<10000) then some (.int (i * j)) else none:=rfl
theorem zfV:lR (.int i) (.int j)=if 0<j/\j.natAbs<1073741824 then some (.int (i / j)) else none:=rfl
theorem zjs:oMod (.int i) (.int j)=if 0<j then some (.int (i % j)) else none:=rfl
theorem zjk:pI (.int i) (.int j)=if 0<=j/\j.natAbs<=1000000/\i.natAbs<18446744073709551616 then some (.int (i ^ j.toNat)) else none:=rfl
theorem zjx:yS (.int i)=some (.int (-i)):=rfl
theorem QZ:aF .lt (.int i) (.int j)=some (.bl (decide (i<j))):=rfl
theorem QX:aF .le (.int i) (.int j)=some (.bl (decide (i<=j))):=rfl
theorem QV:aF .gt (.int i) (.int j)=some (.bl (decide (j<i))):=rfl
theorem QT:aF .ge (.int i) (.int j)=some (.bl (decide (j<=i))):=rfl
def zi1:aF .eq (.int i) (.int j)=some (.bl (decide (i=j))):=by
 show(wF _ _).map D.bl=_
 simp[wF,gY,D.flat,D.dep,D.eq]
 rw[xaQ];simp
def zjM:aF .ne (.int i) (.int j)=some (.bl (!decide (i=j))):=by
 show(wH _ _).map D.bl=_
 simp[wH,gY,D.flat,D.dep,D.eq]
 rw[xaQ];simp
theorem Yw (h:D.deps ds<=49):aF .eq (.lst ds) (.lst [])=some (.bl ds.isEmpty):=by
 show(wF _ _).map D.bl=_;unfold wF;rw[tG ⟨by simp[gY,D.flat,D.dep,D.deps],by show D.deps ds + 1<=50;omega⟩];cases ds<;>rfl
theorem zle (h:D.deps ds<=49):aF .ne (.lst ds) (.lst [])=some (.bl (!ds.isEmpty)):=by
 show(wH _ _).map D.bl=_;unfold wH;rw[tG ⟨by simp[gY,D.flat,D.dep,D.deps],by show D.deps ds + 1<=50;omega⟩];cases ds<;>rfl
theorem zkb (h:d.dep<=50):aF .eq d d=some (.bl true):=by
 show(wF d d).map D.bl=_;unfold wF;rw[tG ⟨by simp[gY,h],h⟩,D.eq_refl];rfl
theorem zju (h:d.dep<=50):aF .ne d d=some (.bl false):=by
 show(wH d d).map D.bl=_;unfold wH;rw[tG ⟨by simp[gY,h],h⟩,D.eq_refl];rfl
theorem zk9:aO (.lst ds) (.int i)=eG ds i:=rfl
theorem QW:aO (.tup ds) (.int i)=eG ds i:=rfl
theorem zij:eU [.lst ds]=some (.int ds.length):=rfl
theorem zfS:eU [.tup ds]=some (.int ds.length):=rfl
theorem zja:yE [.int i,.int j]=some (.int (if j<i then j else i)):=rfl
theorem zg5:vm (.lst ds)=some (!ds.isEmpty):=rfl
theorem zf4:vm (.bl b)=some b:=rfl
theorem zld {lo hi:Option Int}:Dt (.str z) lo hi=if z.length<=sizeLine then some (.str (Txt.slice z lo hi)) else none:=rfl
theorem zlf {lo hi:Option Int}:Dt (.lst ds) lo hi=some (.lst (gO ds lo hi)):=rfl
end
noncomputable def Step (J:Env->Mm->Prop) (Q:OS->Prop):OS->Prop
 |some (.nx e,M)=>J e M
 |some (.ct e,M)=>J e M
 |some (.bk e,M)=>Q (some (.nx e,M))
 |some (.rt d,M)=>Q (some (.rt d,M))
 |some (.ex c n,M)=>Q (some (.ex c n,M))
 |none=>False
def Qq {i:Nat}{body:S}{ds:List D}{env:Env}{M:Mm}(Q:OS->Prop)(J:Nat->Env->Mm->Prop)(h0:J 0 env M)
    (hs:∀(k:Nat) d env M,ds[k]? =some d->J k env M->i<env.length/\Step (J (k + 1)) Q (body (env.set i (.val d)) M)) (hd:∀env M,J ds.length env M->Q (some (.nx env,M))):Q (loopS i body ds env M):=by
  have key:∀(m k:Nat) (env:Env) (M:Mm),m + k=ds.length->J k env M->Q (loopS i body (ds.drop k) env M):=by
    intro m
    induction m with
    |zero=>
      intro k env M hk hJ;have e:k=ds.length:=by omega
      subst e;rw[xb6];exact hd env M hJ
    |succ m ih=>
      intro k env M hk hJ;have hlt:k<ds.length:=by omega
      obtain⟨hi,h1⟩:=hs k ds[k] env M (xah hlt) hJ;rw[xbh hlt];simp only[loopS,hi,xbb]
      cases e:body (env.set i (.val ds[k])) M with
      |none=>rw[e]at h1;exact h1.elim
      |some o=>
        rw[e]at h1;obtain⟨o,M'⟩:=o
        cases o with
        |nx e'=>exact ih (k + 1) e' M' (by omega) h1
        |ct e'=>exact ih (k + 1) e' M' (by omega) h1
        |bk e'=>exact h1
        |rt d=>exact h1
        |ex c n=>exact h1
  have:=key ds.length 0 env M (by omega) h0
  rwa [xeh]at this
end E3
namespace E3
open PySem PySem.Spec PyProof.Rows L2
noncomputable def XN (H:Hp) (n:Int):Option Addr->Prop
 |none=>n=0
 |some d=>∃fs,H d=some (.xd fs)/\fs.lookup ("at":Str)=some (.int (n - 1))/\n≠0
noncomputable def XQ (K:Fgx) (mg:Mgx) (P:Pl) (H:Hp) (M':Mm) (Q:VK) (E:XK):Res->Prop
 |.v d=>∀P' v H',LtE P H P' H'->Hk K mg P' H' M'->Is K P' H' d v->Q v H'
 |.x c n=>∀P' H' C dx,LtE P H P' H'->Hk K mg P' H' M'->mg c=some (.ref C)->XN H' n dx->E (.ref C) dx H'
noncomputable def H_ (K:Fgx) (mg:Mgx) (n:Nat) (g:G):Sp:=fun vs H Q E=>vs.length=n/\∃P M ds r M',Hk K mg P H M/\aH K P H ds vs/\g ds M=some (r,M')/\XQ K mg P H M' Q E r
mutual
theorem Is.away {K:Fgx}{P:Pl}{H H':Hp}(s:∀b o,H b=some o->(∀g,o≠ .ext g)->H' b=some o):∀{d:D} {v:V},Is K P H d v->Is K P H' d v
  |.non,_,h=>h
  |.bl _,_,h=>h
  |.int _,_,h=>h
  |.str _,_,h=>h
  |.tup ds,_,h=>by
    obtain⟨a,vs,e,q,r⟩:=h;refine⟨a,vs,e,?_,aH.away s r⟩;rcases q with(q |⟨o,q⟩) |q
    · exact .inl (.inl (s _ _ q fun _ z=>nomatch z))
    · exact .inl (.inr ⟨o,s _ _ q fun _ z=>nomatch z⟩)
    · exact .inr q
  |.lst ds,_,h=>by
    obtain⟨a,vs,e,q,r⟩:=h;refine⟨a,vs,e,?_,aH.away s r⟩;rcases q with⟨n,q |⟨o,q⟩⟩ |q
    · exact .inl ⟨n,.inl (s _ _ q fun _ z=>nomatch z)⟩
    · exact .inl ⟨n,.inr ⟨o,s _ _ q fun _ z=>nomatch z⟩⟩
    · exact .inr q
  |.ref k,_,h=>h
theorem aH.away {K:Fgx}{P:Pl}{H H':Hp}(s:∀b o,H b=some o->(∀g,o≠ .ext g)->H' b=some o):∀{ds:List D} {vs:List V},aH K P H ds vs->aH K P H' ds vs
  | [],_,h=>h
  |_::_,_,h=>by
    obtain⟨v,r,e,p,q⟩:=h;exact⟨v,r,e,Is.away s p,aH.away s q⟩
end
theorem Hk.away {K:Fgx}{mg:Mgx}{P:Pl}{H H':Hp}{M:Mm}(h:Hk K mg P H M)(s:∀b o,H b=some o->(∀g,o≠ .ext g)->H' b=some o)(t:∀b,H' b=none->H b=none):Hk K mg P H' M:=by
  refine⟨h.n,fun k c e=>?_,h.inj,h.bd,fun a z q=>h.here a z (t a q)⟩;have:=h.cell k c e
  cases c with
  |lst ds=>
    obtain⟨vs,e1,q⟩:=this;exact⟨vs,s _ _ e1 (fun _ z=>nomatch z),aH.away s q⟩
  |obj c fs=>
    obtain⟨C,dx,gs,e1,e2,e3,q⟩:=this;exact⟨C,dx,gs,e1,s _ _ e2 (fun _ z=>nomatch z),e3,aH.away s q⟩
  |dct kvs=>
    obtain⟨vs,e1,e2,q⟩:=this;exact⟨vs,s _ _ e1 (fun _ z=>nomatch z),e2,aH.away s q⟩
  |dcf kvs=>
    obtain⟨vs,ob,es,ep,e1,eD,e2,q⟩:=this;exact⟨vs,ob,es,ep,s _ _ e1 (fun _ z=>nomatch z),eD,e2,aH.away s q⟩
structure XFit (X:Cx)(Wx:XW):Prop where
 xr:∀pins σ H s a C dx c n P0 H0 P M,Inv X pins σ H s->H a=some (xo a C dx true)->¬ P.bd a->H0 a=none->LtE P0 H0 P H->Hk X.K X.mg P H M->X.mg c=some (.ref C)->XN H n dx->Wx P0 H0 M c n->X.xe (.ref a) s
section
variable {X:Cx}{Wx:XW}{pos:Pos}
def za (c:Str)(f:E):S:=fun env M=>fP (f env M) fun _ M1=>some (.ex c 0,M1)
def S9 (F:XFit X Wx)(hc:X.calm=true)(m:X.mg c=some (.ref C))(q1:aU X.K C=true)(q2:Iu X.K C=true)(kp:PySem.W.keepIn X.K (.ref C)=true)(hg:Gl X c)(he:SE X Wx .val e f)(hdb:(c==("__debug__":Str))=false:=by x_go)
  (hs:starEach [e] X.env=[(false,eval e X.env)]:=by rfl):SS X Wx (.Raise (some (.Call (.Name c p) [e] [] q)) none pos) (za c f):=by
 refine nu (YT (W:=fun a C' dx H=>dx=none/\C'=C/\∃P0 H0 P M,¬ P.bd a/\H0 a=none/\LtE P0 H0 P H/\Hk X.K X.mg P H M/\Wx P0 H0 M c 0) (zdH q1 q2 kp hg m he hdb hs) hc fun pins σ H s a C' dx I ea ⟨e1,e2,P0,H0,P,M,b,n,l,h,w⟩=>?_) ?_
 ·subst e1 e2;exact F.xr pins σ H s a _ none c 0 P0 H0 P M I ea b n l h m rfl w
 ·rintro D st H ⟨P0,H0,P,Os,env,M,out,M',k,e,q⟩;unfold za at e;rcases mZ e with⟨d,M1,e1,e⟩ |⟨c,n,e1,rfl⟩
  ·cases e;refine⟨P0,H0,P,Os,env,M,_,_,k,e1,fun P1 v H1 l1 h1 i1=>⟨rfl,fun a ha=>⟨a,C,none,rfl,gq,q1,rfl,rfl,P0,H0,P1,_,h1.new a ha,?_,?_,?_,q⟩⟩⟩
   ·exact k.base.sure a (l1.sure a ha)
   ·exact k.base.trans (l1.trans (LtE.same (yg ha)))
   ·exact h1.same (yg ha)
  ·exact⟨P0,H0,P,Os,env,M,_,_,k,e1,q⟩
end
section
variable {P:Program}{w:World}{K:Fgx}{mg:Mgx}{base:Heap}{k:Nat}{x qual:Str}{st:Stmt}{f:Addr}{fd:FuncData}{N ps:List Str}{b:S}
abbrev xP (P:Program)(w:World)(K:Fgx)(mg:Mgx)(base:Heap)(N:List Str)(qual:Str)(st:Stmt)(f:Addr)(cdv:Value)(A:Around)(outer:List PySem.Env)(s:Shared)(H:Hp)(E:XK):Cx:=kY (sG P w) P w K mg base N qual (aY st) f cdv A outer s H E
end
section
variable {P:Program}{w:World}{K:Fgx}{mg:Mgx}{base:Heap}{k:Nat}{x qual:Str}{st:Stmt}{f:Addr}{fd:FuncData}{N ps:List Str}{b:S}
def zbM (F:FnOk P w K mg base (sG P w) k f fd ps sp):FnOk P w K mg base nF k f fd ps (fun vs H Q _=>sp vs H Q E0):=
 ⟨fun vs H Q E h=>F.len vs H Q E0 h,fun A outer s H args us vs Q E hr he hb hv hs=>xcs (F.run A outer s H args us vs Q E0 hr he hb hv hs) fun r s' z=>by
  cases r with
  |error e=>obtain⟨_,_,_,_,_,_,_,_,_,_,_,_,_,_,z⟩:=z;exact z
  |ok fl=>cases fl<;>exact z⟩
def Pj (F:FnOk P w K mg base (sG P w) k f fd ps (H_ K mg n g)):FnOk P w K mg base nF k f fd ps (zm K mg n g):=by
 have F0:=zbM F;refine⟨fun vs H Q E h=>F0.len vs H Q E ?_,fun A outer s H args us vs Q E hr he hb hv hs=>F0.run A outer s H args us vs Q E hr he hb hv ?_⟩
 ·obtain⟨hl,P,M,ds,d,M',hk,is,e,q⟩:=h;exact⟨hl,P,M,ds,.v d,M',hk,is,e,q⟩
 ·obtain⟨hl,P,M,ds,d,M',hk,is,e,q⟩:=hs;exact⟨hl,P,M,ds,.v d,M',hk,is,e,q⟩
def DR (P:Program)(w:World)(K:Fgx)(mg:Mgx)(base:Heap)(k:Nat)(C:Addr)(m:Str)(n:Nat)(g:G):Prop:=
 ∃f fd ps,Meth K C m f/\FnOk P w K mg base (sG P w) k f fd ps (H_ K mg n g)/\Binds K fd ps []
def DQ (P:Program)(w:World)(K:Fgx)(mg:Mgx)(base:Heap)(k:Nat)(C:Addr)(n:Nat)(g:G):Prop:=
 ∃f fd ps,Mk K C f/\FnOk P w K mg base (sG P w) k f fd ps (H_ K mg n g)/\Binds K fd ps []
def lV (P:Program)(w:World)(K:Fgx)(mg:Mgx)(base:Heap)(k:Nat)(f:Str)(n:Nat)(g:G):Prop:=
 ∃fa fd ps,mg f=some (.ref fa)/\PySem.W.keepIn K (.ref fa)=true/\FnOk P w K mg base (sG P w) k fa fd ps (H_ K mg n g)/\Binds K fd ps []
def DR.quiet (a:DR P w K mg base k C m n g):IK P w K mg base k C m n g:=by
 obtain⟨f,fd,ps,h1,h2,h3⟩:=a;exact⟨f,fd,ps,h1,Pj h2,h3⟩
def DQ.quiet (a:DQ P w K mg base k C n g):vo P w K mg base k C n g:=by
 obtain⟨f,fd,ps,h1,h2,h3⟩:=a;exact⟨f,fd,ps,h1,Pj h2,h3⟩
def lV.quiet (a:lV P w K mg base k x n g):aR P w K mg base k x n g:=by
 obtain⟨fa,fd,ps,h1,h2,h3,h4⟩:=a;exact⟨fa,fd,ps,[],[],_,h1,h2,Pj h3,h4,.nil,fun vs H Q E h=>by rw[xaH];exact h⟩
theorem lV.mono (a:lV P w K mg base j x n g)(h:j<=k):lV P w K mg base k x n g:=by
 obtain⟨f,fd,ps,h1,h2,h3,h4⟩:=a;exact⟨f,fd,ps,h1,h2,h3.mono h,h4⟩
end
end E3
namespace L2
open PySem PySem.Spec PyProof.Rows
section
variable {X:Cx}{CX:nQ}{k:Nat}{f C:Addr}{fd:FuncData}{ps:List Str}{sp:Sp}{x m:Str}{p pos apos:Pos}{e o:Expr}{es:List Expr}{ta:TE}{t:TA}{Ex:St->XK}
def M7 (CX:nQ)(X:Cx)(Ex:St->XK):Prop:=∀pins σ H s e s',Inv X pins σ H s->CX X.stack H s (Ex σ) e s'->X.xe e s'
end
end L2
namespace E3
open PySem PySem.Spec PyProof.Rows L2
section
variable {X:Cx}{Wx:XW}{pos:Pos}
def SX (X:Cx)(e:Expr)(f:E):Prop:=∀Ex:L2.St->XK,M7 (sG X.prog X.w) X Ex->PE X e fun st H Q=>∃P0 H0 P Os env M r M',Ok X.K X.mg P0 H0 P Os H M st env/\f env M=some (r,M')/\XQ X.K X.mg P H M' Q (Ex st) r
def XQ.lt {K:Fgx}{mg:Mgx}{P P1:Pl}{H H1:Hp}{M':Mm}{Q:VK}{E:XK}{r:Res}(l:LtE P H P1 H1)(q:XQ K mg P H M' Q E r):XQ K mg P1 H1 M' Q E r:=by
 cases r with
 |v d=>exact fun P' v H' l' h i=>q P' v H' (l.trans l') h i
 |x c n=>exact fun P' H' C dx l' h m xn=>q P' H' C dx (l.trans l') h m xn
noncomputable def xZ (g:G) (fs:EA):E:=fun env M=>match fs env M with
 |some (.v ds,M1)=>g ds M1
 |_=>none
def Cd (a:lV X.prog X.w X.K X.mg X.base k f n g)(hr:Room k X.A)(hg:Gl X f)(ha:SA X W0 .val (e::es) fs)(hn:Cr n fs)(hdb:(f==("__debug__":Str))=false:=by x_go)
  (he:starEach (e::es) X.env=(false,eval e X.env)::starEach es X.env:=by rfl) (hpl:(backTo pos (starEach es X.env)).any (·.1)=false:=by rfl):SX X (.Call (.Name f p) (e::es) [] pos) (xZ g fs):=by
 obtain⟨fa,fd,ps,hm,hk,F,hb⟩:=a;intro Ex hx;refine gC (zdB F hr hg hm hk hb .nil hx ha hdb he hpl) ?_;rintro st H Q ⟨P0,H0,P,Os,env,M,r,M',k,e,q⟩;unfold xZ at e;split at e
 ·rename_i ds M1 e1;exact ⟨P0,H0,P,Os,env,M,_,_,k,e1,fun P1 vs H1 l1 h1 i1=>by
   dsimp only;rw[xaH];exact⟨by rw[i1.len];exact hn _ _ _ _ e1,P1,M1,ds,r,_,h1,i1.iss,e,q.lt l1⟩⟩
 ·cases e
noncomputable def zkI (K:Fgx) (mg:Mgx) (E:XK) (P0:Pl) (H0:Hp) (P:Pl) (H:Hp) (M':Mm) (D:Ends):Out->Prop
 |.ex c n=>∀P' H' C dx,LtE P H P' H'->Hk K mg P' H' M'->mg c=some (.ref C)->XN H' n dx->E (.ref C) dx H'
 |.nx env=>Post K mg W0 P0 H0 P H M' D (.nx env)
 |.bk env=>Post K mg W0 P0 H0 P H M' D (.bk env)
 |.ct env=>Post K mg W0 P0 H0 P H M' D (.ct env)
 |.rt d=>Post K mg W0 P0 H0 P H M' D (.rt d)
noncomputable def Ig (K:Fgx) (mg:Mgx) (Ex:L2.St->XK) (b:S):TS:=fun D st H=>∃P0 H0 P Os env M out M',Ok K mg P0 H0 P Os H M st env/\b env M=some (out,M')/\zkI K mg (Ex st) P0 H0 P H M' D out
def U7 (X:Cx)(s:Stmt)(b:S):Prop:=∀Ex:L2.St->XK,M7 (sG X.prog X.w) X Ex->PS X s (Ig X.K X.mg Ex b)
def BX (X:Cx)(ss:List Stmt)(b:S):Prop:=∀Ex:L2.St->XK,M7 (sG X.prog X.w) X Ex->lK X ss (Ig X.K X.mg Ex b)
def Jm (h:U7 X s b):BX X [s] b:=fun Ex hx=>zel (h Ex hx)
def Ma (h:SX X e f)(hs:swapsWith e none pos.line X.env=pure false:=by rfl):U7 X (.Expr e pos) (wj f):=by
 intro Ex hx;refine nu (Dj (h Ex hx) hs) ?_;rintro D st H ⟨P0,H0,P,Os,env,M,out,M',k,e,q⟩;unfold wj at e;rcases mZ e with⟨d,M1,e1,e⟩ |⟨c,n,e1,rfl⟩
 ·cases e;exact⟨P0,H0,P,Os,env,M,_,_,k,e1,fun P1 v H1 l1 h1 i1=>q _ _ _ _ (l1.lt k.hk) (k.next l1 h1)⟩
 ·exact⟨P0,H0,P,Os,env,M,_,_,k,e1,q⟩
end
end E3
namespace L2
open PySem PySem.Spec PyProof.Rows
section
variable {prog:Program}{w:World}{A:Around}{E:Value->Shared->Prop}{s:Shared}{K:Fgx}{x C:Addr}{ox:Obj}{od:Option Obj}{name:Str}{tk:Tok}
def zbn (hc:(PySem.W.clsIn K C).isSome=true)(ha:PySem.W.findIn K (.ref C) name=some (some a))(hg:PySem.W.specialIn K a "__get__"=some (some g))(ht:PySem.W.takesIn K a=some true):PySem.W.findObj K C od name=some (.bind g a):=by
 obtain⟨cd,hc⟩:=xb4.mp hc;unfold PySem.W.findObj;rw[hc,Option.bind_some,ha,Option.bind_some]
 simp[hg,ht]
def zbB (X:K.In s.heap)(q:zG K C=true)(I:PySem.W.InstAt s.heap x ox C od)(h1:PySem.W.hasDictIn K C=true)(h2:PySem.W.findIn K (.ref C) "__class__"=some (some (.builtin "object.__class__")))
  (h3:PySem.W.specialIn K (.builtin "object.__class__") "__get__"=some (some (.builtin "getset_descriptor.__get__"))) (h4:PySem.W.takesIn K (.builtin "object.__class__")=some true) (h5:PySem.W.mroIn K C (.type "object")=some true)
  (k:Q (some (.ref C)) {s with toks:=s.toks + 1}):wpAny (model prog w) A (getAttr? (.ref x) "__class__") Q E s:=by
 have hf:PySem.W.findObj K C od "__class__"=some (.bind (.builtin "getset_descriptor.__get__") (.builtin "object.__class__")):=zbn (by obtain⟨cd,hc,_⟩:=xcw h1;rw[hc];rfl) h2 h3 h4;unfold getAttr? getAttrBy?;refine xaa (wpAny_mkText (xaa (xcV (Ip (s:={s with toks:=s.toks + 1}) X q I ?_))));refine zfe (s:={s with toks:=s.toks + 1}) X I hf (xcy (PySem.W.class_get (s:={s with toks:=s.toks + 1}) X I h5 ?_));exact xeN rfl (xaj k)
end
def Zb (K:Fgx):List V->Hp->VK->Prop:=fun xs H Q=>∃a C dx b0 c cv b,xs=[.ref a,cv]/\H a=some (xo a C dx b0)/\pX K C=true/\(∀d,dx=some d->∃fs,H d=some (.xd fs))/\tQ cv=some c/\PySem.W.kitOne K (.ref C) c=some b/\Q (.bl b) H
def ze5:lW X (.builtin "isinstance") (Zb X.K):=by
  intro pins s σ H vs us Q I r h;obtain⟨a,C,dx,b0,c,cv,b,rfl,ea,q,hdx,hc,hk,hq⟩:=h;simp only[pX,xac,xaZ]at q;obtain⟨q1,q2,q3,q4,q5,q6⟩:=q;obtain⟨oe,ws,t,e1,e2,e3,e4,_⟩:=yr I.hok ea;have J:∃od,PySem.W.InstAt s.heap a oe C od:=by
    cases dx with
    |none=>exact⟨none,e1,e2,by unfold PySem.W.notCls;rw[e4],by rw[e3];exact True.intro⟩
    |some d=>
      obtain⟨fs,ed⟩:=hdx d rfl;obtain⟨mA,n,_⟩:=(show gj X.prog X.w H s.heap d (.xd fs) from I.hok d _ ed);obtain⟨od,d1,_⟩:=JQ n;exact⟨some od,e1,e2,by unfold PySem.W.notCls;rw[e4],by rw[e3];exact d1⟩
  obtain⟨od,J⟩:=J;have Z:PySem.W.KitX X.K (.ref a) (.ref C) (fun h=>PySem.W.InstAt h a oe C od):=by
    obtain⟨cd0,hc0,_⟩:=xcw q2;have lk0:∃c' d' cd' sl',X.K.lookup C=some ⟨c',d',.cls cd',sl'⟩:=by
      unfold PySem.W.clsIn at hc0;split at hc0
      · rename_i ho;exact⟨_,_,_,_,ho⟩
      · cases hc0
    obtain⟨c',d',cd',sl',ho⟩:=lk0;refine⟨fun _ _ _ I=>I.type,fun _ _ XX _=>?_,fun h tp dd its n sl XX ht=>xeP.mpr fun z=>?_,fun XX I k=>zbB XX q1 I q2 q3 q4 q5 q6 k⟩
    · intro A' Q' E' s' k z;unfold isType loadHead;exact xaa (xdp (k _ _ (XX _ _ ho)) (xaj z))
    · have z:=xaZ.mp z;cases z;have y:=(XX _ _ ho).symm.trans ht;cases y
  cases r with
  |cons r1 r2=>
    cases r2 with
    |cons r3 r4=>
      cases r4;cases r1;rw[U_ r3 hc];exact xa5 Z I.kIn J hk (fun z=>nomatch z) fun tk=>⟨.bl b,H,I.tok tk,rfl,hq⟩
end L2
namespace E3
open PySem PySem.Spec PyProof.Rows L2
section
variable {K:Fgx}{mg:Mgx}{P0 P:Pl}{H0 H:Hp}{M:Mm}{Os:List (Option Addr)}{st:L2.St}{env:Env}{i:Nat}
def Ok.put (k:Ok K mg P0 H0 P Os H M st env)(hi:i<env.length)(h:Nb K mg P H none sv s):Ok K mg P0 H0 P (Os.set i none) H M (st.set i sv) (env.set i s) where
 hk:=k.hk
 base:=k.base
 b0:=k.b0
 slot:=fun j s e=>by
  rw[z9 _ _ _ _ (by rw[k.olen];exact hi),z9 _ _ _ _ (by rw[k.slen];exact hi)];rw[xaX]at e;split at e
  ·rename_i ij;subst ij;cases e;rw[tG rfl,tG rfl];exact h
  ·rename_i ij;rw[xab ij,xab ij];exact k.slot j s e
 own := fun a h => k.own a (by
  rcases xbK h with h |h
  ·exact h
  ·cases h)
 inj:=fun j l a e1 e2=>by
  rw[xaX]at e1 e2;split at e1
  ·split at e1<;>cases e1
  ·split at e2
   ·split at e2<;>cases e2
   ·exact k.inj j l a e1 e2
 olen:=by rw[xaL,xaL,k.olen]
 slen:=by rw[xaL,xaL,k.slen]
end
section
variable {X:Cx}{Wx:XW}{m:Mode}{pos:Pos}
noncomputable def zf (i:Nat) (cat:Str->Bool) (b h:S):S:=fun env M=>match b env M with
  | some (.ex c n, M1) => if cat c = true then (if i < env.length then (match h (env.set i (.exc c n)) M1 with
    | some (.nx env', M2) => (match env'[i]? with
      |some (.exc _ _)=>some (.nx (env'.set i .un),M2)
      |_=>none)
    |some (.rt d,M2)=>some (.rt d,M2)
    |_=>none) else none) else none
  |o=>o
def ziG 
    (hs:X.stack=X.env::X.outer) (hf:X.env.frame=some X.env.locals) (hc:X.calm=true) (hN:X.N.Nodup) (hi:X.N[i]? =some n) (hl:X.env.scope.names.lookup n=some .local) (hg:Gl X cn) (hm:X.mg cn=some (.ref c)) (q:aU X.K c=true)
    (hcat:∀c',cat c'=true->∃C,X.mg c'=some (.ref C)/\aU X.K C=true/\gn X.K C c=true) (hb:∀pins E,BX (X.pin pins E) body b) (hh:∀e,SB (X.suite e) W0 (b0::suite) h) (hdb:(cn==("__debug__":Str))=false:=by x_go):
    SS X Wx (.Try body [.ExceptHandler (some (.Name cn np)) (some n) (b0::suite) hp] [] [] pos) (zf i cat b h):=by
  let Ex:Ends->L2.St->XK:=fun D σ Cv dx H'=>∀a C,Cv=.ref C->H' a=some (xo a C dx false)->aU X.K C=true/\gn X.K C c=true/\tS X.K X.mg W0 h {D with nx:=fun σ H=>∃v,σ[i]? =some (some v)/\D.nx (σ.set i none) H,bk:=fun _ _=>False,ct:=fun _ _=>False} (σ.set i (some (.ref a))) H'
  refine nu (ze4 (tb:=fun D=>Ig X.K X.mg (Ex D) b) (th:=tS X.K X.mg W0 h) hs hf hc hN hi hl hg hm q hdb (fun pins D=>hb pins _ (Ex D) fun pins' σ H s e s' I z=>?_) hh) ?_
  · obtain⟨a,C,dx,H',T,rfl,K1,hE⟩:=Jr (X:=X) I.of_pin z;obtain⟨z1,z2,z3⟩:=hE a C rfl K1.obj;exact⟨σ,H',a,C,dx,T,rfl,K1,z1,z2,z3⟩
  · rintro D st H ⟨P0,H0,P,Os,env,M,out,M',k,e,q⟩;unfold zf at e;split at e
    · rename_i c' n' M1 e1;split at e
      · rename_i hct;split at e
        · rename_i hil;obtain⟨C,hmC,x1,x2⟩:=hcat c' hct;refine⟨P0,H0,P,Os,env,M,_,_,k,e1,fun P1 H1 C1 dx l1 h1 m1 xn a C2 eC ea=>?_⟩;cases eC;cases hmC.symm.trans m1;have k1:=(k.next l1 h1).put (s:=.exc c' n') (sv:=some (.ref a)) hil ⟨_,rfl,a,C,dx,rfl,m1,ea,xn⟩
          refine⟨x1,x2,?_⟩;split at e
          · rename_i env' M2 e2;split at e
            · rename_i c3 n3 ex;cases e;refine⟨P0,H0,P1,_,_,M1,_,_,k1,e2,fun P2 Os2 H2 st2 l2 k2=>?_⟩;obtain⟨v,ev,_⟩:=k2.slot i _ ex;exact⟨v,sU ev,q P2 _ H2 _ ((l1.lt k.hk).trans l2) (k2.put (s:=.un) (sv:=none) (xag.mp ex).1 True.intro)⟩
            · cases e
          · rename_i d M2 e2;cases e;exact⟨P0,H0,P1,_,_,M1,_,_,k1,e2,q⟩
          · cases e
        · cases e
      · cases e
    · rename_i o hne;refine⟨P0,H0,P,Os,env,M,_,_,k,e,?_⟩
      cases out with
      |ex c n=>exact absurd e (hne c n M')
      |nx env=>exact q
      |bk env=>exact q
      |ct env=>exact q
      |rt d=>exact q
noncomputable def n6 (i:Nat) (tb:Str->Option Bool):E:=fun env M=>match env[i]? with
 |some (.exc c _)=>(tb c).map fun b=>(.v (.bl b),M)
 |_=>none
def yx (X:Cx)(u:Value)(tb:Str->Option Bool):Prop:=∀c b,tb c=some b->∃C,X.mg c=some (.ref C)/\pX X.K C=true/\PySem.W.kitOne X.K (.ref C) u=some b
def zhz {i:Nat}{tb:Str->Option Bool}{u:Value}{cv:V}{st:L2.St}{H:Hp}{Q:VK}(hu:tQ cv=some u)(ht:yx X u tb)(w:tE X.K X.mg Wx m (n6 i tb) st H Q):∃v,st[i]? =some (some v)/\Zb X.K [v,cv] H Q:=by
 obtain⟨P0,H0,P,Os,env,M,r,M',k,e,q⟩:=w;unfold n6 at e;split at e
 ·rename_i c n hs;rw[xae]at e;obtain⟨b,eb,e⟩:=e;cases e;obtain⟨v,ev,a,C,dx,rfl,m1,ea,xn⟩:=k.slot i _ hs;obtain⟨C2,m2,x2,k2⟩:=ht c b eb;cases m1.symm.trans m2;refine⟨_,sU ev,a,C,dx,false,u,cv,b,rfl,ea,x2,fun d hd=>?_,hu,k2,q P _ H (LtE.refl P H) k.hk (gB.of k.hk (show Is _ _ _ (.bl b) _ from rfl))⟩;subst hd;obtain⟨fs,ed,_⟩:=xn;exact⟨fs,ed⟩
 ·cases e
def zeu {i:Nat}{x:Str}{T:String}{tb:Str->Option Bool}{p p' p2:Pos}(hN:X.N[i]? =some x)(hv:X.env.scope.names.lookup x=some .local)(ht:yx X (.type T) tb)(hg:Gl X "isinstance")(hm:X.mg "isinstance"=none)(hg':Gl X (Str.ofString T))(hm':X.mg (Str.ofString T)=none)(hT:bootBuiltins (Str.ofString T)=some (.type T))(hd:(x==("__debug__":Str))=false:=by x_go)(hcd:(x==("__classdict__":Str))=false:=by x_go)
  (n1:Str.ofString T≠"__name__":=by x_go) (n2:(Str.ofString T==("__debug__":Str))=false:=by x_go)
  (hs:starEach [.Name x p2,.Name (Str.ofString T) p'] X.env=(false,eval (.Name x p2) X.env)::starEach [.Name (Str.ofString T) p'] X.env:=by rfl):SE X Wx m (.Call (.Name "isinstance" p) [.Name x p2,.Name (Str.ofString T) p'] [] pos) (n6 i tb):=by
 refine gC (Km ze5 hg hm boot_isinstance (q_ (zX hN (.inl hv) hd hcd) (q_ (YG hg' hm' hT (v:=.ty T) rfl n1 n2) wU) hs) (by x_go) (by x_go) hs rfl) ?_;intro st H Q w;exact zhz rfl ht w
end
section
variable {X:Cx}{Wx:XW}
noncomputable def Gu (f:E):EA:=fun env M=>match f env M with
 |some (.v (.tup ds),M1)=>some (.v ds,M1)
 |some (.x c n,M1)=>some (.x c n,M1)
 |_=>none
def zhc (h:SE X Wx .val e f):SI X Wx tg e (Gu f):=by
 refine G9 (zhw h) ?_;rintro st H R ⟨P0,H0,P,Os,env,M,r,M',k,e,q⟩;unfold Gu at e;split at e
 ·rename_i ds M1 ef;cases e;refine⟨P0,H0,P,Os,env,M,_,_,k,ef,fun P1 v1 H1 l1 h1 i1=>?_⟩;obtain⟨a,vs,rfl,ra,is⟩:=i1;refine⟨a,rfl,⟨vs,ra⟩,q P1 H1 _ l1 h1 fun P2 H2 l2=>?_⟩;have sq:g_ X.K H2 a vs:=l2.tup ra;have is2:=aH.lt l2 is;refine⟨fun j hj=>?_,fun j h1 h2=>⟨vs,sq,by rw[is2.len];exact h1⟩,fun j x H' y hj=>⟨y.1,?_⟩⟩
  ·obtain⟨v,ev,_⟩:=aH.get is2 (xah hj);exact⟨vs,v,sq,ev⟩
  ·obtain⟨v,ev,iv⟩:=aH.get is2 (xah hj);have:=y.2 vs sq;rw[ev]at this;cases this;exact⟨_,xah hj,iv⟩
 ·rename_i c n M1 ef;cases e;exact⟨P0,H0,P,Os,env,M,_,_,k,ef,q⟩
 ·cases e
end
def Ir {K:Fgx}{C:Addr}(h1:PySem.W.findIn K (.ref C) "__getattribute__"=some (some (.builtin "BaseException.__getattribute__")))(h2:PySem.W.findIn K (.ref C) "__getattr__"=some none)(h3:PySem.W.mroIn K C (.type "BaseException")=some true):zG K C=true:=by
 simp only[zG,h1,h2,h3,xbr,xbY]
def Ur {K:Fgx}{C:Addr}(h1:zG K C=true)(h2:PySem.W.hasDictIn K C=true)(h3:PySem.W.findIn K (.ref C) "__class__"=some (some (.builtin "object.__class__")))(h4:PySem.W.specialIn K (.builtin "object.__class__") "__get__"=some (some (.builtin "getset_descriptor.__get__")))
  (h5:PySem.W.takesIn K (.builtin "object.__class__")=some true) (h6:PySem.W.mroIn K C (.type "object")=some true):pX K C=true:=by
 simp only[pX,h1,h2,h3,h4,h5,h6,xbr,xbY]
end E3
namespace E3
open PySem L2
section
variable {env:Env}{M M1 M2:Mm}{f g o v:E}{d e x:D}{i:Int}{k:Nat}{ds:List D}{s t:S}{c me fl:Str}{fs:List (Str×D)}{gg:G}{fa:EA}
def ziJ (h:M[k]? =some (.obj c fs)):G4 M c (.ref k)=some (k,fs):=by unfold G4;simp only[h,xbb]
def V8 (h1:v env M=some (.v x,M1))(h2:o env M1=some (.v (.ref k),M2))(h3:M2[k]? =some (.obj c fs))(h4:fs.length<1000):Dn c fl o v env M=some (.nx env,M2.set k (.obj c (putD fl x fs))):=by
 simp only[Dn,fP,h1,h2,ziJ h3,h4,xbb]
def Xo (h4:fa env M=some (.v ds,M1))(h5:gg (.ref M1.length::ds) (M1 ++ [.obj c []])=some (.v .non,M3)):Dl c gg fa env M=some (.v (.ref M1.length),M3):=by
 simp only[Dl,lZ,h4,h5]
theorem zhI {a:Int}:kZ (some (.ex c a,M))=some (.x c a,M):=rfl
noncomputable def tpR:O->Option (ResA×Mm)
 |some (.v (.tup ds),M1)=>some (.v ds,M1)
 |some (.x c n,M1)=>some (.x c n,M1)
 |_=>none
theorem zlt:Gu f env M=tpR (f env M):=rfl
theorem zlc:tpR (some (.v (.tup ds),M))=some (.v ds,M):=rfl
end
theorem vo.mono (a:vo P w K mg base j C n g)(h:j<=k):vo P w K mg base k C n g:=by
 obtain⟨f,fd,ps,h1,h2,h3⟩:=a;exact⟨f,fd,ps,h1,h2.mono h,h3⟩
end E3
namespace E3
open PySem PySem.Spec PyProof.Rows L2
def o_ (hN:X.N[i]? =some x)(hv:Ah X.env.scope x)(hd:(x==("__debug__":Str))=false:=by x_go)(hcd:(x==("__classdict__":Str))=false:=by x_go):SE X Wx m (.Name x pos) (ak i):=(zd2 hN hv hd hcd).bor
def lN (cs:List (Str×Nat))(env:Env):Env:=cs.map fun p=>(env[p.2]?).getD .un
noncomputable def tU (cs:List (Str×Nat)) (Os:List (Option Addr)):List (Option Addr):=cs.map fun p=>(Os[p.2]?).join
section
variable {K:Fgx}{mg:Mgx}{P0 P:Pl}{H0 H:Hp}{M:Mm}{Os:List (Option Addr)}{st:L2.St}{env:Env}{d:D}{v:V}
def Ox {cs:List (Str×Nat)}{i:Nat}{a:Addr}(h:(tU cs Os)[i]? =some (some a)):∃p,cs[i]? =some p/\Os[p.2]? =some (some a):=by
 unfold tU at h;rw[xax,xae]at h;obtain⟨p,e,h⟩:=h;exact⟨p,e,sU h⟩
def Ok.cap {cs:List (Str×Nat)}(k:Ok K mg P0 H0 P Os H M st env)(nd:(cs.map (·.2)).Nodup)(h:Is K P H d v):Ok K mg P0 H0 P (none::tU cs Os) H M (some v::tV cs st) (.val d::lN cs env) where
  hk:=k.hk
  base:=k.base
  b0:=k.b0
  slot:=fun i s e=>by
    cases i with
    |zero=>cases e;exact⟨v,rfl,h⟩
    |succ i=>
      rw[xcR]at e ⊢;rw[xcR];unfold lN at e;rw[xax,xae]at e;obtain⟨p,ep,e⟩:=e;have eo:((tU cs Os)[i]?).join=(Os[p.2]?).join:=by unfold tU;rw[xax,ep];rfl
      have es:((tV cs st)[i]?).join=(st[p.2]?).join:=by unfold tV;rw[xax,ep];rfl
      rw[eo,es]
      cases e':env[p.2]? with
      |none=>rw[e']at e;cases e;exact True.intro
      |some s'=>rw[e']at e;cases e;exact k.slot _ _ e'
  own:=fun a h=>by
    rw[xaq]at h;rcases h with h |h
    · cases h
    · obtain⟨i,hi⟩:=xc1.mp h;obtain⟨p,_,e⟩:=Ox hi;exact k.own a (xaW e)
  inj:=fun i j a e1 e2=>by
    cases i with
    |zero=>cases e1
    |succ i=>
      cases j with
      |zero=>cases e2
      |succ j=>
        rw[xcR]at e1 e2;obtain⟨p,h1,h2⟩:=Ox e1;obtain⟨q,h3,h4⟩:=Ox e2;have e:=k.inj _ _ a h2 h4;congr 1;have hi:(cs.map (·.2))[i]? =some p.2:=by rw[xax,h1];rfl
        have hj:(cs.map (·.2))[j]? =some p.2:=by rw[xax,h3,e];rfl
        have il:=(xag.mp hi).1;exact(List.getElem?_inj il nd).mp (hi.trans hj.symm)
  olen:=by simp[tU,lN]
  slen:=by simp[tV,lN]
end
section
variable {X:Cx}{Wx:XW}{m:Mode}{pos:Pos}
noncomputable def nG (q e:E) (env:Env):List D->List D->Mm->Option (List D×Mm)
  | [],acc,M=>some (acc,M)
  |d::ds,acc,M=>match q (.val d::env) M with
    | some (.v (.bl true), M1) => (match e (.val d::env) M1 with
      |some (.v y,M2)=>if acc.length + 1<sizeLine then nG q e env ds (acc ++ [y]) M2 else none
      |_=>none)
    |some (.v (.bl false),M1)=>nG q e env ds acc M1
    |_=>none
noncomputable def rm (cs:List (Str×Nat)) (fs:EA) (q e:E):E:=fun env M=>match fs env M with
  | some (.v ds, M1) => (match nG q e (lN cs env) ds [] M1 with
    |some (ys,M2)=>some (.v (.lst ys),M2)
    |none=>none)
  |some (.x c n,M1)=>some (.x c n,M1)
  |none=>none
def zO:∀env M r M',rm cs fs q e env M=some (.v r,M')->∃ds,r=.lst ds:=fun env M r M' h=>by
 unfold rm at h;split at h
 ·split at h
  ·cases h;exact⟨_,rfl⟩
  ·cases h
 ·cases h
 ·cases h
def zeT {K:Fgx}{mg:Mgx}{P1 P:Pl}{H1 H:Hp}{M:Mm}{D:Addr}{vs vs':List V}(l:LtE P1 H1 P H)(h:Hk K mg P H M)(hD:H1 D=none)(bD:P.bd D)(nc:∀k,k<P.n->P.io k≠D)(e:H D=some (.lst vs)):
  Lt P H P (upd H D (.lst vs'))/\LtE P1 H1 P (upd H D (.lst vs'))/\Hk K mg P (upd H D (.lst vs')) M:=by
 have lc:Lt P H P (upd H D (.lst vs')):=yR bD e Ka;refine⟨lc,⟨l.n,l.io,l.bd,l.bm,fun c o ec n=>?_,fun c z=>l.sure c (lc.sure c z),l.nw⟩,⟨h.n,fun j c ej=>(h.cell j c ej).lt lc fun o eo=>?_,h.inj,h.bd,fun c z q=>h.here c z (lc.sure c q)⟩⟩
 ·rw[aZ (fun z=>by subst z;rw[hD]at ec;cases ec)];exact l.keep c o ec n
 ·rw[aZ (nc j (by rw[h.n];exact(xag.mp ej).1))];exact eo
noncomputable def NR (K:Fgx) (mg:Mgx) (Wx:XW) (P0:Pl) (H0:Hp) (P:Pl) (H:Hp) (M':Mm) (R:Addr->Hp->Prop):Res->Prop
 |.v d=>∃ds,d=.lst ds/\∀P' a vs H',LtE P H P' H'->Hk K mg P' H' M'->H a=none->P'.bd a->(∀k,k<P'.n->P'.io k≠a)->H' a=some (.lst vs)->aH K P' H' ds vs->R a H'
 |.x c n=>Wx P0 H0 M' c n
def Fb {K:Fgx}{mg:Mgx}{cs:List (Str×Nat)}{fs:EA}{q e:E}{P0 P:Pl}{H0 H:Hp}{Os:List (Option Addr)}{M M':Mm}{st:L2.St}{env:Env}{r:Res}{R:Addr->Hp->Prop}(nd:(cs.map (·.2)).Nodup)
    (k:Ok K mg P0 H0 P Os H M st env) (h:rm cs fs q e env M=some (r,M')) (w:NR K mg Wx P0 H0 P H M' R r):Mh (tI K mg Wx fs) (zA K mg W0 q) (tE K mg W0 .val e) cs st H R:=by
  unfold rm at h;split at h
  · rename_i ds M1 ef;split at h
    rotate_left
    · cases h
    rename_i ys M2 ec;cases h;obtain ⟨ds', e', w⟩ := w;cases e';refine ⟨P0, H0, P, Os, env, M, _, _, k, ef, fun P1 H1 J l1 h1 wk D hD => ?_⟩;obtain ⟨l2, h2, nc⟩ := Eu (vs := []) h1 hD;refine ⟨fun i m vs H2=>m=ds.length - i/\i<=ds.length/\∃P2 M3 acc,LtE P1 H1 P2 H2/\Hk K mg P2 H2 M3/\P2.bd D/\(∀k,k<P2.n->P2.io k≠D)/\H2 D=some (.lst vs)/\aH K P2 H2 acc vs/\acc.length<sizeLine/\nG q e (lN cs env) (ds.drop i) acc M3=some (ys,M'),
      ⟨ds.length,by simp,xbL _,P1.bar D,M1,[],l2,h2,.inr rfl,nc,gq,rfl,by x_go,by rw[xeh];exact ec⟩,?_⟩
    rintro i m vs H2 ⟨rfl,hi,P2,M3,acc,l3,h3,bD,nD,eD,is,hz,ec⟩;refine⟨eD,?_⟩;obtain⟨w1,w2,w3⟩:=wk P2 H2 (l3.lt h1)
    by_cases hlt:i<ds.length
    · refine .inr ⟨w1 i hlt,by rw[is.len];exact hz,fun vs' H'=>∃P2 M3 acc,LtE P1 H1 P2 H'/\Hk K mg P2 H' M3/\P2.bd D/\(∀k,k<P2.n->P2.io k≠D)/\H' D=some (.lst vs')/\aH K P2 H' acc vs'/\acc.length<sizeLine/\nG q e (lN cs env) (ds.drop (i + 1)) acc M3=some (ys,M'),
        fun vs' H' z=>⟨ds.length - (i + 1),by omega,rfl,hlt,z⟩,fun x H' y=>?_⟩
      obtain⟨e3,d,ed,iv⟩:=w3 i x H' y hlt;subst e3;have ed':ds.drop i=d::ds.drop (i + 1):=by
        rw[xbh hlt];rw[xah hlt]at ed;rw[xaw ed]
      rw[ed']at ec;have kk:=((k.next l1 h1).next l3 h3).cap (cs:=cs) nd iv
      simp only[nG]at ec;split at ec
      · rename_i M4 eq;refine pW kk eq ⟨true,rfl,fun P4 H4 l4 h4=>?_⟩;dsimp only;rw[tG rfl];split at ec
        · rename_i y' M5 ee;split at ec
          · rename_i hz';refine aV (kk.next l4 h4) ee fun P5 v5 H5 l5 h5 i5=>?_
            have l45:=l4.trans l5;have eD5:H5 D=some (.lst vs):=l45.keep D _ eD (.inr nD);have nD5:∀k,k<P5.n->P5.io k≠D:=l45.nc eD nD;obtain⟨g1,g2,g3⟩:=zeT (vs':=vs ++ [v5]) (l3.trans l45) h5 hD (l45.bm D bD) nD5 eD5;refine⟨eD5,P5,M5,acc ++ [y'],g2,g3,l45.bm D bD,nD5,gq,aH.append (aH.lt ((l45.lt h3).trans g1) is) (aH.one (Is.lt g1 i5)),by rw[xam];exact hz',ec⟩
          · cases ec
        · cases ec
      · rename_i M4 eq;refine pW kk eq ⟨false,rfl,fun P4 H4 l4 h4=>?_⟩;dsimp only;rw[xab (by decide)];exact⟨P4,M4,acc,l3.trans l4,h4,l4.bm D bD,l4.nc eD nD,l4.keep D _ eD (.inr nD),aH.lt (l4.lt h3) is,hz,ec⟩
      · cases ec
    · have ei:i=ds.length:=by omega
      subst ei;rw[xb6]at ec;cases ec;exact .inl ⟨w2 _ (xad _) (xad _),w P2 D vs H2 (l1.trans l3) h3 (l1.sure D hD) bD nD eD is⟩
  · rename_i c n M1 ef;cases h;exact⟨P0,H0,P,Os,env,M,_,_,k,ef,w⟩
  · cases h
def SQ (X:Cx)(ifs:List Expr)(q:E):Prop:=tO X ifs (zA X.K X.mg W0 q)
def B_:SQ X [] (aj (.bl true)):=fun pins s σ H Q I h=>by
 obtain⟨P0,H0,P,Os,env,M,r,M',k,e,q⟩:=h;cases e;obtain⟨b,e2,q⟩:=q;cases e2;exact zce pins s σ H Q I (q P H (LtE.refl P H) k.hk)
def zhG (h:ST X W0 c q):SQ X [c] q:=zdn h
section
variable {elt iter:Expr}{ifs:List Expr}{scope:Scope}{fs:EA}{q e:E}
theorem Dv (x:Str)(cs:List (Str×Nat))(hc:X.calm=true)(nd:(cs.map (·.2)).Nodup)(hi:SI X Wx (.Name x px) iter fs)
  (hq:∀(cl:List (Str×Addr)) (C:Addr) (s₀:Shared) (H₀:Hp) (ex:List Addr) (pn:Pnx),SQ (kW X (x::cs.map (·.1)) scope cl C s₀ H₀ ex pn) ifs q)
  (he:∀(cl:List (Str×Addr)) (C:Addr) (s₀:Shared) (H₀:Hp) (ex:List Addr) (pn:Pnx),SE (kW X (x::cs.map (·.1)) scope cl C s₀ H₀ ex pn) W0 .val elt e)
  (ok:Al X.N X.env.scope x cs scope=true:=by kernel_rfl) (hs:∀x,foldedSetIterable iter X.env x=pure x:=by intro _;rfl):
  SN X Wx (.ListComp elt [⟨.Name x px,iter,ifs,0⟩] scope pos) (rm cs fs q e):=by
 refine gC (ze1 (tq:=zA X.K X.mg W0 q) (te:=tE X.K X.mg W0 .val e) x cs hc hi hq he ok hs) ?_;rintro st H Q ⟨P0,H0,P,Os,env,M,r,M',k,e,w⟩;refine Fb nd k e ?_
 cases r with
 |v d=>exact w
 |x c n=>exact w
def zfj {K:Fgx}{mg:Mgx}{P P':Pl}{H H':Hp}{M M':Mm}{a:Addr}{vs:List V}{ds:List D}(k:Hk K mg P H M)(l:LtE P H P' H')(h:Hk K mg P' H' M')(ha:H a=none)(nc:∀j,j<P'.n->P'.io j≠a)(ea:H' a=some (.lst vs))(is:aH K P' H' ds vs):
  LtE P H (P'.less (· ≠a)) H'/\Hk K mg (P'.less (· ≠a)) H' M'/\Is K (P'.less (· ≠a)) H' (.lst ds) (.ref a):=by
 have l2 : Lt P' H' (P'.less (· ≠ a)) H' := ⟨xad _, fun _ _ => rfl, fun c z => .inl z.1, fun _ _ e _ => e, fun _ z => z⟩;exact ⟨⟨l.n,l.io,fun b z=>l.bd b z.1,fun b z=>⟨l.bm b z,fun q=>k.here b z (q ▸ ha)⟩,l.keep,l.sure,l.nw⟩,
  ⟨h.n,fun j c e=>(h.cell j c e).lt l2 fun _ z=>z,h.inj,fun j hj=>⟨h.bd j hj,nc j hj⟩,fun b z=>h.here b z.1⟩,
  a,vs,rfl,.inl ⟨fun z=>z.2 rfl,.inl ea⟩,aH.less is⟩
theorem zfp (x:Str)(cs:List (Str×Nat))(hN:X.N.Nodup)(hk:X.N[i]? =some y)(hy:Loc X.env.scope y)(hc:X.calm=true)(nd:(cs.map (·.2)).Nodup)(hi:SI X Wx (.Name x px) iter fs)
  (hq:∀(cl:List (Str×Addr)) (C:Addr) (s₀:Shared) (H₀:Hp) (ex:List Addr) (pn:Pnx),SQ (kW X (x::cs.map (·.1)) scope cl C s₀ H₀ ex pn) ifs q)
  (he:∀(cl:List (Str×Addr)) (C:Addr) (s₀:Shared) (H₀:Hp) (ex:List Addr) (pn:Pnx),SE (kW X (x::cs.map (·.1)) scope cl C s₀ H₀ ex pn) W0 .val elt e)
  (ok:Al X.N X.env.scope x cs scope=true:=by kernel_rfl) (hs:∀x,foldedSetIterable iter X.env x=pure x:=by intro _;rfl)
  (hsw:swapsWith (.ListComp elt [⟨.Name x px,iter,ifs,0⟩] scope pos) (some (.Name y py)) spos.line X.env=pure true:=by rfl)
  (hf:X.fn y=true\/X.env.scope.names.lookup y=some .local:=by first |exact .inl rfl |exact .inr rfl):
  SS X Wx (.Assign [.Name y py] (.ListComp elt [⟨.Name x px,iter,ifs,0⟩] scope pos) spos) (aM i (rm cs fs q e)):=by
 refine nu (YX (tq:=zA X.K X.mg W0 q) (te:=tE X.K X.mg W0 .val e) x cs hN hk hy hc hi hq he ok hs hsw hf) ?_;rintro D st H ⟨P0,H0,P,Os,env,M,out,M',k,ee,w⟩;unfold aM at ee;rcases mZ ee with⟨d,M1,e1,ee⟩ |⟨c,n,e1,rfl⟩
 ·obtain⟨ds,rfl⟩:=zO _ _ _ _ e1;split at ee
  ·rename_i hl;cases ee;refine Fb nd k e1 ⟨ds,rfl,fun P1 a vs H1 l1 h1 ha ba nc ea is=>?_⟩;obtain⟨l2,h2,i2⟩:=zfj k.hk l1 h1 ha nc ea is;exact w _ _ _ _ (l2.lt k.hk) ((k.next l2 h2).asg hl i2)
  ·cases ee
 ·exact Fb nd k e1 w
theorem zdb (x:Str)(cs:List (Str×Nat))(hN:X.N.Nodup)(hk:X.N[i]? =some y)(hy:Loc X.env.scope y)(hc:X.calm=true)(nd:(cs.map (·.2)).Nodup)(hi:SI X Wx (.Name x px) iter fs)
  (hq:∀(cl:List (Str×Addr)) (C:Addr) (s₀:Shared) (H₀:Hp) (ex:List Addr) (pn:Pnx),SQ (kW X (x::cs.map (·.1)) scope cl C s₀ H₀ ex pn) ifs q)
  (he:∀(cl:List (Str×Addr)) (C:Addr) (s₀:Shared) (H₀:Hp) (ex:List Addr) (pn:Pnx),SE (kW X (x::cs.map (·.1)) scope cl C s₀ H₀ ex pn) W0 .val elt e)
  (ok:Al X.N X.env.scope x cs scope=true:=by kernel_rfl) (hs:∀x,foldedSetIterable iter X.env x=pure x:=by intro _;rfl)
  (hsw:swapsWith (.ListComp elt [⟨.Name x px,iter,ifs,0⟩] scope pos) (some (.Name y py)) spos.line X.env=pure true:=by rfl)
  (hf:X.fn y=true\/X.env.scope.names.lookup y=some .local:=by first |exact .inl rfl |exact .inr rfl):
  SS X Wx (.Assign [.Name y py] (.ListComp elt [⟨.Name x px,iter,ifs,0⟩] scope pos) spos) (u_ i (rm cs fs q e)):=by
 refine nu (YX (tq:=zA X.K X.mg W0 q) (te:=tE X.K X.mg W0 .val e) x cs hN hk hy hc hi hq he ok hs hsw hf) ?_;rintro D st H ⟨P0,H0,P,Os,env,M,out,M',k,ee,w⟩;unfold u_ at ee;rcases mZ ee with⟨d,M1,e1,ee⟩ |⟨c,n,e1,rfl⟩
 ·obtain⟨ds,rfl⟩:=zO _ _ _ _ e1;dsimp only at ee;split at ee
  ·rename_i hl;cases ee;refine Fb nd k e1 ⟨ds,rfl,fun P1 a vs H1 l1 h1 ha ba nc ea is=>?_⟩;exact w _ _ _ _ (l1.lt k.hk) (k.mine l1 h1 hl ha ba nc ea is)
  ·cases ee
 ·exact Fb nd k e1 w
end
end
section
variable {X:Cx}{Wx:XW}{m:Mode}{pos:Pos}
noncomputable def wY (f:E):E:=fun env M=>bnd (f env M) fun d M1=>match d with
  | .ref j => (match M1[j]? with
    | some (.lst ds) => (match ds[ds.length - 1]? with
      |some z=>some (.v z,M1.set j (.lst ds.dropLast))
      |none=>none)
    |_=>none)
  |_=>none
theorem aH.dropLast {K:Fgx}{P:Pl}{H:Hp}{ds:List D}{vs:List V}(h:aH K P H ds vs):aH K P H ds.dropLast vs.dropLast:=by
 rw[xei,xei,h.len];exact h.take _
def zdQ (ho:SE X Wx .val o f)(hbase:attributeBase o "pop" X.env (eval o X.env)=eval o X.env:=by rfl)(hline:(p.endLine==pos.line)=true:=by rfl):
  SE X Wx m (.Call (.Attribute o "pop" p) [] [] pos) (wY f):=by
 refine gC (zgg xcQ PySem.F.slot_list_pop PySem.F.type_list_pop zhs ho hbase hline) ?_;rintro st H Q ⟨P0,H0,P,Os,env,M,r,M',k,e,q⟩;unfold wY at e;rcases gD e with⟨d,M1,e1,e⟩ |⟨c,n,e1,rfl⟩
 ·cases d<;>simp only[reduceCtorEq]at e
  rename_i j;split at e
  rotate_left
  ·cases e
  rename_i ds em;split at e
  rotate_left
  ·cases e
  rename_i z ez;cases e;refine aV k e1 fun P1 v1 H1 l1 h1 i1=>?_;obtain⟨jl,rfl⟩:j<P1.n/\v1=.ref (P1.io j):=i1;obtain⟨vs,ev,is⟩:=h1.cell j _ em;obtain⟨v,evt,iv⟩:=is.get ez;have lc:Lt P1 H1 P1 (upd H1 (P1.io j) (.lst vs.dropLast)):=yR (h1.bd j jl) ev Ka;obtain⟨l3,l3e,h3⟩:=h1.set (c':=.lst ds.dropLast) (o':=.lst vs.dropLast) em ⟨_,gq,(aH.lt lc is).dropLast⟩;refine⟨.inl ⟨rfl,vs,.inl (.inl ev)⟩,P1.io j,vs,v,rfl,rfl,ev,by rw[is.len];exact evt,?_⟩;exact q P1 v _ (l1.trans l3e) h3 (gB.of h3 (Is.lt l3 iv))
 ·exact aV k e1 q
end
def toKey:D->Option Key
 |.int i=>some (.inl i)
 |.str z=>some (.inr z)
 |_=>none
def gM (kvs:List (Key×D))(k:Key):Option D:=(kvs.find? fun kv=>decide (kv.1=k)).map (·.2)
noncomputable def pJ (kvs:List (Key×D)) (k:Key) (v:D):List (Key×D):=
 if (kvs.any fun kv=>decide (kv.1=k))=true then kvs.map (fun kv=>if kv.1=k then(kv.1,v) else kv) else kvs ++ [(k,v)]
section
variable {K:Fgx}{mg:Mgx}{P:Pl}{H:Hp}{M:Mm}
def pA (K:Fgx)(P:Pl)(H:Hp)(kvs:List (Key×D))(vs:List (Key×V)):Prop:=vs.map (·.1)=kvs.map (·.1)/\aH K P H (kvs.map (·.2)) (vs.map (·.2))
def key_is (h:toKey d=some k)(i:Is K P H d v):v=kV k:=by
 unfold toKey at h;split at h
 ·cases h;cases i;rfl
 ·cases h;cases i;rfl
 ·cases h
def T9:pA K P H (p::kvs) (q::vs) ↔ q.1=p.1/\Is K P H p.2 q.2/\pA K P H kvs vs:=by
 constructor
 ·rintro⟨h1,v,r,e1,i,q⟩;simp only[xak,xbV]at h1 e1;obtain⟨rfl,rfl⟩:=e1;exact⟨h1.1,i,h1.2,q⟩
 ·rintro⟨h1,i,h2,q⟩;exact⟨by simp[h1,h2],_,_,rfl,i,q⟩
theorem T_:∀{kvs:List (Key×D)} {vs:List (Key×V)},pA K P H kvs vs->match gM kvs k with
    |some d=>∃v,gG vs k=some v/\Is K P H d v
    |none=>gG vs k=none
  | [],[],_=>rfl
  | [],_::_,h=>by cases h.1
  |_::_,[],h=>by cases h.1
  |p::kvs,q::vs,h=>by
    obtain⟨h1,i,h2⟩:=T9.mp h
    by_cases e:p.1=k
    · have e':q.1=k:=h1.trans e;have a:gM (p::kvs) k=some p.2:=by simp[gM,xa6,e]
      rw[a];exact⟨q.2,Mw e',i⟩
    · have e':¬ q.1=k:=fun z=>e (h1.symm.trans z);have a:gM (p::kvs) k=gM kvs k:=by simp[gM,xa6,e]
      rw[a,Mv e'];exact T_ h2
theorem tb_any:∀{kvs:List (Key×D)} {vs:List (Key×V)},vs.map (·.1)=kvs.map (·.1)->(vs.any fun kv=>decide (kv.1=k))=(kvs.any fun kv=>decide (kv.1=k))
  | [],[],_=>rfl
  | [],_::_,h=>by cases h
  |_::_,[],h=>by cases h
  |p::kvs,q::vs,h=>by
    simp only[xak,xbV]at h;rw[xbm,xbm,h.1,tb_any h.2]
theorem zdS (i:Is K P H d v):∀{kvs:List (Key×D)} {vs:List (Key×V)},pA K P H kvs vs->pA K P H (kvs.map fun kv=>if kv.1=k then(kv.1,d) else kv) (vs.map fun kv=>if kv.1=k then(kv.1,v) else kv)
  | [],[],h=>h
  | [],_::_,h=>by cases h.1
  |_::_,[],h=>by cases h.1
  |p::kvs,q::vs,h=>by
    obtain⟨h1,i1,h2⟩:=T9.mp h;rw[xak,xak];refine T9.mpr ⟨?_,?_,zdS i h2⟩
    · split<;>split<;>exact h1
    · rw[h1]
      split
      · exact i
      · exact i1
def zgU (i:Is K P H d v)(h:pA K P H kvs vs):pA K P H (pJ kvs k d) (putK vs k v):=by
 unfold pJ putK;rw[tb_any h.1]
 split
 ·exact zdS i h
 ·refine⟨by rw[xaP,xaP,h.1];rfl,?_⟩;rw[xaP,xaP];exact aH.append h.2 (aH.one i)
def zf7 (h:pA K P H kvs vs):vs.length=kvs.length:=by
 have:=congrArg List.length h.1
 simpa using this
def Yp:¬ Fx (.dK vs):=fun z=>by rcases z with⟨_,z⟩ |⟨_,_,z⟩ |⟨_,z⟩ |⟨_,z⟩<;>cases z
end
section
variable {X:Cx}{Wx:XW}{m:Mode}{pos:Pos}
noncomputable def Ao (M:Mm) (d:D):Option (Nat×List (Key×D)):=match d with
  | .ref k => (match M[k]? with
    |some (.dct kvs)=>some (k,kvs)
    |_=>none)
  |_=>none
def VH (h:Ao M d=some (k,kvs)):d=.ref k/\M[k]? =some (.dct kvs):=by
 unfold Ao at h;split at h
 ·split at h
  ·cases h;rename_i e;exact⟨rfl,e⟩
  ·cases h
 ·cases h
noncomputable def dk (M:Mm) (d y:D):Option (Nat×List (Key×D)×Key):=match Ao M d with
 |some p=>(toKey y).map fun k=>(p.1,p.2,k)
 |none=>none
def O7 (h:dk M d y=some (j,kvs,k)):d=.ref j/\M[j]? =some (.dct kvs)/\toKey y=some k:=by
 unfold dk at h;split at h
 ·rename_i p ep;rw[xae]at h;obtain⟨k',ek,h⟩:=h;cases h;obtain⟨h1,h2⟩:=VH (k:=p.1) (kvs:=p.2) ep;exact⟨h1,h2,ek⟩
 ·cases h
noncomputable def u6 (b:Bool) (g f:E):E:=fun env M=>bnd (g env M) fun y M1=>bnd (f env M1) fun d M2=>match dk M2 d y with
 |some (_,kvs,k)=>some (.v (.bl (if b then(gM kvs k).isSome else !(gM kvs k).isSome)),M2)
 |none=>none
def zid {b:Bool}{f g:E}{st:L2.St}{H:Hp}{Q:VK}(w:tE X.K X.mg Wx m (u6 b g f) st H Q):(if b then Ii (tE X.K X.mg Wx .val g) (tE X.K X.mg Wx .val f) st H Q else zfb (tE X.K X.mg Wx .val g) (tE X.K X.mg Wx .val f) st H Q):=by
  obtain⟨P0,H0,P,Os,env,M,r,M',k,e,q⟩:=w;have key:tE X.K X.mg Wx .val g st H fun y H1=>tE X.K X.mg Wx .val f st H1 fun x H2=>∃a o,x=.ref a/\lY H2 a y o/\Q (.bl (if b then o.isSome else !o.isSome)) H2:=by
    unfold u6 at e;rcases gD e with⟨y,M1,e1,e⟩ |⟨c,n,e1,rfl⟩
    · refine aV k e1 fun P1 v1 H1 l1 h1 i1=>?_;have k1:=k.next l1 h1
      rcases gD e with⟨d,M2,e2,e⟩ |⟨c,n,e2,rfl⟩
      · refine aV k1 e2 fun P2 v2 H2 l2 h2 i2=>?_;split at e
        · rename_i j kvs key ed;cases e;obtain⟨rfl,em,ek⟩:=O7 ed;obtain⟨jl,rfl⟩:j<P2.n/\v2=.ref (P2.io j):=i2;obtain⟨vs,ev,en,is⟩:=h2.cell j _ em;have g:=T_ (k:=key) (kvs:=kvs) (vs:=vs) ⟨en,is⟩;have eo:(gG vs key).isSome=(gM kvs key).isSome:=by
            cases hd:gM kvs key with
            |none=>rw[hd]at g;have g':gG vs key=none:=g;rw[g'];rfl
            |some d=>rw[hd]at g;obtain⟨v,gv,_⟩:=g;rw[gv];rfl
          refine⟨_,gG vs key,rfl,by rw[key_is ek i1];exact lY.k ev,?_⟩;rw[eo];exact q P2 _ H2 (l1.trans l2) h2 (gB.of h2 (show Is _ _ _ (.bl _) _ from rfl))
        · cases e
      · exact aV k1 e2 q
    · exact aV k e1 q
  cases b with
  |true=>exact key
  |false=>exact key
def zgQ (hu:X.A.units + 60<cLine)(hi:SE X Wx .val i g)(ho:SE X Wx .val o f)(hm:behindInMarks .In o=false:=by rfl):ST X Wx (.Compare i [.In] [o] pos) (u6 true g f):=
 Bq (Ri (zic (xcJ (xcF (by decide) _) hu) hi ho) hm) fun _ _ _ w=>zid (b:=true) (Ij w)
noncomputable def Hu (f g v:E):S:=fun env M=>fP (v env M) fun x M1=>fP (f env M1) fun d M2=>fP (g env M2) fun y M3=>match dk M3 d y with
 |some (j,kvs,k)=>if kvs.length<sizeLine then some (.nx env,M3.set j (.dct (pJ kvs k x))) else none
 |none=>none
def zfE (hu:X.A.units + 60<cLine)(ho:SE X Wx .val o f)(hi:SE X Wx .val i g)(he:SE X Wx .val e v)(hs:swapsWith e (some (.Subscript o i pos')) pos.line X.env=pure false:=by rfl):
  SS X Wx (.Assign [.Subscript o i pos'] e pos) (Hu f g v):=by
 refine nu (zeU (xcJ (xcF (by decide) _) hu) ho hi he hs) ?_;rintro D st H ⟨P0,H0,P,Os,env,M,out,M',k,e,q⟩;unfold Hu at e;rcases mZ e with⟨x,M1,e1,e⟩ |⟨c,n,e1,rfl⟩
 ·refine aV k e1 fun P1 v1 H1 l1 h1 i1=>?_;have k1:=k.next l1 h1
  rcases mZ e with⟨d,M2,e2,e⟩ |⟨c,n,e2,rfl⟩
  ·refine aV k1 e2 fun P2 v2 H2 l2 h2 i2=>?_;have k2:=k1.next l2 h2
   rcases mZ e with⟨y,M3,e3,e⟩ |⟨c,n,e3,rfl⟩
   ·refine aV k2 e3 fun P3 v3 H3 l3 h3 i3=>?_;split at e
    ·rename_i j kvs key ed;split at e
     ·rename_i hl;cases e;obtain⟨rfl,em,ek⟩:=O7 ed;obtain⟨jl,rfl⟩:j<P2.n/\v2=.ref (P2.io j):=i2;obtain⟨vs,ev,en,is⟩:=h3.cell j _ em;have jl3:j<P3.n:=xao jl l3.n;have eio:P3.io j=P2.io j:=l3.io j jl;have ix:=Is.lt ((l2.lt h1).trans (l3.lt h2)) i1;have lc:Lt P3 H3 P3 (upd H3 (P3.io j) (.dK (putK vs key v1))):=yR (h3.bd j jl3) ev Yp;have tp:=zgU (k:=key) ix ⟨en,is⟩;obtain⟨l4,l4e,h4⟩:=h3.set (c':=.dct (pJ kvs key x)) (o':=.dK (putK vs key v1)) em ⟨_,gq,tp.1,aH.lt lc tp.2⟩;rw[eio]at l4 l4e h4 ev;refine⟨_,_,rfl,by rw[key_is ek i3];exact wA.k ev (by rw[zf7 ⟨en,is⟩];exact hl),?_⟩;exact q _ _ _ _ ((l1.lt k.hk).trans ((l2.lt h1).trans ((l3.lt h2).trans l4))) ((k2.next l3 h3).next l4e h4)
     ·cases e
    ·cases e
   ·exact aV k2 e3 q
  ·exact aV k1 e2 q
 ·exact aV k e1 q
inductive ResP where
 |v (ps:List (D×D)) |x (c:Str) (n:Int)
abbrev Uv:=Env->Mm->Option (ResP×Mm)
def Bp:Uv:=fun _ M=>some (.v [],M)
noncomputable def keysOf:List (D×D)->Option (List (Key×D))
  | []=>some []
  |p::ps=>match toKey p.1,keysOf ps with
    |some k,some r=>some ((k,p.2)::r)
    |_,_=>none
def zgL (kvs more:List (Key×D)):List (Key×D):=more.foldl (fun acc kv=>pJ acc kv.1 kv.2) kvs
noncomputable def BJ (ps:Uv):E:=fun env M=>match ps env M with
  | some (.v ds, M1) => (match keysOf ds with
    |some kvs=>if kvs.length<=15 then some (.v (.ref M1.length),M1 ++ [.dct (zgL [] kvs)]) else none
    |none=>none)
  |some (.x c n,M1)=>some (.x c n,M1)
  |none=>none
def zef {K:Fgx}{mg:Mgx}{P:Pl}{H:Hp}{M:Mm}{p:Addr}{o:HO}(h:Hk K mg P H M)(hp:H p=none):LtE P H (P.bar p) (upd H p o)/\Hk K mg (P.bar p) (upd H p o) M/\∀k,k<P.n->P.io k≠p:=by
 have s:=yg (o:=o) hp;have nc:∀k,k<P.n->P.io k≠p:=fun k hk z=>h.here _ (h.bd k hk) (z ▸ hp);have l:LtE P H (P.bar p) (upd H p o):=⟨xad _,fun _ _=>rfl,fun a z=>Or.imp (fun q=>q) (fun(q:a=p)=>by rw[q];exact hp) z,fun a z=>.inl z,fun a o e _=>s a o e,fun a z=>s.free z,fun k h1 h2=>absurd h1 (xdO.mpr h2)⟩;refine⟨l,⟨h.n,fun k c e=>(h.cell k c e).lt (l.lt h) fun u eu=>s _ _ eu,h.inj,fun k hk=>.inl (h.bd k hk),fun a z q=>?_⟩,nc⟩;rcases z with z |z
 ·exact h.here a z (s.free q)
 ·subst z;rw[gq]at q;cases q
def zcz {K:Fgx}{mg:Mgx}{P0 P:Pl}{H0 H:Hp}{M:Mm}{a:Addr}{o o':HO}{c:Cl}(l:LtE P0 H0 P H)(h:Hk K mg P H M)(ha:H0 a=none)(ba:P.bd a)(nc:∀k,k<P.n->P.io k≠a)(ea:H a=some o)(nf:¬ Fx o)(hc:∀P',Lt P H P' (upd H a o')->Ac K mg P' (upd H a o') a c):
  ∃P',LtE P0 H0 P' (upd H a o')/\Hk K mg P' (upd H a o') (M ++ [c])/\Is K P' (upd H a o') (.ref M.length) (.ref a):=by
 have hn:P.n=M.length:=h.n
 let P2:Pl:={io:=fun j=>if j=P.n then a else P.io j,n:=P.n + 1,bd:=P.bd}
 have io:∀j,j<P.n->P2.io j=P.io j:=fun j hj=>xab (by omega);have ioN:P2.io P.n=a:=tG rfl;have lc:Lt P H P (upd H a o'):=yR ba ea nf;have l2:Lt P H P2 (upd H a o'):=⟨xcC _,io,fun _ z=>.inl z,lc.keep,lc.sure⟩;refine⟨P2,⟨xcr l.n,fun j hj=>(io j (xao hj l.n)).trans (l.io j hj),l.bd,l.bm,fun b u e z=>?_,fun b z=>l.sure b (lc.sure b z),fun j h2 h3=>?_⟩,⟨by rw[xam, <-hn];rfl,fun j d ej=>?_,fun i j hi hj e=>?_,fun j hj=>?_,fun b z q=>h.here b z (lc.sure b q)⟩,?_⟩
 ·rw[aZ (fun z=>by subst z;rw[ha]at e;cases e)];exact l.keep b u e z
 ·rcases xaS j P.n with z |z
  ·rw[io j z];exact l.nw j h2 z
  ·have:j=P.n:=xaM (xaI h3) z;rw[this,ioN];exact ha
 ·rcases xaS j P.n with z |z
  ·rw[xa0 (by rw[<-hn];exact z)]at ej;rw[io j z];exact(h.cell j d ej).lt l2 fun u eu=>by rw[aZ (nc j z)];exact eu
  ·have jl:=(xag.mp ej).1;rw[xam,xaE, <-hn]at jl;have:j=P.n:=by omega
   subst this;rw[xa4 (by rw[hn];exact xad _),hn,xbN]at ej;cases ej;rw[ioN];exact hc P2 l2
 ·rcases xaS i P.n with z |z
  ·rcases xaS j P.n with y |y
   ·rw[io i z,io j y]at e;exact h.inj i j z y e
   ·have:j=P.n:=xaM (xaI hj) y;rw[io i z,this,ioN]at e;exact absurd e (nc i z)
  ·have iN:i=P.n:=xaM (xaI hi) z;rcases xaS j P.n with y |y
   ·rw[iN,ioN,io j y]at e;exact absurd e.symm (nc j y)
   ·rw[iN];exact xaM y (xaI hj)
 ·rcases xaS j P.n with z |z
  ·rw[io j z];exact h.bd j z
  ·have:j=P.n:=xaM (xaI hj) z;rw[this,ioN];exact ba
 ·exact⟨by show _<P.n + 1;rw[hn];exact xbP _,by rw[<-hn,ioN]⟩
def zfr:SE X Wx m (.Dict [] [] pos) (BJ Bp):=by
 refine gC zdl ?_;rintro st H Q ⟨P0,H0,P,Os,env,M,r,M',k,e,q⟩;cases e;intro p hp;obtain⟨l1,h1,nc⟩:=zef (o:=.dK []) k.hk hp;obtain⟨P2,l2,h2,i2⟩:=zcz (o':=.dK []) (c:=.dct []) l1 h1 hp (.inr rfl) nc gq Yp fun P' _=>⟨[],gq,rfl,rfl⟩;rw[zes]at l2 h2 i2;exact q P2 _ _ l2 h2 (gB.of h2 i2)
noncomputable def pq (M:Mm) (d:D):String:=match d with
  | .ref k => (match M[k]? with
    |some (.lst _)=>"list"
    |some (.dct _)=>"dict"
    |_=>"")
  |d=>Il d
noncomputable def yX (tb:String->String->Option Bool) (T:String) (f:E):E:=fun env M=>bnd (f env M) fun d M1=>if pq M1 d="" then none else(tb (pq M1 d) T).map fun b=>(.v (.bl b),M1)
theorem zcA:lW X (.builtin "isinstance") (fun xs H Q=>∃(x:V) (T:String) (d:D) (P:Pl) (M:Mm) (b:Bool),xs=[x,.ty T]/\Hk X.K X.mg P H M/\gK X.K P H d x/\pq M d≠""/\PySem.W.kitOne X.K (.type (pq M d)) (.type T)=some b/\Q (.bl b) H):=by
  intro pins s σ H xs us Q I r h;obtain⟨x,T,d,P,M,b,rfl,hk,i,ne,e,q⟩:=h;have old:pq M d=Il (vw M d)->wpAny (model X.prog X.w) X.A (call (.builtin "isinstance") us) (EP X pins σ Q) X.xe s:=fun et=>by
    rw[et]at ne e;exact zb5 pins s σ H _ us Q I r ⟨x,T,vw M d,P,b,rfl,gK.vw hk i,ne,e,q⟩
  cases d with
  |ref k=>
    cases em:M[k]? with
    |none=>simp[pq,em]at ne
    |some c=>
      cases c with
      |lst ds=>exact old (by simp[pq,vw,em,Il])
      |obj c fs=>simp[pq,em]at ne
      |dcf kvs=>simp[pq,em]at ne
      |dct kvs=>
        obtain⟨u,w',rfl,rx,rT⟩:=vals2 r;cases rT;obtain⟨kl,rfl⟩:k<P.n/\x=.ref (P.io k):=i;cases rx;obtain⟨vs,ev,_⟩:=hk.cell k _ em;obtain⟨_,_,vs',_,o,es,ep,h1,h2,_⟩:=I.hok _ _ ev;simp only[pq,em]at e;exact xa5 xdH I.kIn ⟨o,h1,h2.1⟩ e (fun z=>nomatch z) fun tk=>⟨.bl b,H,I.tok _,rfl,q⟩
  |non=>exact old rfl
  |bl _=>exact old rfl
  |int _=>exact old rfl
  |str _=>exact old rfl
  |tup _=>exact old rfl
  |lst _=>exact old rfl
def zfP (ht:∀t b,tb t T=some b->PySem.W.kitOne X.K (.type t) (.type T)=some b)(he:SE X Wx .bor e f)(hg:Gl X "isinstance")(hm:X.mg "isinstance"=none)(hg':Gl X (Str.ofString T))(hm':X.mg (Str.ofString T)=none)(hT:bootBuiltins (Str.ofString T)=some (.type T))
  (n1:Str.ofString T≠"__name__":=by x_go) (n2:(Str.ofString T==("__debug__":Str))=false:=by x_go) (hs:starEach [e,.Name (Str.ofString T) p'] X.env=(false,eval e X.env)::starEach [.Name (Str.ofString T) p'] X.env:=by rfl):
  SE X Wx m (.Call (.Name "isinstance" p) [e,.Name (Str.ofString T) p'] [] pos) (yX tb T f):=by
 have pT:PE X (.Name (Str.ofString T) p') (tC (.ty T)):=YG hg' hm' hT rfl n1 n2;refine gC (Km zcA hg hm boot_isinstance (q_ he (q_ pT wU) hs) (by x_go) (by x_go) hs rfl) ?_;rintro st H Q ⟨P0,H0,P,Os,env,M,r,M',k,e,q⟩;unfold yX at e;rcases gD e with⟨d,M1,e1,e⟩ |⟨c,n,e1,rfl⟩
 ·split at e
  ·cases e
  ·rename_i hne;rw[xae]at e;obtain⟨b,eb,e⟩:=e;cases e;exact aV k e1 fun P1 v1 H1 l1 h1 i1=>⟨v1,T,d,P1,_,b,rfl,h1,i1,hne,ht _ _ eb,q P1 _ H1 l1 h1 (gB.of h1 (show Is _ _ _ (.bl b) _ from rfl))⟩
 ·exact aV k e1 q
end
section
variable {X:Cx}{Wx:XW}{m:Mode}{pos:Pos}
noncomputable def DP:D->Option Str
 |.str z=>if z.length<=sizeLine then some z else none
 |.int i=>if i.natAbs.log2<1920 then some (toString i) else none
 |_=>none
abbrev EJ:=Str->Env->Mm->O
def pF:EJ:=fun out _ M=>if out.length<=sizeLine then some (.v (.str out),M) else none
noncomputable def pD (z:Str) (ps:EJ):EJ:=fun out env M=>if (out ++ z).length<=sizeLine then ps (out ++ z) env M else none
noncomputable def tY (f:E) (ps:EJ):EJ:=fun out env M=>bnd (f env M) fun d M1=>match DP d with
 |some y=>if (out ++ y).length<=sizeLine then ps (out ++ y) env M1 else none
 |none=>none
noncomputable def tJ (K:Fgx) (mg:Mgx) (Wx:XW) (ps:EJ):TJ:=fun out st H Q=>tE K mg Wx .val (ps out) st H Q
def SJ (X:Cx)(Wx:XW)(vs:List Expr)(ps:EJ):Prop:=PJ X vs (tJ X.K X.mg Wx ps)
def Kp (h:PJ X vs t)(w:∀out σ H Q,t' out σ H Q->t out σ H Q):PJ X vs t':=fun pins s σ H out Q I hw=>h pins s σ H out Q I (w out σ H Q hw)
def zdZ:SJ X Wx [] pF:=by
 refine Kp Rb ?_;rintro out st H Q ⟨P0,H0,P,Os,env,M,r,M',k,e,q⟩;unfold pF at e;split at e
 ·rename_i hl;cases e;exact⟨hl,q P _ H (LtE.refl P H) k.hk rfl⟩
 ·cases e
def zdT (h:SJ X Wx vs ps)(hz:z.length<=sizeLine:=by x_go):SJ X Wx (.Constant (.str z) n pos::vs) (pD z ps):=by
 refine Kp (Ko h hz) ?_;rintro out st H Q ⟨P0,H0,P,Os,env,M,r,M',k,e,q⟩;unfold pD at e;split at e
 ·rename_i hl;exact⟨hl,P0,H0,P,Os,env,M,r,M',k,e,q⟩
 ·cases e
def ze6 {K:Fgx}{P:Pl}{H:Hp}{d:D}{v:V}{y:Str}(h:DP d=some y)(i:Is K P H d v):textV v=some y:=by
 unfold DP at h;split at h
 ·cases i;exact h
 ·cases i;exact h
 ·cases h
def zgY (he:SE X Wx .val e f)(h:SJ X Wx vs ps):SJ X Wx (.FormattedValue e (-1) none pos::vs) (tY f ps):=by
 refine Kp (Rg he h) ?_;rintro out st H Q ⟨P0,H0,P,Os,env,M,r,M',k,e,q⟩;unfold tY at e;rcases gD e with⟨d,M1,e1,e⟩ |⟨c,n,e1,rfl⟩
 ·split at e
  ·rename_i y ey;split at e
   ·rename_i hl;exact aV k e1 fun P1 v1 H1 l1 h1 i1=>⟨y,ze6 ey i1,hl,P0,H0,P1,Os,env,M1,r,M',k.next l1 h1,e,RQ.imp l1 q⟩
   ·cases e
  ·cases e
 ·exact aV k e1 q
def pL (ps:EJ):E:=ps Str.empty
def zdR (h:SJ X Wx (v::w::vs) ps):SE X Wx m (.JoinedStr (v::w::vs) pos) (pL ps):=by
 have h':SE X Wx .val (.JoinedStr (v::w::vs) pos) (pL ps):=gC (Ra h) fun st H Q z=>z;exact h'.bor
noncomputable def yQ (c:E) (b:S):Nat->Env->Mm->OS
  |0,_,_=>none
  |n + 1,env,M=>match c env M with
    | some (.v (.bl true), M1) => (match b env M1 with
      |some (.nx e,M2)=>yQ c b n e M2
      |some (.ct e,M2)=>yQ c b n e M2
      |some (.bk e,M2)=>some (.nx e,M2)
      |some (.rt d,M2)=>some (.rt d,M2)
      |some (.ex x k,M2)=>some (.ex x k,M2)
      |none=>none)
    |some (.v (.bl false),M1)=>some (.nx env,M1)
    |some (.x x k,M1)=>some (.ex x k,M1)
    |_=>none
def Dp (n:Nat)(c:E)(b:S):S:=fun env M=>yQ c b n env M
def zbw (n:Nat)(hp:PassesOwn (model X.prog X.w) X.A X.env X.xe)(hc:ST X Wx c t)(hb:SB X Wx body b):SS X Wx (.While c body [] pos) (Dp n t b):=by
  refine nu (zc7 hp hc hb) ?_;rintro D st H ⟨P0,H0,P,Os,env,M,out,M',k,e,q⟩;refine⟨fun m σ H1=>∃P1 Os1 M1 env1,Lt P H P1 H1/\Ok X.K X.mg P0 H0 P1 Os1 H1 M1 σ env1/\yQ t b m env1 M1=some (out,M'),⟨n,P,Os,M,env,Lt.refl _ _,k,e⟩,?_⟩;rintro m σ H1 ⟨P1,Os1,M1,env1,lt,k1,e1⟩
  cases m with
  |zero=>cases e1
  |succ m=>
    simp only[yQ]at e1;split at e1
    · rename_i M2 ec;refine pW k1 ec ⟨true,rfl,fun P2 H2 l2 h2=>?_⟩;dsimp only;rw[tG rfl];have k2:=k1.next l2 h2
      have lt2:=lt.trans (l2.lt k1.hk);refine⟨fun σ' H'=>∃P1 Os1 M1 env1,Lt P H P1 H'/\Ok X.K X.mg P0 H0 P1 Os1 H' M1 σ' env1/\yQ t b m env1 M1=some (out,M'),fun σ' H' z=>⟨m,xbP m,z⟩,?_⟩;split at e1
      · rename_i e' M3 eb;exact⟨P0,H0,P2,Os1,env1,M2,_,_,k2,eb,fun P' Os2 H2 st2 l2 k3=>⟨P',Os2,_,e',lt2.trans l2,k3,e1⟩⟩
      · rename_i e' M3 eb;exact⟨P0,H0,P2,Os1,env1,M2,_,_,k2,eb,fun P' Os2 H2 st2 l2 k3=>⟨P',Os2,_,e',lt2.trans l2,k3,e1⟩⟩
      · rename_i e' M3 eb;cases e1;exact⟨P0,H0,P2,Os1,env1,M2,_,_,k2,eb,fun P' Os2 H2 st2 l2 k3=>q P' Os2 H2 st2 (lt2.trans l2) k3⟩
      · rename_i d M3 eb;cases e1;exact⟨P0,H0,P2,Os1,env1,M2,_,_,k2,eb,q⟩
      · rename_i x k' M3 eb;cases e1;exact⟨P0,H0,P2,Os1,env1,M2,_,_,k2,eb,q⟩
      · cases e1
    · rename_i M2 ec;cases e1;refine pW k1 ec ⟨false,rfl,fun P2 H2 l2 h2=>?_⟩;dsimp only;rw[xab (by decide)];exact q P2 Os1 H2 σ (lt.trans (l2.lt k1.hk)) (k1.next l2 h2)
    · rename_i x k' M2 ec;cases e1;exact pW k1 ec q
    · cases e1
noncomputable def pO:List Nat->List D->Env->Option Env
 | [],[],env=>some env
 |i::is,d::ds,env=>if i<env.length then pO is ds (env.set i (.val d)) else none
 |_,_,_=>none
def SG (X:Cx)(ts:List Expr)(is:List Nat):Prop:=∃t,Ed X ts t/\∀P0 H0 P Os st H M env env' ds vs Q,Ok X.K X.mg P0 H0 P Os H M st env->aH X.K P H ds vs->pO is ds env=some env'->(∀Os' st',Ok X.K X.mg P0 H0 P Os' H M st' env'->Q st' H)->t vs st H Q
def zgl : SG X [] [] := ⟨_,zea,fun P0 H0 P Os st H M env env' ds vs Q k is e q=>by
 cases ds with
 |nil=>cases e;exact⟨is,q _ _ k⟩
 |cons d ds=>cases e⟩
def zcd (hN:X.N.Nodup)(hi:X.N[i]? =some x)(hx:Loc X.env.scope x)(hr:SG X ts is)(hf:X.fn x=true\/X.env.scope.names.lookup x=some .local:=by first |exact .inl rfl |exact .inr rfl)
    (hs:(assignEach (.Name x p::ts) X.env).map (·.2)=assign (.Name x p) X.env::(assignEach ts X.env).map (·.2):=by rfl):SG X (.Name x p::ts) (i::is):=by
  obtain⟨t,h1,h2⟩:=hr;refine⟨_,zdr (YM hN hi hx hf) h1 hs,fun P0 H0 P Os st H M env env' ds vs Q k is e q=>?_⟩
  cases ds with
  |nil=>cases e
  |cons d ds=>
    obtain⟨v,r,rfl,iv,is⟩:=is;simp only[pO]at e;split at e
    · rename_i hl;exact⟨v,r,rfl,h2 _ _ _ _ _ _ _ _ _ _ _ _ (k.asg hl iv) is e q⟩
    · cases e
noncomputable def setAt (M:Mm) (d y x:D):Option Mm:=match d with
  | .ref j => (match y with
    | .int i => (match M[j]? with
      | some (.lst ds) => (match sS ds.length i with
        |some n=>some (M.set j (.lst (ds.set n x)))
        |none=>none)
      |_=>none)
    |_=>none)
  |_=>none
def zcO (h:setAt M d y x=some M'):∃j i ds n,d=.ref j/\y=.int i/\M[j]? =some (.lst ds)/\sS ds.length i=some n/\M'=M.set j (.lst (ds.set n x)):=by
 unfold setAt at h;split at h
 ·split at h
  ·split at h
   ·rename_i em;split at h
    ·rename_i en;cases h;exact⟨_,_,_,_,rfl,rfl,em,en,rfl⟩
    ·cases h
   ·cases h
  ·cases h
 ·cases h
noncomputable def BP (f g v:E):S:=fun env M=>fP (v env M) fun x M1=>fP (f env M1) fun d M2=>fP (g env M2) fun y M3=>match setAt M3 d y x with
 |some M4=>some (.nx env,M4)
 |none=>none
def S_ (ho:SE X Wx .val o f)(hi:SE X Wx .val i g)(he:SE X Wx .val e v)
  (ha : ∀ v, assign (.Subscript o i pos') X.env v = (do
   let ov <-holding [v] (eval o X.env)
   let iv <-holding [v,ov] (eval i X.env)
   standAt pos'
   holding [v,ov,iv] (setItem ov iv v)
   release [v,ov,iv] []):=by intro _;rfl)
  (hs:swapsWithSole [.Subscript o i pos'] e pos.line X.env=pure false:=by rfl) (hw:swappedStores [.Subscript o i pos'] e X.env=pure none:=by rfl) (h1:(assignEach [.Subscript o i pos'] X.env).map (·.2)=[assign (.Subscript o i pos') X.env]:=by rfl):
  SS X Wx (.Assign [.Subscript o i pos'] e pos) (BP f g v):=by
 refine nu (zhY he (ziR ho hi set_list ha) hs hw h1) ?_;rintro D st H ⟨P0,H0,P,Os,env,M,out,M',k,e,q⟩;unfold BP at e;rcases mZ e with⟨x,M1,e1,e⟩ |⟨c,n,e1,rfl⟩
 ·refine aV k e1 fun P1 v1 H1 l1 h1 i1=>?_;have k1:=k.next l1 h1
  rcases mZ e with⟨d,M2,e2,e⟩ |⟨c,n,e2,rfl⟩
  ·refine aV k1 e2 fun P2 v2 H2 l2 h2 i2=>?_;have k2:=k1.next l2 h2
   rcases mZ e with⟨y,M3,e3,e⟩ |⟨c,n,e3,rfl⟩
   ·refine aV k2 e3 fun P3 v3 H3 l3 h3 i3=>?_;split at e
    ·rename_i M4 ea;cases e;obtain⟨j,i,ds,n,rfl,rfl,em,en,rfl⟩:=zcO ea;cases i3;obtain⟨jl,rfl⟩:j<P2.n/\v2=.ref (P2.io j):=i2;obtain⟨vs,ev,is⟩:=h3.cell j _ em;have jl3:j<P3.n:=xao jl l3.n;have eio:P3.io j=P2.io j:=l3.io j jl;have ix:=Is.lt ((l2.lt h1).trans (l3.lt h2)) i1;have lc:Lt P3 H3 P3 (upd H3 (P3.io j) (.lst (vs.set n v1))):=yR (h3.bd j jl3) ev Ka;obtain⟨l4,l4e,h4⟩:=h3.set (c':=.lst (ds.set n x)) (o':=.lst (vs.set n v1)) em ⟨_,gq,aH.set n (aH.lt lc is) (Is.lt lc ix)⟩;rw[eio]at l4 l4e h4 ev;refine⟨_,vs,i,n,rfl,rfl,ev,by rw[is.len];exact en,?_⟩;exact q _ _ _ _ ((l1.lt k.hk).trans ((l2.lt h1).trans ((l3.lt h2).trans l4))) ((k2.next l3 h3).next l4e h4)
    ·cases e
   ·exact aV k2 e3 q
  ·exact aV k1 e2 q
 ·exact aV k e1 q
end
end E3
namespace E3
open PySem L2
section
variable {env:Env}{M M1 M2:Mm}{f g o v:E}{d e x:D}{i:Int}{k:Nat}{ds es:List D}{s t:S}{z:Str}{fa:EA}{b:Bool}
def O1:Option (List D×Mm)->O
 |some (ys,M)=>some (.v (.lst ys),M)
 |none=>none
noncomputable def Vw (q e:E) (env:Env):Option (ResA×Mm)->O
 |some (.v ds,M1)=>O1 (nG q e env ds [] M1)
 |some (.x c n,M1)=>some (.x c n,M1)
 |none=>none
theorem zhP {cs:List (Str×Nat)}{q e:E}:rm cs fa q e env M=Vw q e (lN cs env) (fa env M):=rfl
theorem zh9 {q e:E}:Vw q e env (some (.v ds,M))=O1 (nG q e env ds [] M):=rfl
theorem zfG:O1 (some (ds,M))=some (.v (.lst ds),M):=rfl
theorem Vy {q e : E} (F : D -> Option D) : ∀ (ds acc : List D), (∀d∈ds,match F d with
    |some y=>q (.val d::env) M=some (.v (.bl true),M)/\e (.val d::env) M=some (.v y,M)
    |none=>q (.val d::env) M=some (.v (.bl false),M))->acc.length + ds.length<sizeLine->nG q e env ds acc M=some (acc ++ ds.filterMap F,M)
  | [],acc,_,_=>by simp[nG]
  |d::ds,acc,h,hl=>by
    have hd:=h d (by simp);have hr:∀acc',acc'.length + ds.length<sizeLine->nG q e env ds acc' M=some (acc' ++ ds.filterMap F,M):=fun acc' hl'=>Vy F ds acc' (fun d' hd'=>h d' (by simp[hd'])) hl';rw[xal]at hl
    cases hF:F d with
    |none=>
      rw[hF]at hd;simp only[nG,hd,xb7,hF];exact hr acc (by omega)
    |some y=>
      rw[hF]at hd;simp only[nG,hd.1,hd.2,xb7,hF];rw[tG (by omega),hr (acc ++ [y]) (by rw[xam,xaE];omega)]
      simp
theorem zgr:lN [] env=[]:=rfl
theorem zhJ {x:Str}{n:Nat}{cs:List (Str×Nat)}:lN ((x,n)::cs) env=(env[n]?).getD .un::lN cs env:=rfl
noncomputable def nW (tb:String->String->Option Bool) (T:String) (M:Mm) (ty:String):O:=if ty="" then none else(tb ty T).map fun b=>(.v (.bl b),M)
noncomputable def Gy (tb:String->String->Option Bool) (T:String) (r:O):O:=bnd r fun d M=>nW tb T M (pq M d)
theorem zkz {tb:String->String->Option Bool}{T:String}:yX tb T f env M=Gy tb T (f env M):=rfl
theorem zjc {tb:String->String->Option Bool}{T:String}:Gy tb T (some (.v d,M))=nW tb T M (pq M d):=rfl
theorem ty_int:pq M (.int i)="int":=rfl
theorem ty_str:pq M (.str z)="str":=rfl
theorem zjt:pq M (.bl b)="bool":=rfl
theorem zit:pq M .non="NoneType":=rfl
theorem zil:pq M (.tup ds)="tuple":=rfl
theorem zhy:pq M (.lst ds)="list":=rfl
theorem zjZ {tb:String->String->Option Bool}{T:String}:nW tb T M "int"=(tb "int" T).map fun b=>(.v (.bl b),M):=rfl
theorem zkX {tb:String->String->Option Bool}{T:String}:nW tb T M "str"=(tb "str" T).map fun b=>(.v (.bl b),M):=rfl
theorem Ug {tb:String->String->Option Bool}{T:String}:nW tb T M "bool"=(tb "bool" T).map fun b=>(.v (.bl b),M):=rfl
theorem zkZ {tb:String->String->Option Bool}{T:String}:nW tb T M "NoneType"=(tb "NoneType" T).map fun b=>(.v (.bl b),M):=rfl
theorem zjJ {tb:String->String->Option Bool}{T:String}:nW tb T M "tuple"=(tb "tuple" T).map fun b=>(.v (.bl b),M):=rfl
theorem zlD {tb:String->String->Option Bool}{T:String}:nW tb T M "list"=(tb "list" T).map fun b=>(.v (.bl b),M):=rfl
theorem zjA {tb:String->String->Option Bool}{T:String}:nW tb T M "dict"=(tb "dict" T).map fun b=>(.v (.bl b),M):=rfl
def zgw {kvs:List (Key×D)}(h:M[k]? =some (.dct kvs)):Ao M (.ref k)=some (k,kvs):=by unfold Ao;simp only[h]
def O6 {kvs:List (Key×D)}{key:Key}(h:M[k]? =some (.dct kvs))(h4:toKey e=some key):dk M (.ref k) e=some (k,kvs,key):=by simp only[dk,zgw h,h4,xaV]
def zlo {M3:Mm}{kvs:List (Key×D)}{key:Key}(h0:v env M=some (.v x,M1))(h1:f env M1=some (.v (.ref k),M2))(h2:g env M2=some (.v e,M3))(h3:M3[k]? =some (.dct kvs))(h4:toKey e=some key)(h5:kvs.length<sizeLine):Hu f g v env M=some (.nx env,M3.set k (.dct (pJ kvs key x))):=by
 simp only[Hu,fP,h0,h1,h2,O6 h3 h4,h5,xbb]
def Am {kvs:List (Key×D)}{key:Key}{y:Bool}(h1:g env M=some (.v e,M1))(h2:f env M1=some (.v (.ref k),M2))(h3:M2[k]? =some (.dct kvs))(h4:toKey e=some key):u6 y g f env M=some (.v (.bl (if y then(gM kvs key).isSome else !(gM kvs key).isSome)),M2):=by
 simp only[u6,bnd,h1,h2,O6 h3 h4]
def Um {c:E}{b:S}(Q:OS->Prop)(J:Nat->Env->Mm->Prop){n:Nat}(h0:∃m,m<n/\J m env M)
    (hs:∀m env M,J m env M->∃y M1,c env M=some (.v (.bl y),M1)/\if y=true then Step (fun e M=>∃m',m'<m/\J m' e M) Q (b env M1) else Q (some (.nx env,M1))):Q (Dp n c b env M):=by
  have key:∀(n m:Nat) (env:Env) (M:Mm),m<n->J m env M->Q (yQ c b n env M):=by
    intro n
    induction n with
    |zero=>intro m env M h;exact absurd h (xck _)
    |succ n ih=>
      intro m env M hm hJ;obtain⟨y,M1,h1,h2⟩:=hs m env M hJ
      cases y with
      |false=>simp only[yQ,h1];exact h2
      |true=>
        simp only[yQ,h1];rw[tG rfl]at h2
        cases eb:b env M1 with
        |none=>rw[eb]at h2;exact h2.elim
        |some o=>
          rw[eb]at h2;obtain⟨o,M'⟩:=o
          cases o with
          |nx e'=>obtain⟨m',h3,h4⟩:=h2;exact ih m' e' M' (by omega) h4
          |ct e'=>obtain⟨m',h3,h4⟩:=h2;exact ih m' e' M' (by omega) h4
          |bk e'=>exact h2
          |rt d=>exact h2
          |ex c n=>exact h2
  obtain⟨m,h1,h2⟩:=h0;exact key n m env M h1 h2
def Qc {M3:Mm}{j:Nat}(h0:v env M=some (.v x,M1))(h1:f env M1=some (.v (.ref k),M2))(h2:g env M2=some (.v (.int i),M3))(h3:M3[k]? =some (.lst ds))(h4:sS ds.length i=some j):BP f g v env M=some (.nx env,M3.set k (.lst (ds.set j x))):=by
 simp only[BP,fP,setAt,h0,h1,h2,h3,h4]
theorem zep:pO [] [] env=some env:=rfl
theorem zeA {n:Nat}{is:List Nat}:pO (n::is) (d::ds) env=if n<env.length then pO is ds (env.set n (.val d)) else none:=rfl
end
end E3
namespace L2
open PySem PySem.Spec PyProof.Rows
def zd9 {X:Cx}{body suite:List Stmt}{b0:Stmt}{cn:Str}{np hp pos:Pos}{c:Addr}{tb:Ends->TS}{th:TS}
    (hs:X.stack=X.env::X.outer) (hf:X.env.frame=some X.env.locals) (hc:X.calm=true) (hg:Gl X cn) (hm:X.mg cn=some (.ref c)) (q:aU X.K c=true) (hdb:(cn==("__debug__":Str))=false)
    (hb : ∀ (pins : Pnx) (D : Ends), lK (X.pin pins fun e s'=>∃σ' H' a C dx T,e=.ref a/\Caught X pins σ' H' s' a C dx T/\aU X.K C=true/\gn X.K C c=true/\
      th {D with bk:=fun _ _=>False,ct:=fun _ _=>False} σ' H') body (tb D))
    (hh:∀e,lK (X.suite e) (b0::suite) th):
    PS X (.Try body [.ExceptHandler (some (.Name cn np)) none (b0::suite) hp] [] [] pos) (fun D σ H=>tb D D σ H):=by
  intro pins s σ H D I h;refine xdX (xa3 (hb pins D [] s σ H D (I.to_pin _) h) (fun f s1 z=>?_) fun e s1 z=>?_)
  · cases f with
    |next=>obtain⟨σ',H',J,q⟩:=z;exact xbT ⟨σ',H',J.of_pin,q⟩
    |brk=>obtain⟨σ',H',J,q⟩:=z;exact⟨σ',H',J.of_pin,q⟩
    |cont=>obtain⟨σ',H',J,q⟩:=z;exact⟨σ',H',J.of_pin,q⟩
    |ret u=>obtain⟨v,σ',H',J,r,q⟩:=z;exact⟨v,σ',H',J.of_pin,r,q⟩
  · obtain⟨σ',H',a,C,dx,T,rfl,K1,q1,q2,z⟩:=z;refine K1.note hs hf fun s2 T2 K2=>?_;have hd:=I.ok.hd hc;refine xdk (xcZ ?_) (by intro z;cases z);refine tZ (X:=X.suite (.ref a)) (K2.inv.to_suite _) hg hm ?_ hdb;obtain⟨nm,qn,N,bs,bm,sn,sub,ab,col,dd,k0,k1,k2,k3,k5,Y,lk⟩:=xG K2.inv.kIn q1;obtain⟨nm',qn',N',bs',bm',sn',sub',ab',col',dd',j0,j1,j2,j3,j5,Y',lk'⟩:=xG K2.inv.kIn q;obtain⟨oe,vs,t,e1,e2,e3,e4,e5,e6,_⟩:=yr K2.inv.hok K2.obj;have hit:(Value.ref C::bm).contains (.ref c)=true:=by
      unfold gn at q2;rw[lk]at q2;exact q2
    obtain⟨hh2,g,d,tk,os⟩:=s2;refine Uq Y.obj Y'.obj e1 e2 (Y'.tail.hasType xa8.hasBase) ?_;rw[hit];refine codeAny_handlers_suite (K2.off fun s3 K3=>?_);refine xa3 (hh (.ref a) pins s3 _ H' _ (K3.inv.to_suite _) z) (fun f s5 y=>?_) fun _ _ y=>False.elim y
    cases f with
    |next=>
      obtain⟨σ5,H5,I5,y⟩:=y;exact⟨σ5,H5,I5.of_suite hd,y⟩
    |brk=>obtain⟨_,_,_,y⟩:=y;exact False.elim y
    |cont=>obtain⟨_,_,_,y⟩:=y;exact False.elim y
    |ret u=>
      obtain⟨v,σ5,H5,I5,rv,y⟩:=y;exact⟨v,σ5,H5,I5.of_suite hd,rv,y⟩
end L2
namespace E3
open PySem PySem.Spec PyProof.Rows L2
section
variable {X:Cx}{Wx:XW}{m:Mode}{pos:Pos}
noncomputable def zZ (cat:Str->Bool) (b h:S):S:=fun env M=>match b env M with
  | some (.ex c _, M1) => if cat c = true then (match h env M1 with
    |some (.nx env',M2)=>some (.nx env',M2)
    |some (.rt d,M2)=>some (.rt d,M2)
    |_=>none) else none
  |o=>o
def zcg 
  (hs:X.stack=X.env::X.outer) (hf:X.env.frame=some X.env.locals) (hc:X.calm=true) (hg:Gl X cn) (hm:X.mg cn=some (.ref c)) (q:aU X.K c=true)
  (hcat:∀c',cat c'=true->∃C,X.mg c'=some (.ref C)/\aU X.K C=true/\gn X.K C c=true) (hb:∀pins E,BX (X.pin pins E) body b) (hh:∀e,SB (X.suite e) W0 (b0::suite) h) (hdb:(cn==("__debug__":Str))=false:=by x_go):
  SS X Wx (.Try body [.ExceptHandler (some (.Name cn np)) none (b0::suite) hp] [] [] pos) (zZ cat b h):=by
 let Ex:Ends->L2.St->XK:=fun D σ Cv dx H'=>∀a C,Cv=.ref C->H' a=some (xo a C dx false)->aU X.K C=true/\gn X.K C c=true/\tS X.K X.mg W0 h {D with bk:=fun _ _=>False,ct:=fun _ _=>False} σ H'
 refine nu (zd9 (tb:=fun D=>Ig X.K X.mg (Ex D) b) (th:=tS X.K X.mg W0 h) hs hf hc hg hm q hdb (fun pins D=>hb pins _ (Ex D) fun pins' σ H s e s' I z=>?_) hh) ?_
 ·obtain⟨a,C,dx,H',T,rfl,K1,hE⟩:=Jr (X:=X) I.of_pin z;obtain⟨z1,z2,z3⟩:=hE a C rfl K1.obj;exact⟨σ,H',a,C,dx,T,rfl,K1,z1,z2,z3⟩
 ·rintro D st H ⟨P0,H0,P,Os,env,M,out,M',k,e,q⟩;unfold zZ at e;split at e
  ·rename_i c' n' M1 e1;split at e
   ·rename_i hct;obtain⟨C,hmC,x1,x2⟩:=hcat c' hct;refine⟨P0,H0,P,Os,env,M,_,_,k,e1,fun P1 H1 C1 dx l1 h1 m1 xn a C2 eC ea=>?_⟩;cases eC;cases hmC.symm.trans m1;have k1:=k.next l1 h1
    refine⟨x1,x2,?_⟩;split at e
    ·rename_i env' M2 e2;cases e;exact⟨P0,H0,P1,_,_,M1,_,_,k1,e2,fun P2 Os2 H2 st2 l2 k2=>q P2 _ H2 _ ((l1.lt k.hk).trans l2) k2⟩
    ·rename_i d M2 e2;cases e;exact⟨P0,H0,P1,_,_,M1,_,_,k1,e2,q⟩
    ·cases e
   ·cases e
  ·rename_i o hne;refine⟨P0,H0,P,Os,env,M,_,_,k,e,?_⟩
   cases out with
   |ex c n=>exact absurd e (hne c n M')
   |nx env=>exact q
   |bk env=>exact q
   |ct env=>exact q
   |rt d=>exact q
end
section
variable {env:Env}{M M1 M2:Mm}{s t:S}{d:D}{c:Str}{cat:Str->Bool}{a:Int}
def Iz (h1:s env M=some (.ex c a,M1))(h2:cat c=true)(h4:t env M1=some (.rt d,M2)):zZ cat s t env M=some (.rt d,M2):=by
 simp only[zZ,h1,h2,xbb,h4]
def Iw (h1:s env M=some (.nx env',M1)):zZ cat s t env M=some (.nx env',M1):=by
 simp only[zZ,h1]
end
section
variable {es:List Expr}{env:PySem.Env}{pos:Pos}
theorem eE:starEach (.Constant c k pos::es) env=(false,eval (.Constant c k pos) env)::starEach es env:=by rfl
theorem aP:starEach (.Name x pos::es) env=(false,eval (.Name x pos) env)::starEach es env:=by rfl
theorem i_:starEach (.BinOp a o b pos::es) env=(false,eval (.BinOp a o b pos) env)::starEach es env:=by rfl
theorem zbX:starEach (.UnaryOp o a pos::es) env=(false,eval (.UnaryOp o a pos) env)::starEach es env:=by rfl
theorem lu:starEach (.Call f as ks pos::es) env=(false,eval (.Call f as ks pos) env)::starEach es env:=by rfl
theorem zas:starEach (.Attribute a x pos::es) env=(false,eval (.Attribute a x pos) env)::starEach es env:=by rfl
theorem fQ:starEach (.Subscript a b pos::es) env=(false,eval (.Subscript a b pos) env)::starEach es env:=by rfl
theorem pU:starEach (.Tuple as k pos::es) env=(false,eval (.Tuple as k pos) env)::starEach es env:=by rfl
theorem Ia:starEach (.ListComp a gs sc pos::es) env=(false,eval (.ListComp a gs sc pos) env)::starEach es env:=by rfl
end
end E3
namespace L2
open PySem PySem.Spec PyProof.Rows
def zbF {P:Program}{w:World}{K:Fgx}{mg:Mgx}{base:Heap}{N:List Str}{qual:Str}{scope:Scope}{f:Addr}{cd:Value}{A:Around}{outer:List PySem.Env}{E:XK}{s:Shared}{H H1:Hp}{s1:Shared}{pins:Pnx}{σ:St}{a C T:Addr}{dx:Option Addr}
  (c:Caught (kY (sG P w) P w K mg base N qual scope f cd A outer s H E) pins σ H1 s1 a C dx T) (hE:E (.ref C) dx H1):(kY (sG P w) P w K mg base N qual scope f cd A outer s H E).xe (.ref a) s1:=by
 show wpAny _ _ (leaving _ _) _ _ _;unfold leaving;refine xaa (Caught.note c rfl rfl fun s' T' c'=>?_);have I:=c'.inv;have hL:s.heap.get? (envOfC qual scope s.heap.objs.size f cd).locals=none:=xb1 I.ok.above;have u1:Un (s.heap.objs.size::frs outer) [] H H1 s.heap s'.heap:=Un.mono (fs':=s.heap.objs.size::frs outer) (ex':=[]) I.base (fun b hb=>xan _ hb) fun b hb=>hb;exact⟨a,C,dx,H1,T',rfl,I.os,I.bare,u1.less hL,I.hok,c'.obj,c'.hT,c'.t1,c'.fl,hE⟩
end L2
namespace E3
open PySem PySem.Spec PyProof.Rows L2
structure XPass (X:Cx)(Wx:XW):Prop where
 xc:∀pins σ H s a C dx T c n P0 H0 P M,Caught X pins σ H s a C dx T->LtE P0 H0 P H->Hk X.K X.mg P H M->X.mg c=some (.ref C)->XN H n dx->Wx P0 H0 M c n->X.xe (.ref a) s
section
variable {X:Cx}{Wx:XW}{m:Mode}{pos:Pos}
def SX.se (F:XPass X Wx)(h:SX X e f):SE X Wx m e f:=by
  have h':SE X Wx .val e f:=by
    let Ex:L2.St->XK:=fun σ Cv dx H'=>∀pins s' a C T,Cv=.ref C->Caught X pins σ H' s' a C dx T->X.xe (.ref a) s'
    refine gC (h Ex fun pins σ H s e s' I z=>?_) ?_
    · obtain⟨a,C,dx,H',T,rfl,K1,hE⟩:=Jr I z;exact hE pins s' a C T rfl K1
    · rintro st H Q ⟨P0,H0,P,Os,env,M,r,M',k,e,q⟩;refine⟨P0,H0,P,Os,env,M,r,M',k,e,?_⟩
      cases r with
      |v d=>exact q
      |x c n=>
        intro P' H' C dx l hk hm xn pins s' a C' T eC ca;cases eC;exact F.xc pins st H' s' a C dx T c n P0 H0 P' M' ca (k.base.trans l) hk hm xn q
  exact h'.bor
end
section
variable {P:Program}{w:World}{K:Fgx}{mg:Mgx}{base:Heap}{k:Nat}{x qual:Str}{st:Stmt}{f:Addr}{fd:FuncData}{N ps:List Str}{b:S}
def zeQ (F:FunD K x qual st f fd)(S:FnScope N ps (aY st))(hp:ps.length<=N.length)
    (hb:∀cdv A outer s H E Wx,Room k (A.deeper (envOfC qual (aY st) s.heap.objs.size f cdv))->XFit (xP P w K mg base N qual st f cdv A outer s H E) Wx->XPass (xP P w K mg base N qual st f cdv A outer s H E) Wx->SB (xP P w K mg base N qual st f cdv A outer s H E) Wx (j_ st) b):FnOk P w K mg base (sG P w) (k + 1) f fd ps (H_ K mg ps.length (fH N.length b)):=by
  obtain ⟨oc, od, dV, kV, doc, pm, an, cdv, ct, osl, rfl, lk, hcd⟩ := F.ex;refine Ph lk hcd S (fun vs H Q E h => h.1) fun A outer s H vs Q E hr h => ?_;obtain ⟨hl, Pl, M, ds, r, M', hk, is, e, q⟩ := h;have XF : XFit (xP P w K mg base N qual st f cdv A outer s H E) (fun P0 H0 M1 c n => P0 = Pl /\ H0 = H /\ M1 = M' /\ r = .x c n) := ⟨fun pins σ H1 s1 a C dx c n P0 H0 P1 M1 I ea nb n0 l h m xn ⟨e1,e2,e3,e4⟩=>by
    subst e1 e2 e3 e4;have sure:∀b,upd H1 a (xo a C dx false) b=none->H1 b=none:=fun b z=>by
      by_cases hb:b=a
      · subst hb;rw[gq]at z;cases z
      · rw[aZ hb]at z;exact z
    have l1 : LtE P0 H0 P1 (upd H1 a (xo a C dx false)) := ⟨l.n,l.io,l.bd,l.bm,fun b o eb nb=>by
      rw[aZ (fun z=>by rw[z,n0]at eb;cases eb)];exact l.keep b o eb nb,fun b z=>l.sure b (sure b z),l.nw⟩
    have h1 := h.away (H' := upd H1 a (xo a C dx false)) (fun b o eb nx=>by
      rw[aZ (fun z=>by rw[z,ea]at eb;cases eb;exact nx _ rfl)];exact eb) sure
    refine zcW I ea (q P1 _ C dx l1 h1 m ?_)
    cases dx with
    |none=>exact xn
    |some d=>
      obtain⟨fs,ed,el⟩:=xn;exact⟨fs,by rw[aZ (fun z=>by rw[z,ea]at ed;cases ed)];exact ed,el⟩⟩
  have XP : XPass (xP P w K mg base N qual st f cdv A outer s H E) (fun P0 H0 M1 c n => P0 = Pl /\ H0 = H /\ M1 = M' /\ r = .x c n) := ⟨fun pins σ H1 s1 a C dx T c n P0 H0 P1 M1 ca l h m xn ⟨e1,e2,e3,e4⟩=>by
    subst e1 e2 e3 e4;exact zbF ca (q P1 _ C dx l h m xn)⟩
  refine⟨_,hb cdv A outer s H E _ hr XF XP,?_⟩;unfold fH kZ at e;have st0:=zbx (N:=N) hk (by omega) is;split at e
  · rename_i d' M2 eb;cases e;exact⟨Pl,H,Pl,_,_,M,_,_,st0,eb,fun P' v H' l h i=>q P' v H' l h i⟩
  · rename_i env M2 eb;cases e;exact⟨Pl,H,Pl,_,_,M,_,_,st0,eb,fun P' Os' H' st' _ k'=>q P' .non H' k'.base k'.hk rfl⟩
  · rename_i c n M2 eb;cases e;exact⟨Pl,H,Pl,_,_,M,_,_,st0,eb,⟨rfl,rfl,rfl,rfl⟩⟩
  · cases e
end
section
variable {K:Fgx}{P:Pl}{H:Hp}
noncomputable def xK:List D->Option (List Bool)
 | []=>some []
 |.bl b::ds=>(xK ds).map (b:: ·)
 |_::_=>none
theorem Ou:∀{ds:List D} {bs:List Bool} {vs:List V},xK ds=some bs->aH K P H ds vs->vs=bs.map V.bl
  | [],_,_,e,h=>by cases e;exact h
  |d::ds,bs,vs,e,h=>by
    obtain⟨v,r,rfl,i,h⟩:=h
    cases d with
    |bl n=>
      simp only[xK,xae]at e;obtain⟨bs',e',rfl⟩:=e;cases i;rw[Ou e' h];rfl
    |_=>simp[xK]at e
theorem Ey:∀(bs:List Bool),xK (bs.map D.bl)=some bs
 | []=>rfl
 |b::bs=>by simp[xK,Ey bs]
noncomputable def zu:List D->Option (List Str)
 | []=>some []
 |.str z::ds=>(zu ds).map (z:: ·)
 |_::_=>none
theorem zcJ:∀{ds:List D} {zs:List Str} {vs:List V},zu ds=some zs->aH K P H ds vs->vs=zs.map V.str
  | [],_,_,e,h=>by cases e;exact h
  |d::ds,zs,vs,e,h=>by
    obtain⟨v,r,rfl,i,h⟩:=h
    cases d with
    |str n=>
      simp only[zu,xae]at e;obtain⟨zs',e',rfl⟩:=e;cases i;rw[zcJ e' h];rfl
    |_=>simp[zu]at e
theorem strs_map:∀(zs:List Str),zu (zs.map D.str)=some zs
 | []=>rfl
 |b::bs=>by simp[zu,strs_map bs]
noncomputable def kI:List D->Option D
 | [.int i]=>if i.natAbs.log2<1920 then some (.str (toString i)) else none
 |_=>none
def xX:xJ K (fun xs H Q=>∃i,xs=[.int i]/\i.natAbs.log2<1920/\Q (.str (toString i)) H) kI:=fun P H ds z vs Q h i _ q=>by
 unfold kI at h;split at h
 ·split at h
  ·rename_i hl;obtain⟨v,ws,rfl,p,rfl⟩:=i;cases h;cases p;exact⟨_,rfl,hl,q _ H (Same.refl H) rfl⟩
  ·cases h
 ·cases h
noncomputable def sI:List D->Option D
 | [.str z]=>if z.length<=640 then(intText? z).map .int else none
 |_=>none
def Kr:xJ K (fun xs H Q=>∃z n,xs=[.str z]/\intText? z=some n/\z.length<=640/\Q (.int n) H) sI:=fun P H ds z vs Q h i _ q=>by
 unfold sI at h;split at h
 ·split at h
  ·rename_i hl;rw[xae]at h;obtain⟨n,en,rfl⟩:=h;obtain⟨v,ws,rfl,p,rfl⟩:=i;cases p;exact⟨_,n,rfl,en,hl,q _ H (Same.refl H) rfl⟩
  ·cases h
 ·cases h
def yD:List D->Option D
 | [.lst ds]=>(xK ds).map fun bs=>.bl (bs.any id)
 |_=>none
def zg8:xJ K (fun xs H Q=>∃(p:Addr) (bs:List Bool),xs=[.ref p]/\fW K H p (bs.map V.bl)/\Q (.bl (bs.any id)) H) yD:=fun P H ds z vs Q h i _ q=>by
 unfold yD at h;split at h
 ·rw[xae]at h;obtain⟨is,ei,rfl⟩:=h;obtain⟨v,ws,rfl,p,rfl⟩:=i;obtain⟨a,us,rfl,r,s⟩:=p;rw[Ou ei s]at r;exact⟨a,is,rfl,r,q _ H (Same.refl H) rfl⟩
 ·cases h
def tR:List D->Option D
 | [.lst ds]=>(xK ds).map fun bs=>.bl (bs.all id)
 |_=>none
def Rj:xJ K (fun xs H Q=>∃(p:Addr) (bs:List Bool),xs=[.ref p]/\fW K H p (bs.map V.bl)/\Q (.bl (bs.all id)) H) tR:=fun P H ds z vs Q h i _ q=>by
 unfold tR at h;split at h
 ·rw[xae]at h;obtain⟨is,ei,rfl⟩:=h;obtain⟨v,ws,rfl,p,rfl⟩:=i;obtain⟨a,us,rfl,r,s⟩:=p;rw[Ou ei s]at r;exact⟨a,is,rfl,r,q _ H (Same.refl H) rfl⟩
 ·cases h
def lD:List D->Option D
 | [.lst ds]=>some (.tup ds)
 | [.tup ds]=>some (.tup ds)
 |_=>none
def zY:xJ K (fun xs H Q=>∃p ys,xs=[.ref p]/\((fW K H p ys/\∀l,H l=none->Q (.ref l) (upd H l (.tup ys)))\/(g_ K H p ys/\Q (.ref p) H))) lD:=fun P H ds z vs Q h i _ q=>by
 unfold lD at h;split at h
 ·obtain⟨v,ws,rfl,p,rfl⟩:=i;cases h;obtain⟨a,us,rfl,r,s⟩:=p;exact⟨a,us,rfl,.inl ⟨r,QC s q⟩⟩
 ·obtain⟨v,ws,rfl,p,rfl⟩:=i;cases h;obtain⟨a,us,rfl,r,s⟩:=p;exact⟨a,us,rfl,.inr ⟨r,q _ H (Same.refl H) ⟨a,us,rfl,r,s⟩⟩⟩
 ·cases h
end
section
variable {X:Cx}{Wx:XW}{m:Mode}{pos:Pos}
def Eh (K:Fgx)(r:V->List V->Hp->VK->Prop)(o:Str->List D->Option D):Prop:=∀(P:Pl) (H:Hp) (y:Str) (ds:List D) (z:D) (vs:List V) (Q:VK),o y ds=some z->yt K P H ds vs->(∀p,H p=none->¬ P.bd p)->(∀u H',Same H H'->Is K P H' z u->Q u H')->r (.str y) vs H Q
noncomputable def n_ (o:Str->List D->Option D) (f:E) (fs:EA):E:=fun env M=>bnd (f env M) fun d M1=>match d with
 |.str y=>lZ (fs env M1) fun ds M2=>(o y (ds.map (vw M2))).map fun z=>(.v z,M2)
 |_=>none
def wu {a e:Expr}{es:List Expr}{name:Str}{id:String}{r:V->List V->Hp->VK->Prop}{o:Str->List D->Option D}{f:E}{fs:EA}{p:Pos}(slot:PySem.Slot "str" name id)(hty:typeOf (.builtin id)=pure (.type "method_descriptor"))(hm:Ae X id r)(po:Eh X.K r o)(ha:SE X Wx .val a f)(hs:SA X Wx .bor (e::es) fs)
  (hbase:attributeBase a name X.env (eval a X.env)=eval a X.env:=by rfl)
  (hfew:((backTo pos (starEach (e::es) X.env)).all (fun x=> !x.1) && (backToKw pos (keywordEach [] X.env)).all (fun x=>x.1.isSome) && decide ((e::es).length + ([]:List Keyword).length + (if ([]:List Keyword).isEmpty then 0 else 1)<30))=true:=by rfl)
  (hline:(p.endLine==pos.line)=true:=by rfl) (hst:starEach (e::es) X.env=(false,eval e X.env)::starEach es X.env:=by rfl) (hplain:(backTo pos (starEach es X.env)).any (·.1)=false:=by rfl):
  SE X Wx m (.Call (.Attribute a name p) (e::es) [] pos) (n_ o f fs):=by
 refine gC (Kl xcm slot hty hm ha hs hbase hfew hline hst hplain) ?_;rintro st H Q ⟨P0,H0,P,Os,env,M,r,M',k,e,q⟩;unfold n_ at e;rcases gD e with⟨d,M1,e1,e⟩ |⟨c,n,e1,rfl⟩
 ·cases d<;>simp only[reduceCtorEq]at e
  rename_i y;refine aV k e1 fun P1 v1 H1 l1 h1 i1=>?_;have k1:=k.next l1 h1
  cases i1;refine⟨rfl,?_⟩;rcases zK e with⟨ds,M2,e2,e⟩ |⟨c,n,e2,rfl⟩
  ·rw[xae]at e;obtain⟨z,ez,e⟩:=e;cases e;exact⟨P0,H0,P1,Os,env,M1,_,_,k1,e2,fun P2 vs H2 l2 h2 i2=>po P2 H2 y _ z vs Q ez (g8.w h2 i2) h2.new fun u H' s i=>q P2 u H' (l1.trans (l2.trans (LtE.same s))) (h2.same s) (gB.of (h2.same s) i)⟩
  ·exact⟨P0,H0,P1,Os,env,M1,_,_,k1,e2,q⟩
 ·exact aV k e1 q
noncomputable def tL (z:Str):List D->Option D
  | [.lst ds]=>match zu ds with
    |some ys=>if z.length<=16/\(ys.map (·.length)).sum + ys.length<=1048576 then some (.str (Txt.join z ys)) else none
    |none=>none
  |_=>none
def Bs {K:Fgx}:Eh K (rJoin K) tL:=fun P H y ds z vs Q h i _ q=>by
 unfold tL at h;split at h
 ·split at h
  ·rename_i ys ey;split at h
   ·rename_i hl;cases h;obtain⟨v,ws,rfl,p,rfl⟩:=i;obtain⟨a,us,rfl,r,s⟩:=p;rw[zcJ ey s]at r;exact⟨y,a,ys,rfl,rfl,r,hl.1,hl.2,q _ H (Same.refl H) rfl⟩
   ·cases h
  ·cases h
 ·cases h
noncomputable def Mj (z:Str):List D->Option D
 | [.str y]=>some (.bl (Txt.startswith z y))
 |_=>none
def zcn {K:Fgx}:Eh K Za Mj:=fun P H y ds z vs Q h i _ q=>by
 unfold Mj at h;split at h
 ·cases h;obtain⟨v,ws,rfl,p,rfl⟩:=i;cases p;exact⟨_,_,rfl,rfl,q _ H (Same.refl H) rfl⟩
 ·cases h
noncomputable def Mi (z:Str):List D->Option D
 | [.str y]=>if z.length<=sizeLine then some (.str (Txt.lstripChars z y)) else none
 |_=>none
def zb8 {K:Fgx}:Eh K Y9 Mi:=fun P H y ds z vs Q h i _ q=>by
 unfold Mi at h;split at h
 ·split at h
  ·rename_i hl;cases h;obtain⟨v,ws,rfl,p,rfl⟩:=i;cases p;exact⟨_,_,rfl,rfl,hl,q _ H (Same.refl H) rfl⟩
  ·cases h
 ·cases h
noncomputable def Ht (f g h:E):E:=fun env M=>bnd (f env M) fun d M1=>match Ao M1 d with
  | some _ => bnd (g env M1) fun y M2 => bnd (h env M2) fun x M3 => (match dk M3 d y with
    |some (_,kvs,k)=>some (.v ((gM kvs k).getD x),M3)
    |none=>none)
  |none=>none
def zcV (hu:X.A.units + 60<cLine)(ho:SE X Wx .val o f)(he:SE X Wx .val e g)(he':SE X Wx .val e' h)(hm:L2.M2 X o "get" p e e' pos:=by exact⟨rfl,rfl,rfl,rfl⟩):SE X Wx m (.Call (.Attribute o "get" p) [e,e'] [] pos) (Ht f g h):=by
  refine gC (zdf (xcJ (xcF (by decide) _) hu) ho he he' hm) ?_;rintro st H Q ⟨P0,H0,P,Os,env,M,r,M',k,ee,q⟩;unfold Ht at ee;rcases gD ee with⟨d,N1,e1,ea⟩ |⟨c,n,e1,rfl⟩
  · refine aV k e1 fun P1 v1 H1 l1 h1 i1=>?_;have k1:=k.next l1 h1
    split at ea
    · rename_i pr ed;obtain⟨j,kvs0⟩:=pr;obtain⟨rfl,em0⟩:=VH ed;obtain⟨jl,rfl⟩:j<P1.n/\v1=.ref (P1.io j):=i1;obtain⟨vs0,ev0,_,_⟩:=h1.cell j _ em0;refine⟨_,rfl,.inl ⟨vs0,.inl ev0⟩,?_⟩;rcases gD ea with⟨y,N2,e2,eb⟩ |⟨c,n,e2,rfl⟩
      · refine aV k1 e2 fun P2 v2 H2 l2 h2 i2=>?_;have k2:=k1.next l2 h2
        rcases gD eb with⟨x,N3,e3,ec⟩ |⟨c,n,e3,rfl⟩
        · refine aV k2 e3 fun P3 v3 H3 l3 h3 i3=>?_;split at ec
          · rename_i j' kvs key ek;cases ec;obtain⟨ej,em,et⟩:=O7 ek;cases ej;obtain⟨vs,ev,en,is⟩:=h3.cell j _ em;have g:=T_ (k:=key) (kvs:=kvs) (vs:=vs) ⟨en,is⟩;rw[l3.io j (xao jl l2.n),l2.io j jl]at ev;have i2':=Is.lt (l3.lt h2) i2;refine⟨gG vs key,by rw[key_is et i2'];exact lY.k ev,?_⟩
            cases hd:gM kvs key with
            |none=>
              rw[hd]at g q;have g':gG vs key=none:=g;rw[g'];exact q P3 _ H3 (l1.trans (l2.trans l3)) h3 (gB.of h3 i3)
            |some z=>
              rw[hd]at g q;obtain⟨v,gv,iv⟩:=g;rw[gv];exact q P3 _ H3 (l1.trans (l2.trans l3)) h3 (gB.of h3 iv)
          · cases ec
        · exact aV k2 e3 q
      · exact aV k1 e2 q
    · cases ea
  · exact aV k e1 q
end
noncomputable def lB (tb:List (Str×D)) (z:Str):Option D:=(tb.find? fun p=>decide (p.1=z)).map (·.2)
inductive KRows (K:Fgx)(w:World):List (Str×D)->List DictEntry->List (Key×Value)->Prop
 |nil:KRows K w [] [] []
 |cons {z:Str} {d:D} {t:Tok} {u:Value} {v:V} {hs:Int} {tb:List (Str×D)} {es:List DictEntry} {vs:List (Key×Value)}:hs=hashStr w z->RelV v u->(∀P H,Is K P H d v)->KRows K w tb es vs->KRows K w ((z,d)::tb) (⟨hs,.str z t,u⟩::es) ((.inr z,u)::vs)
def KTab (K:Fgx)(w:World)(a:Addr)(tb:List (Str×D)):Prop:=∃o es ep vs,K.lookup a=some o/\o.ExactDict/\o.data=.dict es ep/\KRows K w tb es.toList vs/\(tb.map (·.1)).Nodup/\(a==sysModules)=false
section
variable {K:Fgx}{w:World}{prog:Program}
theorem Xa:∀{tb:List (Str×D)} {es:List DictEntry} {vs:List (Key×Value)},KRows K w tb es vs->(∀e∈es,∃k,(nH prog w).is k e.key=true/\e.hash=(nH prog w).hash k)/\Pairs (nH prog w) es vs/\vs.map (·.1)=tb.map fun p=>(.inr p.1:Key)
  |_,_,_,.nil=>⟨fun e h=>(by cases h),.nil,rfl⟩
  |_,_,_,.cons (z:=z) (t:=t) h1 h2 h3 r=>by
    obtain⟨a,b,c⟩:=Xa r;refine⟨fun e he=>?_,.cons (Qt prog w z t) rfl b,by rw[xak,xak,c]⟩;rw[xaq]at he;rcases he with rfl |he
    · exact⟨.inr z,Qt prog w z t,h1⟩
    · exact a e he
theorem Ql:∀{tb:List (Str×D)} {es:List DictEntry} {vs:List (Key×Value)},KRows K w tb es vs->match lB tb z with
    |some d=>∃u v,valueAt vs (.inr z:Key)=some u/\RelV v u/\∀P H,Is K P H d v
    |none=>valueAt vs (.inr z:Key)=none
  |_,_,_,.nil=>rfl
  |_,_,_,.cons (z:=y) (d:=d) (u:=u) (v:=v) (tb:=tb) (vs:=vs) h1 h2 h3 r=>by
    by_cases e:y=z
    · subst e;have a:lB ((y,d)::tb) y=some d:=by simp[lB,xa6]
      have b:valueAt ((.inr y,u)::vs) (.inr y:Key)=some u:=by simp[valueAt,xa6]
      rw[a];exact⟨u,v,b,h2,h3⟩
    · have a:lB ((y,d)::tb) z=lB tb z:=by simp[lB,xa6,e]
      have b:valueAt ((.inr y,u)::vs) (.inr z:Key)=valueAt vs (.inr z):=by simp[valueAt,xa6,e]
      rw[a,b];exact Ql r
def KTab.dict (t:KTab K w a tb)(X:K.In h):∃es vs,KRows K w tb es vs/\h.DictOf (nH prog w) a vs/\(a==sysModules)=false:=by
 obtain⟨o,es,ep,vs,l,x,d,r,nd,ns⟩:=t;obtain⟨r1,r2,r3⟩:=Xa (prog:=prog) r;refine⟨es.toList,vs,r,⟨o,es,ep,X a o l,x,d,fun e he=>r1 e (by simpa using he),r2,?_⟩,ns⟩;rw[r3];have:(tb.map fun p=>(Sum.inr p.1:Key))=(tb.map (·.1)).map Sum.inr:=by rw[xa9];rfl
 rw[this];exact List.pairwise_map.mpr (List.Pairwise.imp (fun h q=>h (Sum.inr.inj q)) nd)
end
section
variable {X:Cx}{Wx:XW}{m:Mode}{pos:Pos}
noncomputable def tu (b:Bool) (tb:List (Str×D)) (f:E):E:=fun env M=>bnd (f env M) fun d M1=>match d with
 |.str z=>some (.v (.bl (if b then(lB tb z).isSome else !(lB tb z).isSome)),M1)
 |_=>none
noncomputable def BK (tb:List (Str×D)) (f:E):E:=fun env M=>bnd (f env M) fun d M1=>match d with
 |.str z=>(lB tb z).map fun y=>(.v y,M1)
 |_=>none
theorem Xb {z:Str}{K:Fgx}{w:World}{tb:List (Str×D)}{es:List DictEntry}{vs:List (Key×Value)}(r:KRows K w tb es vs):(valueAt vs (.inr z:Key)).isSome=(lB tb z).isSome:=by
 have g:=Ql (z:=z) r
 cases h:lB tb z with
 |none=>rw[h]at g;have g':valueAt vs (.inr z:Key)=none:=g;rw[g'];rfl
 |some d=>rw[h]at g;obtain⟨u,v,e,_⟩:=g;rw[e];rfl
def zfR {i:Expr}{ty:TE}{nm:Str}{p:Pos}{a:Addr}{tb:List (Str×D)}(hi:PE X i ty)(hg:Gl X nm)(hm:X.mg nm=some (.ref a))(t:KTab X.K X.w a tb)(hdb:(nm==("__debug__":Str))=false):
  PC X .In i (.Name nm p) (fun σ H Q=>ty σ H fun y H1=>∃z,y=.str z/\Q (.bl (lB tb z).isSome) H1):=by
 intro pins s σ H Q I h;refine aQ (hi pins s σ H _ I h) fun iv s1 ⟨y,H1,I1,ry,z,ey,q⟩=>tZ I1 hg hm ?_ hdb;subst ey;obtain⟨es,vs,r,dd,ns⟩:=t.dict (prog:=X.prog) I1.kIn;refine wpAny_in_of (k:=(.inr z:Key)) (Bj (k:=.inr z) ry) ns dd.mapOf ?_;rw[Xb r];exact⟨.bl _,H1,I1.tok _,rfl,q⟩
def zcI {i:Expr}{ty:TE}{nm:Str}{p:Pos}{a:Addr}{tb:List (Str×D)}(hi:PE X i ty)(hg:Gl X nm)(hm:X.mg nm=some (.ref a))(t:KTab X.K X.w a tb)(hdb:(nm==("__debug__":Str))=false):
  PC X .NotIn i (.Name nm p) (fun σ H Q=>ty σ H fun y H1=>∃z,y=.str z/\Q (.bl (!(lB tb z).isSome)) H1):=by
 intro pins s σ H Q I h;refine aQ (hi pins s σ H _ I h) fun iv s1 ⟨y,H1,I1,ry,z,ey,q⟩=>tZ I1 hg hm ?_ hdb;subst ey;obtain⟨es,vs,r,dd,ns⟩:=t.dict (prog:=X.prog) I1.kIn;refine wpAny_notIn_of (k:=(.inr z:Key)) (Bj (k:=.inr z) ry) ns dd.mapOf ?_;rw[Xb r];exact⟨.bl _,H1,I1.tok _,rfl,q⟩
def W_ {b:Bool}{tb:List (Str×D)}{f:E}{st:L2.St}{H:Hp}{Q:VK}(w:tE X.K X.mg Wx m (tu b tb f) st H Q):tE X.K X.mg Wx .val f st H fun y H1=>∃z,y=.str z/\Q (.bl (if b then(lB tb z).isSome else !(lB tb z).isSome)) H1:=by
 obtain⟨P0,H0,P,Os,env,M,r,M',k,e,q⟩:=w;unfold tu at e;rcases gD e with⟨d,N1,e1,e⟩ |⟨c,n,e1,rfl⟩
 ·cases d<;>simp only[reduceCtorEq]at e
  rename_i z;cases e;exact aV k e1 fun P1 v1 H1 l1 h1 i1=>⟨z,i1,q P1 _ H1 l1 h1 (gB.of h1 (show Is _ _ _ (.bl _) _ from rfl))⟩
 ·exact aV k e1 q
def ziw (hi:SE X Wx .val i f)(hg:Gl X nm)(hm:X.mg nm=some (.ref a))(t:KTab X.K X.w a tb)(hdb:(nm==("__debug__":Str))=false:=by x_go)(hb:behindInMarks .In (.Name nm p)=false:=by rfl):ST X Wx (.Compare i [.In] [.Name nm p] pos) (tu true tb f):=
 Bq (Ri (zfR hi hg hm t hdb) hb) fun _ _ _ w=>W_ (b:=true) (Ij w)
def Lz (hi:SE X Wx .val i f)(hg:Gl X nm)(hm:X.mg nm=some (.ref a))(t:KTab X.K X.w a tb)(hdb:(nm==("__debug__":Str))=false:=by x_go)(hs:Ea i:=by exact fun _ _=>rfl):SE X Wx m (.Subscript (.Name nm p) i pos) (BK tb f):=by
 have h':PE X (.Subscript (.Name nm p) i pos) (fun σ H Q=>tE X.K X.mg Wx .val f σ H fun y H1=>∃z d,y=.str z/\lB tb z=some d/\∀v,(∀P H,Is X.K P H d v)->Q v H1):=by
  intro pins s σ H Q I h;refine zfo PySem.F.slot_dict_getitem.lookup hs (tZ I hg hm ?_ hdb);refine aQ (hi pins s σ H _ I h) fun iv s2 ⟨y,H2,I2,ry,z,d,ey,ed,q2⟩=>?_;subst ey;obtain⟨es,vs,r,dd,ns⟩:=t.dict (prog:=X.prog) I2.kIn;have g:=Ql (z:=z) r;rw[ed]at g;obtain⟨u,v,e1,e2,e3⟩:=g;exact⟨dd.typeIs,wpAny_getItem_of (k:=(.inr z:Key)) (Bj (k:=.inr z) ry) dd.mapOf e1 ⟨v,H2,I2.tok _,e2,q2 v e3⟩⟩
 refine gC h' ?_;rintro st H Q ⟨P0,H0,P,Os,env,M,r,M',k,e,q⟩;unfold BK at e;rcases gD e with⟨d,N1,e1,e⟩ |⟨c,n,e1,rfl⟩
 ·cases d<;>simp only[reduceCtorEq]at e
  rename_i z;rw[xae]at e;obtain⟨y,ey,e⟩:=e;cases e;exact aV k e1 fun P1 v1 H1 l1 h1 i1=>⟨z,y,i1,ey,fun v iv=>q P1 v H1 l1 h1 (gB.of h1 (iv P1 H1))⟩
 ·exact aV k e1 q
end
section
variable {X:Cx}{Wx:XW}{pos:Pos}
noncomputable def Gv (f:E):EA:=fun env M=>match f env M with
 |some (.v (.str z),M1)=>some (.v (z.cps.toList.map fun c=>.str ⟨#[c]⟩),M1)
 |some (.x c n,M1)=>some (.x c n,M1)
 |_=>none
def zgp (h:SE X Wx .val e f):SI X Wx tg e (Gv f):=by
 refine G9 (zgK h) ?_;rintro st H R ⟨P0,H0,P,Os,env,M,r,M',k,e,q⟩;unfold Gv at e;split at e
 ·rename_i z M1 ef;cases e;refine⟨P0,H0,P,Os,env,M,_,_,k,ef,fun P1 v1 H1 l1 h1 i1=>⟨z,i1,q P1 H1 _ l1 h1 fun P2 H2 l2=>?_⟩⟩;have hl:(z.cps.toList.map fun c=>(D.str ⟨#[c]⟩)).length=z.cps.size:=by simp
  rw[hl];refine⟨fun j hj=>hj,fun j h1 h2=>xaM h2 h1,fun j x H' y hj=>⟨y.1,?_⟩⟩;obtain⟨c,ec,rfl⟩:=y.2;refine⟨.str ⟨#[c]⟩,?_,rfl⟩;rw[xax,xef,ec];rfl
 ·rename_i c n M1 ef;cases e;exact⟨P0,H0,P,Os,env,M,_,_,k,ef,q⟩
 ·cases e
end
end E3
namespace L2
open PySem PySem.Spec PyProof.Rows
theorem Zx:Manifest.owners.lookup (String.ofList ['d','e','s','r','e','v','e','r'].reverse)=some Manifest.sig_reversed:=by kernel_rfl
theorem zeE:Slot "reversed" "__init__" "object.__init__":=
 .of (owner:="object") (n:="__init__") (by rw[xde,xct];kernel_rfl) (by x_go) (by x_go) (by x_go)
  (by first |exact .inl (by x_go) |exact .inr (by x_go)) (by rw[xdq];kernel_rfl)
theorem Hr:Slot "reversed" "__next__" "reversed.__next__":=
 .of (owner:="reversed") (n:="__next__") (by rw[xde,xct];kernel_rfl) (by x_go) (by x_go) (by x_go)
  (by first |exact .inl (by x_go) |exact .inr (by x_go)) (by rw[xdq];kernel_rfl)
theorem Zu:Slot "reversed" "__iter__" "reversed.__iter__":=
 .of (owner:="reversed") (n:="__iter__") (by rw[xde,xct];kernel_rfl) (by x_go) (by x_go) (by x_go)
  (by first |exact .inl (by x_go) |exact .inr (by x_go)) (by rw[xdq];kernel_rfl)
theorem Zw:entryFor table "reversed.__next__"=some Builtin.«reversed.__next__» :=entryFor_of_tree (by kernel_rfl)
theorem Zv (a:Value):argsOk "reversed.__next__" ⟨[a],[]⟩:=by
 unfold argsOk;rw[signature?_of (id:="reversed.__next__") (n:=['_','_','t','x','e','n','_','_']) (o:=['d','e','s','r','e','v','e','r']) (by kernel_rfl) Zx];kernel_rfl
theorem zaW:entryFor table "reversed.__iter__"=some Builtin.«dict_keyiterator.__iter__» :=
 entryFor_alias (id':="dict_keyiterator.__iter__") (by kernel_rfl) (by first |rfl |decide +kernel |(unfold String.splitOn;simp +decide [String.splitOnAux])) (by x_go) (by kernel_rfl)
theorem zbf (a:Value):argsOk "reversed.__iter__" ⟨[a],[]⟩:=by
 unfold argsOk;rw[signature?_of (id:="reversed.__iter__") (n:=['_','_','r','e','t','i','_','_']) (o:=['d','e','s','r','e','v','e','r']) (by kernel_rfl) Zx];kernel_rfl
def zcB:TypeCalled "reversed" "reversed.__new__" "object.__init__":=
 ⟨by x_go,by x_go,⟨_,_,F.mro_reversed⟩,F.made_reversed,F.plain_reversed_new,F.sub_reversed_self,zeE⟩
theorem zfw:typeLookup (.type "tuple") "__reversed__"=pure none:=by rw[xde,xct];kernel_rfl
theorem zeK:isSubtype (.type "tuple") (.type "dict")=pure false:=by rw[xdq];kernel_rfl
noncomputable def ZF (a:Addr) (i:Int):Obj:={cls:=.type "reversed",data:=.fields #[.ref a,rawInt i]}
def tM (h:Heap)(a t:Addr)(i:Int):Prop:=∃o,h.get? a=some o/\o.cls=.type "reversed"/\o.data=.fields #[.ref t,rawInt i]
def tM.typeIs {s:Shared}{a l:Addr}{i:Int}(x:tM s.heap a l i):s.TypeIs (.ref a) "reversed":=let ⟨o,ho,hc,_⟩:=x;⟨o,ho,hc⟩
def tM.at (x:tM h a l i)(e:∀o,h.get? a=some o->h'.get? a=some o):tM h' a l i:=let ⟨o,ho,r⟩:=x;⟨o,e _ ho,r⟩
theorem zg6 (t : Addr) (items : Array Value) : Meets (Builtin.«reversed.__new__» ⟨[.type "reversed", .ref t], []⟩) (fun _ R s=>IsTup s.heap t items/\(items.size:Int)<2 ^ 63/\
    R (.ok (.ret (.ref s.heap.objs.size))) {s with heap:=s.heap.push (ZF t ((items.size:Int) - 1)),toks:=s.toks + 1 + 1}):=
  .of_wp fun prog w A R s ⟨ht,hf,h⟩=>by
    unfold Builtin.«reversed.__new__»;refine xaa (xcD (newClass_reversed _) ?_)
    try dsimp only
    refine xaa (xcD (a:=()) (by first |rfl |kernel_rfl) ?_)
    refine xaa (xcD (a:=()) (by first |rfl |kernel_rfl) ?_)
    try dsimp only
    refine xaa (xda ht.typeIs zfw ?_)
    try dsimp only
    refine xaa ?_;show wpAny _ _ (do
      if <-isInstance (.ref t) (.type "dict") then return false
      match <-specialOf (.ref t) "__getitem__" with
      |none=>return false
      |some (.builtin id)=>
        if ["tuple.__getitem__","str.__getitem__","bytes.__getitem__","bytearray.__getitem__","memoryview.__getitem__","numpy.ndarray.__getitem__","sqlite3.Row.__getitem__"].contains id then return true
        if id=="sqlite3.Blob.__getitem__" then return false
        unsupported "reversed.__new__:is-it-a-sequence"
      |some _=>return true:Sem Bool) _ _ s
    refine xaa (wpAny_isInstance ht.typeIs zeK ?_);rw[xab (by decide)];refine xaa (xda ht.typeIs xdv.lookup ?_)
    try dsimp only
    rw[tG (by x_go)];refine xaj ?_;rw[xab (by decide)];refine xaa (len_tuple ht hf ?_);refine xaa (m:=asInt? _) (xcD (a:=some (items.size:Int)) (by first |rfl |kernel_rfl) ?_)
    try dsimp only
    unfold Builtin.SmallTypes.newRecord
    try dsimp only
    refine xaa (xbl ?_ (by size_fits));exact xaj ⟨_,rfl,h⟩
section
variable {prog:Program}{w:World}{A:Around}{E:Value->Shared->Prop}{s:Shared}
def zdo (ht:IsTup s.heap t items)(hf:(items.size:Int)<2 ^ 63)
  (h:Q (.ref s.heap.objs.size) {s with heap:=s.heap.push (ZF t ((items.size:Int) - 1)),toks:=s.toks + 1 + 1}):wpAny (model prog w) A (call (.type "reversed") [.ref t]) Q E s:=
 callType_new zcB (by decide) (F.typeCall_reversed_1 _) (F.newCall_reversed_1 _) (fun obj=>F.args_object_init_2 obj _) F.entry_reversed_new (zg6 t items) ⟨ht,hf,⟨_,xaJ _ rfl,rfl⟩,h⟩
def WW {it l:Addr}{i:Int}{Q:Value->Shared->Prop}(hit:tM s.heap it l i)(h:Q (.ref it) s):wpAny (model prog w) A (pyIter (.ref it)) Q E s:=by
 refine wpAny_pyIter_slot hit.typeIs Zu (xcW Zu hit.typeIs zaW ?_ (zbf _));show wpAny _ _ (ret (.ref it)) _ _ s;exact xaj ⟨_,rfl,"reversed",_,hit.typeIs,Hr.lookup,h⟩
def zcZ {it l:Addr}{i:Nat}{items:Array Value}{x:Value}{Q:Option Value->Shared->Prop}(hit:tM s.heap it l (i:Int))(hl:IsTup s.heap l items)(hx:items[i]? =some x)(hf:(items.size:Int)<2 ^ 63)
  (hQ:∀h',tM h' it l ((i:Int) - 1)->Heap.SameBut it s.heap h'->Q (some x) {s with heap:=h',toks:=s.toks + 1}):wpAny (model prog w) A (pyNext (.ref it)) Q E s:=by
 obtain⟨o,ho,hc,hd⟩:=id hit;have hi:i<items.size:=by
  rcases xaS i items.size with z |z
  ·exact z
  ·rw[Array.getElem?_eq_none z]at hx;cases hx
 unfold pyNext;refine xaa (xcV (xcP (name:=Str.ofString "__next__") hit.typeIs Hr
  (xcW Hr hit.typeIs Zw ?_ (Zv _))))
 unfold Builtin.«reversed.__next__»;refine xaa (xcD (a:=(Value.ref it,[])) rfl ?_)
 try dsimp only
 refine xaa (xbu ho hd (x:=.ref l) rfl ?_);refine xaa (xbu ho hd (x:=rawInt (i:Int)) rfl ?_);show wpAny _ _ (if (i:Int)<0 then _ else _) _ _ s
 rw[xab (by omega)];refine xaa (xda hl.typeIs xdv.lookup ?_);rw[xab (by simp)];refine xaa (wpAny_mkInt ?_);refine xaa (xcV (getItem_tuple (k:=(i:Int)) (j:=i) (s:={s with toks:=s.toks + 1}) hl (by omega) (by omega) ?_ hx ?_))
 ·exact xeb (by omega) (by omega)
 show wpAny _ _ (field (Value.ref it) 1 >>= _) _ _ _;refine xaa (xbu (s := { s with toks := s.toks + 1 }) ho hd (x := rawInt (i : Int)) rfl ?_);show wpAny _ _ (setField (Value.ref it) 1 (rawInt ((i : Int) - 1)) >>= _) _ _ _;refine xaa (xb3 (s := { s with toks := s.toks + 1 }) ho hd (by simp) ?_);refine xaj ⟨x, rfl, xaj (hQ _ ?_ (xdm ..))⟩;exact ⟨_,xbn _ ho (xbI (xaY hd _)),(xdJ ..).trans hc,by
  rw[xaY hd];simp⟩
def zeP {it l:Addr}{Q:Option Value->Shared->Prop}(hh:A.handled=none)(hit:tM s.heap it l (-1))
  (hQ:∀h',Heap.ExtBut it s.heap h'->Q none {s with heap:=h'}):wpAny (model prog w) A (pyNext (.ref it)) Q E s:=by
 obtain ⟨o, ho, hc, hd⟩ := id hit;unfold pyNext;refine xaa (xcV (xcP (name:=Str.ofString "__next__") hit.typeIs Hr
  (xcW Hr hit.typeIs Zw ?_ (Zv _))))
 unfold Builtin.«reversed.__next__»;refine xaa (xcD (a:=(Value.ref it,[])) rfl ?_)
 try dsimp only
 refine xaa (xbu ho hd (x:=.ref l) rfl ?_);refine xaa (xbu ho hd (x:=rawInt (-1)) rfl ?_);show wpAny _ _ (if (-1:Int)<0 then _ else _) _ _ s
 rw[tG (by decide)];refine xaa (wpAny_rule ?_);refine xaa ?_;show wpAny _ _ (setField (.ref it) 1 (rawInt (-1)) >>=fun _=>setField (.ref it) 0 .none) _ _ s;refine xaa (xb3 ho hd (by simp) ?_);refine xb3 (xbn _ ho (xbI (xaY hd _))) (xaY hd _) (by simp) ?_;refine xaa ?_;show wpAny _ _ (newExc (.type "StopIteration") [] >>=_) _ _ _;refine xaa ?_;simp only[newExc,newTuple];refine xaa (xbl ?_ (by size_fits));refine xaa (m:=firstArgMember _ _) (xcD (a:=Value.none) (by first |rfl |(simp only[firstArgMember];rfl)) ?_)
 refine xbl ?_ (by size_fits);simp only[raiseNew];refine xaa (wpAny_handled ?_)
 first |rw[show A.in1.handled=none from hh] |rw[hh]
 refine xaa (xaj (wpAny_throw ?_));refine xaa (wpAny_isInstance (T:="StopIteration") (b:=true) ⟨_,xaJ _ rfl,rfl⟩ isSubtype_stop ?_);exact xaj (hQ _ ((((xdm _ _ _).extBut).trans ((xdm _ _ _).extBut)).push _ |>.push _))
end
noncomputable def UW (K:Fgx) (a:Addr) (n:Nat):It:=
 ⟨fun i H=>i<n/\∃xs,g_ K H a xs/\xs.length=n,fun i H x H'=>H'=H/\∀xs,g_ K H a xs->xs[n - 1 - i]? =some x,fun i _=>i=n⟩
def zdm {P:Program}{w:World}{K:Fgx}{tg:Expr}(a it:Addr)(n:Nat):Turn P w K tg (UW K a n) [it] it (fun i h=>tM h it a ((n:Int) - 1 - (i:Int))) where
 mem:=by simp
 obj:=fun i h st b hb=>by
  have e:b=it:=by simpa using hb
  subst e;obtain⟨o,e,c,d⟩:=st;exact⟨o,e,fun v z=>by rw[d]at z;cases z⟩
 keep:=fun i h h' st k=>st.at fun o e=>k it (by simp) o e
 item:=by
  intro X hP hw hK hc i pins s σ H E I hf st hg;subst hP hw hK;obtain⟨hi,xs,hq,hlen⟩:=hg;obtain⟨its,rv,p,hz⟩:=I.tuple hq;have hx:xs[n - 1 - i]? =some (xs[n - 1 - i]'(by omega)):=xah (by omega);obtain⟨u,hu,ru⟩:=rv.get hx;obtain⟨f0,f1,f2,f3,f4,f5⟩:=hf it (by simp);have e:(n:Int) - 1 - (i:Int)=((n - 1 - i:Nat):Int):=by omega
  have st0:tM s.heap it a ((n - 1 - i:Nat):Int):=by rw[<-e];exact st
  have hn:=yP;have hl:=rv.length;refine zcZ st0 p (x:=u) (by simpa using hu) (by simp only[xai];omega) fun h' st' sb=>?_;have e2:((n - 1 - i:Nat):Int) - 1=(n:Int) - 1 - ((i + 1:Nat):Int):=by omega
  rw[e2]at st';have I1:Inv X pins σ H {s with heap:=h',toks:=s.toks + 1}:=I.turned (t':=s.toks + 1) (fun b o hb e=>(sb.2 b hb).trans e) f0 f1 f3 f4 f5;obtain⟨o,eo,c,d⟩:=id st';exact⟨u,rfl,Bc (s:={s with heap:=h',toks:=s.toks + 1}) eo c d (by decide) ⟨_,H,I1,ru,⟨rfl,fun ys hy=>by rw[I.tuple_inj hy hq];exact hx⟩,st',fun b hb=>(hf b hb).1⟩⟩
 done:=by
  intro X hP hw hK hc i pins s σ H E I hf st hg;subst hP hw hK;have hg':i=n:=hg;subst hg';obtain⟨f0,f1,f2,f3,f4,f5⟩:=hf it (by simp);have e:(i:Int) - 1 - (i:Int)= -1:=by omega
  have st0:tM s.heap it a (-1):=by rw[<-e];exact st
  exact zeP (I.ok.hd hc) st0 fun h' eb=>⟨rfl,I.turned (t':=s.toks) (fun b o hb e=>eb b o hb e) f0 f1 f3 f4 f5⟩
 self:=fun _ _ _ _ _ st h=>WW st h
section
variable {X:Cx}{tg:Expr}
noncomputable def zjg (K:Fgx) (ta:TA):TI:=fun σ H R=>ta σ H fun vs H1=>∃a xs,vs=[.ref a]/\g_ K H1 a xs/\R (UW K a xs.length) H1
def zgD (hg:Gl X "reversed")(hm:X.mg "reversed"=none)(ha:PA X [a] ta)(hs:starEach [a] X.env=[(false,eval a X.env)]:=by rfl):PI X tg (.Call (.Name "reversed" p) [a] [] pos) (zjg X.K ta):=by
 intro pins s σ H R I h;refine Call_ (Dd I hg hm boot_reversed (xbS (aQ (ha pos pins s σ H _ I h) fun us s1 ⟨vs,H1,I1,r1,q1⟩=>?_) hs rfl));obtain⟨b,xs,e,hq,q⟩:=q1;subst e;obtain⟨u,e,ru⟩:=vals1 r1;subst e;cases ru;obtain⟨its,rv,pl,hz⟩:=I1.tuple hq;have hlen:its.toArray.size=xs.length:=by rw[xai];exact rv.length.symm
 have hn:=yP;refine zdo pl (by rw[hlen];omega) ?_;rw[hlen];refine WW (l:=b) (i:=(xs.length:Int) - 1) ⟨_,xaJ _ rfl,rfl,rfl⟩ ?_;refine⟨s1.heap.objs.size,[s1.heap.objs.size],_,_,H1,rfl,I1.kept (t':=s1.toks + 1 + 1) fun b o e=>xaf _ e,zdm b _ xs.length,?_,fun c hc=>?_,q⟩
 ·have e:(xs.length:Int) - 1 - ((0:Nat):Int)=(xs.length:Int) - 1:=by omega
  show tM _ _ b ((xs.length:Int) - 1 - ((0:Nat):Int));rw[e];exact⟨_,xaJ _ rfl,rfl,rfl⟩
 ·have e:c=s1.heap.objs.size:=by simpa using hc
  subst e;exact I1.fpOk (xad _) (I1.hok.fresh (xad _))
end
end L2
namespace E3
open PySem PySem.Spec PyProof.Rows L2
section
variable {X:Cx}{Wx:XW}{m:Mode}{pos:Pos}
noncomputable def pH:D->D->Option D
 |.lst xs,.lst ys=>if xs.length + ys.length<=sizeLine then some (.lst (xs ++ ys)) else none
 |_,_=>none
def zc8 {K:Fgx}{P:Pl}{H:Hp}{d e z:D}{v w:V}(h:pH d e=some z)(h1:gA K P H d v)(h2:gA K P H e w):∃ds a b vs ws,z=.lst ds/\v=.ref a/\w=.ref b/\fW K H a vs/\fW K H b ws/\vs.length + ws.length<=sizeLine/\aH K P H ds (vs ++ ws):=by
 unfold pH at h;split at h
 ·split at h
  ·rename_i hl;cases h;obtain⟨a,vs,rfl,r1,s1⟩:=h1;obtain⟨b,ws,rfl,r2,s2⟩:=h2;exact⟨_,a,b,vs,ws,rfl,rfl,rfl,r1,r2,by rw[s1.len,s2.len];exact hl,s1.append s2⟩
  ·cases h
 ·cases h
def LK {a b:Expr}{f g:E}(ha:SE X Wx .bor a f)(hb:SE X Wx .bor b g):SN X Wx (.BinOp a .Add b pos) (s2 pH f g):=by
 refine gC (YJ Yz ha hb) ?_;rintro st H Q ⟨P0,H0,P,Os,env,M,r,M',k,e,q⟩;unfold s2 at e;rcases gD e with⟨d,M1,e1,e⟩ |⟨c,n,e1,rfl⟩
 ·refine aV k e1 fun P1 v1 H1 l1 h1 i1=>?_;have k1:=k.next l1 h1
  rcases gD e with⟨d2,M2,e2,e⟩ |⟨c,n,e2,rfl⟩
  ·refine aV k1 e2 fun P2 v2 H2 l2 h2 i2=>?_;rw[xae]at e;obtain⟨z,ez,e⟩:=e;cases e;obtain⟨ds',e',q⟩:=q;obtain⟨ds,a,b,vs,ws,ed,ea,eb,r1,r2,hl,is⟩:=zc8 ez (gK.vw h2 (gK.lt l2 h1 i1)) (gK.vw h2 i2);cases ed.symm.trans e';refine⟨a,b,vs,ws,ea,eb,r1,r2,hl,fun p hp=>?_⟩;obtain⟨l3,h3,nc⟩:=Eu (vs:=vs ++ ws) h2 hp;exact q (P2.bar p) p (vs ++ ws) _ (l1.trans (l2.trans l3)) h3 (l1.sure p (l2.sure p hp)) (.inr rfl) nc gq (aH.lt (l3.lt h2) is)
  ·exact aV k1 e2 q
 ·exact aV k e1 q
noncomputable def wO (f:E) (ps:EJ):EJ:=fun out env M=>bnd (f env M) fun d M1=>match d with
 |.str z=>if (reprText z).length<=sizeLine/\(out ++ reprText z).length<=sizeLine then ps (out ++ reprText z) env M1 else none
 |_=>none
def zgI (he:PE X e te)(hv:PJ X vs tj):PJ X (.FormattedValue e 114 none pos::vs) (fun out σ H Q=>te σ H fun v H1=>∃z,v=.str z/\(reprText z).length<=sizeLine/\(out ++ reprText z).length<=sizeLine/\tj (out ++ reprText z) σ H1 Q):=fun pins s σ H out Q I h=>by
 refine joinParts_cons (wpAny_FormattedValue_repr (aQ (he pins s σ H _ I h) fun u s1 ⟨x,H1,I1,r1,z,ez,hz,hl,q⟩=>?_));subst ez;obtain⟨t,rfl⟩:=r1;refine pyReprObj_str ?_ hz;exact formatField_str (fun t' tk=>⟨hl,hv pins _ σ H1 _ Q (I1.tok _) q⟩) hz
def zfU (he:SE X Wx .val e f)(h:SJ X Wx vs ps):SJ X Wx (.FormattedValue e 114 none pos::vs) (wO f ps):=by
 refine Kp (zgI he h) ?_;rintro out st H Q ⟨P0,H0,P,Os,env,M,r,M',k,e,q⟩;unfold wO at e;rcases gD e with⟨d,M1,e1,e⟩ |⟨c,n,e1,rfl⟩
 ·cases d<;>simp only[reduceCtorEq]at e
  rename_i z;split at e
  ·rename_i hl;exact aV k e1 fun P1 v1 H1 l1 h1 i1=>⟨z,i1,hl.1,hl.2,P0,H0,P1,Os,env,M1,r,M',k.next l1 h1,e,RQ.imp l1 q⟩
  ·cases e
 ·exact aV k e1 q
def ziI (hg:Gl X nm)(hm:X.mg nm=some (.ref a))(hd:∀P H,Is X.K P H d (.ref a))(hdb:(nm==("__debug__":Str))=false:=by x_go):SE X Wx m (.Name nm p) (aj d):=
 (Ly (sX hg hm (v:=.ref a) rfl hdb) hd).bor
def Qe {K:Fgx}{a:Addr}{o:Obj}{its:Array Value}{n:Nat}{ds:List D}{vs:List V}(l:K.lookup a=some o)(c:o.cls=.type "tuple")(e:o.data=.seq its n)(z:its.size<=sizeLine)(r:Vals vs its.toList)(i:∀P H,aH K P H ds vs):∀P H,Is K P H (.tup ds) (.ref a):=
 fun P H=>⟨a,vs,rfl,.inr ⟨o,its,n,l,c,e,z,r⟩,i P H⟩
def z_ (P:Program)(w:World)(K:Fgx)(mg:Mgx)(base:Heap)(k:Nat)(C:Addr)(m:Str)(n:Nat)(g:G):Prop:=
 ∃f fd ps ds dvs sp,Meth K C m f/\FnOk P w K mg base nF k f fd ps sp/\Binds K fd ps ds/\Vals dvs ds/\∀vs H Q E,zm K mg n g vs H Q E->sp (vs ++ dvs) H Q E
theorem z_.mono {P:Program}{w:World}{K:Fgx}{mg:Mgx}{base:Heap}{j k:Nat}{C:Addr}{m:Str}{n:Nat}{g:G}(a:z_ P w K mg base j C m n g)(h:j<=k):z_ P w K mg base k C m n g:=by
 obtain⟨f,fd,ps,ds,dvs,sp,h1,h2,h3⟩:=a;exact⟨f,fd,ps,ds,dvs,sp,h1,h2.mono h,h3⟩
structure OwnIs (K:Fgx)(C:Addr):Prop where
 ca:PySem.W.findIn K (.ref C) "__class__"=some (some (.builtin "object.__class__"))
 gt:PySem.W.specialIn K (.builtin "object.__class__") "__get__"=some (some (.builtin "getset_descriptor.__get__"))
 tk:PySem.W.takesIn K (.builtin "object.__class__")=some true
 mr:PySem.W.mroIn K C (.type "object")=some true
 me:PySem.W.kitOne K (.ref C) (.ref C)=some true
noncomputable def yL (fs:EA):EA:=fun env M=>match fs env M with
 |some (.v [.tup ds],M1)=>some (.v ds.reverse,M1)
 |some (.x c n,M1)=>some (.x c n,M1)
 |_=>none
def zih (hg:Gl X "reversed")(hm:X.mg "reversed"=none)(ha:SA X Wx .val [a] fs)(hs:starEach [a] X.env=[(false,eval a X.env)]:=by rfl):SI X Wx tg (.Call (.Name "reversed" p) [a] [] pos) (yL fs):=by
 refine G9 (zgD hg hm ha hs) ?_;rintro st H R ⟨P0,H0,P,Os,env,M,r,M',k,e,q⟩;unfold yL at e;split at e
 ·rename_i ds M1 ef;cases e;refine⟨P0,H0,P,Os,env,M,_,_,k,ef,fun P1 vs H1 l1 h1 i1=>?_⟩;obtain⟨v,ws,rfl,i1,rfl⟩:=i1;obtain⟨a,us,rfl,ra,is⟩:=i1;refine⟨a,us,rfl,ra,q P1 H1 _ l1 h1 fun P2 H2 l2=>?_⟩;have ra2:=l2.tup ra;have is2:=aH.lt l2 is;have hn:us.length=ds.length:=is2.len;rw[xba];refine⟨fun j hj=>⟨by omega,us,ra2,rfl⟩,fun j h1 h2=>by show j=us.length;omega,fun j x H' y hj=>⟨y.1,?_⟩⟩;have hj':ds.length - 1 - j<ds.length:=by omega
  obtain⟨v,ev,iv⟩:=aH.get is2 (xah hj');have:=y.2 us ra2;rw[hn,ev]at this;cases this;exact⟨_,by rw[List.getElem?_reverse hj,xah hj'],iv⟩
 ·rename_i c n M1 ef;cases e;exact⟨P0,H0,P,Os,env,M,_,_,k,ef,q⟩
 ·cases e
end
end E3
namespace E3
open PySem L2
noncomputable def dg (n:Nat):List Nat:=(Nat.toDigits 10 n).map Char.toNat
def Cy (n:Nat):NumText.AllDigits (dg n):=fun c hc=>by
 obtain⟨d,hd,rfl⟩:=xaK.mp hc;have h:=Nat.isDigit_of_mem_toDigits (by decide) (by decide) hd;simp only[Char.isDigit,xac,xaB]at h;exact⟨h.1,h.2⟩
def Ju (n:Nat):dg n≠ []:=fun e=>Nat.toDigits_ne_nil (List.map_eq_nil_iff.mp e)
def Fo (h1:1<=k)(h:n<10 ^ k):(dg n).length<=k:=by
 rw[dg,xap];exact toDigits_len_pow (by decide) h1 h
def zec:dg 0=[48]:=by x_go
def V1 (n:Nat)(h:n≠0):∃c r,dg n=c::r/\49<=c:=by
  induction n using Nat.strongRecOn with
  |ind n ih=>
    unfold dg;rw[Nat.toDigits_eq_if (by decide)]
    by_cases hn:n<10
    · rw[tG hn];exact⟨(Nat.digitChar n).toNat,[],rfl,(show ∀n<10,n≠0->49<=(Nat.digitChar n).toNat by decide) n hn h⟩
    · rw[xab hn];obtain⟨c,r,e,hc⟩:=ih (n / 10) (by omega) (by omega);unfold dg at e;exact⟨c,r ++ _,by rw[xaP,e];rfl,hc⟩
noncomputable def b_ (i:Int):Str:=Str.ofString (toString i)
def w5 (h:0<=i):(b_ i).cps.toList=dg i.toNat:=by
 have:=W.KIN.signs_num i.toNat;rw[xca h]at this;exact this
def zco (h:i<0):(b_ i).cps.toList=45::dg i.natAbs:=by
 obtain⟨m,rfl⟩:∃m,i=Int.negSucc m:=by
  cases i with
  |ofNat n=>exact absurd h (by simp)
  |negSucc m=>exact⟨m,rfl⟩
 unfold b_ dg;rw[PyProof.Rows.signs_ofString];show List.map Char.toNat ("-" ++ toString (m + 1)).toList=_;rw[String.toList_append,xaP,Nat.toString_eq_ofList_toDigits]
 simp
def Sy (h1:1<=k)(h:i.natAbs<10 ^ k):(b_ i).length<=k + 1:=by
 show(b_ i).cps.size<=k + 1;rw[<-xb8]
 by_cases h0:0<=i
 ·rw[w5 h0];have:=Fo (n:=i.toNat) h1 (by rw[<-Int.natAbs_of_nonneg h0]at *;simpa using h);omega
 ·rw[zco (by omega),xal];have:=Fo h1 h;omega
def Qd (h:i.natAbs<10 ^ 600):intText? (b_ i)=some i:=by
 have hl:=Sy (by decide) h
 by_cases h0:0<=i
 ·rw[intText_digits (by rw[w5 h0];exact Cy _) (by rw[w5 h0];exact Ju _) (by omega),w5 h0];have:=W.KIN.val_back i.toNat;unfold dg;rw[this,xca h0]
 ·rw[intText_neg (zco (by omega)) (Cy _) (Ju _) (by omega)];have:=W.KIN.val_back i.natAbs;unfold dg;rw[this];congr 1;omega
noncomputable def jn (c:Nat):List (List Nat)->List Nat
 | []=>[]
 | [p]=>p
 |p::q::r=>p ++ c::jn c (q::r)
theorem VB:∀{p q r s:List Nat},c∉p->c∉q->p ++ c::r=q ++ c::s->p=q/\r=s
  | [],[],_,_,_,_,h=>⟨rfl,by simpa using h⟩
  | [],d::q,_,_,_,hq,h=>by
    simp only[xbW,xbf,xbV]at h;exact absurd (h.1 ▸ xaD) hq
  |d::p,[],_,_,hp,_,h=>by
    simp only[xbW,xbf,xbV]at h;exact absurd (h.1 ▸ xaD) hp
  |d::p,e::q,r,s,hp,hq,h=>by
    simp only[xbf,xbV]at h;obtain⟨a,b⟩:=VB (fun z=>hp (xan _ z)) (fun z=>hq (xan _ z)) h.2;exact⟨by rw[h.1,a],b⟩
theorem W4:∀{ps qs:List (List Nat)},ps≠ []->qs≠ []->(∀p∈ps,c∉p)->(∀q∈qs,c∉q)->jn c ps=jn c qs->ps=qs
  | [],_,h,_,_,_,_=>absurd rfl h
  |_,[],_,h,_,_,_=>absurd rfl h
  | [p],[q],_,_,_,_,h=>by simp only[jn]at h;rw[h]
  | [p],q::q'::r,_,_,hp,_,h=>by
    simp only[jn]at h;exact absurd (h ▸ (by simp:c∈q ++ c::jn c (q'::r))) (hp p xaD)
  |p::p'::r,[q],_,_,_,hq,h=>by
    simp only[jn]at h;exact absurd (h ▸ (by simp:c∈p ++ c::jn c (p'::r))) (hq q xaD)
  |p::p'::r,q::q'::s,_,_,hp,hq,h=>by
    simp only[jn]at h;obtain⟨a,b⟩:=VB (hp p xaD) (hq q xaD) h;have:=W4 (by simp) (by simp) (fun x hx=>hp x (xan _ hx)) (fun x hx=>hq x (xan _ hx)) b;rw[a,this]
noncomputable def cd (s:Str):List Nat:=s.cps.toList
def Vm (h:cd a=cd b):a=b:=by
 obtain⟨x⟩:=a;obtain⟨y⟩:=b;have:x=y:=Array.toList_inj.mp h;rw[this]
def gW (a b:Str):cd (a ++ b)=cd a ++ cd b:=by
 unfold cd;rw[xej,xdn]
theorem S5 (c:Nat):∀ps:List Str,cd (Str.join ⟨#[c]⟩ ps)=jn c (ps.map cd)
  | []=>rfl
  | [p]=>rfl
  |p::q::r=>by
    show cd (p ++ (⟨#[c]⟩:Str) ++ Str.join ⟨#[c]⟩ (q::r))=_;rw[gW,gW,S5 c (q::r)]
    simp[jn,cd]
def LQ (hn:ps≠ [])(hf:∀p∈ps,c∉cd p)(hx:cd x=jn c (ps.map cd)):Txt.split x ⟨#[c]⟩=ps:=by
 have h1:=StrLaws.join_split x ⟨#[c]⟩;have h2:cd x=jn c ((Txt.split x ⟨#[c]⟩).map cd):=by rw[<-S5,h1]
 have h3:(Txt.split x ⟨#[c]⟩)≠ []:=fun e=>by
  have:=PyProof.Rows.split_pos x ⟨#[c]⟩;rw[e]at this
  simp at this
 have h4:=W4 (c:=c) (ps:=(Txt.split x ⟨#[c]⟩).map cd) (qs:=ps.map cd) (by simpa using h3) (by simpa using hn)
  (fun p hp=>by obtain⟨q,hq,rfl⟩:=xaK.mp hp;exact StrLaws.split_free x c q hq) (fun p hp=>by obtain⟨q,hq,rfl⟩:=xaK.mp hp;exact hf q hq) (h2.symm.trans hx)
 exact(List.map_inj_right (fun _ _=>Vm)).mp h4
def zcT (h:cd x=c::r):cd (Txt.slice x (some 1) none)=r:=by
 have hl:(cd x).length=r.length + 1:=by rw[h];rfl
 have:=xdf (x:=x) (i:=1) ⟨by decide,by show(1:Int)<=((cd x).length:Int);omega⟩;have e:=eq_of_beq this;rw[e];show List.take (((cd x).length:Int) - 1).toNat (List.drop (1:Int).toNat (cd x))=r;rw[h]
 simp
def zcP (h:cd x=c::r):Txt.startswith x (Str.ofString "-")=decide (c=45):=by
 have hl:x.length=r.length + 1:=by
  show x.cps.size=_;rw[<-xb8];show(cd x).length=_;rw[h];rfl
 have e1:(Str.ofString "-").cps= #[45]:=by x_go
 have e2:(Str.ofString "-").length=1:=by x_go
 unfold Txt.startswith Builtin.Str.subAt;rw[e1,e2,hl];have e3:x.cps=(c::r).toArray:=by
  rw[<-h];simp[cd]
 rw[e3,xaC (by omega),xdD];have e4:((c::r).toArray).extract 0 (0 + 1)= #[c]:=by simp
 rw[e4];rw[xaQ]
 simp
def CZ (hz:z=⟨#[c]⟩)(ps:List Str):cd (Txt.join z ps)=jn c (ps.map cd):=by
 subst hz;show cd (Builtin.Str.glued _ _)=_;rw[StrLaws.glued_eq_join,S5]
def fZ (x:Str):x.length=(cd x).length:=by
 show x.cps.size=x.cps.toList.length
 simp
def zgc {i:Int}(h:i.natAbs<2 ^ 1900):i.natAbs.log2<1920:=by
 by_cases h0:i.natAbs=0
 ·rw[h0];decide
 ·have:=(Nat.log2_lt h0).mpr h;omega
def Oz:x=y ↔ cd x=cd y:=⟨fun h=>by rw[h],Vm⟩
def Av:(x=Str.ofString "")=(cd x=[]):=propext (Oz.trans (by rw[show cd (Str.ofString "")=[] by x_go]))
def eq_0:(x=Str.ofString "0")=(cd x=[48]):=propext (Oz.trans (by rw[show cd (Str.ofString "0")=[48] by x_go]))
def V7:(x=Str.ofString "-0")=(cd x=[45,48]):=propext (Oz.trans (by rw[show cd (Str.ofString "-0")=[45,48] by x_go]))
theorem Vn (c:Nat):cd ⟨#[c]⟩=[c]:=rfl
noncomputable def nR (c:Nat):Bool:=decide (48<=c) && decide (c<=57)
def Wy (c:Nat):vq ⟨#[c]⟩ (Str.ofString "0123456789")=nR c:=by
 by_cases h:c<58
 ·exact(show ∀c<58,vq ⟨#[c]⟩ (Str.ofString "0123456789")=nR c by x_go) c h
 ·unfold vq nR;rw[xdK,xaQ];simp only[xaB,xac];exact⟨fun m=>absurd ((show ∀x∈(Str.ofString "0123456789").cps.toList,x<58 by x_go) c m) h,fun m=>absurd (Nat.lt_succ_of_le m.2) h⟩
noncomputable def ni (cs:List Nat):Bool:= !decide (cs=[]) && cs.all nR && (decide (cs=[48]) || !decide (cs.head? =some 48))
def zeO (cs:List Nat):((cs.map fun c=> !nR c).any id)= !cs.all nR:=by
 induction cs with
 |nil=>rfl
 |cons c r ih=>simp only[xak,xbm,xbs,ih,id,Bool.not_and]
noncomputable def pZ (cs:List Nat):List Nat:=if cs.head? =some 45 then cs.tail else cs
def good (cs:List Nat):Bool:= !decide (cs=[45,48]) && ni (pZ cs)
noncomputable def Mz (cs:List Nat):Int:=if cs.head? =some 45 then -((NumText.digitsVal cs.tail:Nat):Int) else((NumText.digitsVal cs:Nat):Int)
def zjG (x:Str):Txt.startswith x (Str.ofString "-")=decide ((cd x).head? =some 45):=by
  cases h:cd x with
  |nil=>
    have:x=Str.ofString "":=by rw[Av];exact h
    rw[this]
    decide +kernel
  |cons c r=>
    rw[zcP h]
    simp
def zj3 (h:cs.all nR=true):NumText.AllDigits cs:=fun c hc=>by
 have:=xaO.mp h c hc;unfold nR at this
 simpa using this
def CG (h:ni cs=true):cs≠ []/\NumText.AllDigits cs/\(cs=[48]\/cs.head? ≠some 48):=by
 unfold ni at h;simp only[xac,xbp,xcp,xaB,xd7]at h;exact⟨h.1.1,zj3 h.1.2,h.2⟩
def zc5 (h:ni (pZ (cd x))=true)(hl:x.length<=600):intText? x=some (Mz (cd x)):=by
 obtain⟨h1,h2,h3⟩:=CG h;unfold pZ at h1 h2;unfold Mz
 by_cases hh:(cd x).head? =some 45
 ·rw[tG hh]at h1 h2 ⊢;obtain⟨r,e⟩:∃r,cd x=45::r:=by
   cases hc:cd x with
   |nil=>rw[hc]at hh;cases hh
   |cons c r=>rw[hc]at hh;simp at hh;exact⟨r,by rw[hh]⟩
  rw[e,xcO]at h1 h2 ⊢;exact intText_neg e h2 h1 (by omega)
 ·rw[xab hh]at h1 h2 ⊢;exact intText_digits h2 h1 (by omega)
def ziD (x:Str):(Txt.lstripChars x (Str.ofString "-")).length=x.length - ((cd x).takeWhile fun c=>decide (c=45)).length:=by
 have hg:(fun c=>((Str.ofString "-").cps.contains c:Bool))=fun c=>decide (c=45):=by
  funext c;rw[show(Str.ofString "-").cps= #[45] by x_go]
  simp
 have hlo:stripLo (Str.ofString "-").cps.contains true x=((cd x).takeWhile fun c=>decide (c=45)).length:=by
  unfold stripLo;rw[tG rfl];show((cd x).takeWhile fun c=>((Str.ofString "-").cps.contains c:Bool)).length=_;rw[hg]
 have hle:=PyProof.Rows.takeWhile_len_le (fun c=>decide (c=45)) (cd x);unfold Txt.lstripChars Txt.stripBy
 split
 ·rename_i h;unfold stripSame at h;rw[xac,xaZ,hlo]at h;omega
 ·unfold stripped;rw[hlo];show(x.cps.extract _ (stripHi _ false x _)).size=_;unfold stripHi;rw[xab (by decide),Array.size_extract];show min x.cps.size x.cps.size - _=x.cps.size - _;omega
def zfD (h:good (cd x)=true):(Txt.lstripChars x (Str.ofString "-")).length=(pZ (cd x)).length:=by
  unfold good at h;rw[xac]at h;obtain⟨h1,h2,h3⟩:=CG h.2;rw[ziD,fZ];have no:∀cs:List Nat,NumText.AllDigits cs->(cs.takeWhile fun c=>decide (c=45))=[]:=fun cs hd=>by
    cases cs with
    |nil=>rfl
    |cons c r=>
      have:=hd c xaD;rw[xev,xab (by simp;omega)]
  unfold pZ at h1 h2 ⊢
  by_cases hh:(cd x).head? =some 45
  · rw[tG hh]at h1 h2 ⊢;obtain⟨r,e⟩:∃r,cd x=45::r:=by
      cases hc:cd x with
      |nil=>rw[hc]at hh;cases hh
      |cons c r=>rw[hc]at hh;simp at hh;exact⟨r,by rw[hh]⟩
    rw[e,xcO]at h1 h2 ⊢;rw[xev,tG (by simp),no _ h2]
    simp
  · rw[xab hh]at h1 h2 ⊢;rw[no _ h2]
    simp
def Xj (h:n<340282366920938463463374607431768211456):n.log2<1920:=by
 by_cases h0:n=0
 ·rw[h0];decide
 ·have:=(Nat.log2_lt h0 (k:=128)).mpr h;omega
section
variable {env:Env}{M M1:Mm}{f g h c:E}{d e:D}{i j:Int}{n k:Nat}{z:Str}{b:Bool}{ds es:List D}{s t:S}{x:Str}{fa:EA}{u:G}
theorem zfg {q:D->Mm->OS}:h_ q (some (.x x i,M))=some (.ex x i,M):=rfl
theorem zfM {q:D->Mm->O}:lE q (some (.x x i,M))=some (.x x i,M):=rfl
theorem ze9 {q:List D->Mm->O}:wD q (some (.x x i,M))=some (.x x i,M):=rfl
theorem zff {q:Mm->Option (ResA×Mm)}:O2 q (some (.x x i,M))=some (.x x i,M):=rfl
theorem ze8:yF d (some (.x x i,M))=some (.x x i,M):=rfl
def Qs (q:List D->O):Option Cl->O
 |some (.lst ds)=>q ds
 |_=>none
theorem zko {q:List D->O}:Qs q (some (.lst ds))=q ds:=rfl
noncomputable def yV (M:Mm) (k:Nat) (ds:List D):Option D->O
 |some z=>some (.v z,M.set k (.lst ds.dropLast))
 |none=>none
theorem Zd:yV M k ds (some d)=some (.v d,M.set k (.lst ds.dropLast)):=rfl
def Hf (M:Mm):D->O
 |.ref k=>Qs (fun ds=>yV M k ds ds[ds.length - 1]?) M[k]?
 |_=>none
theorem zhb:Hf M (.ref k)=Qs (fun ds=>yV M k ds ds[ds.length - 1]?) M[k]? :=rfl
theorem zjN:wY f env M=lE (fun d M1=>Hf M1 d) (f env M):=rfl
def GJ (q:List D->OS):Option Cl->OS
 |some (.lst ds)=>q ds
 |_=>none
theorem zkp {q:List D->OS}:GJ q (some (.lst ds))=q ds:=rfl
noncomputable def En (env:Env) (g:Mm->O) (M:Mm):D->OS
 |.ref k=>GJ (fun _=>h_ (fun y M2=>GJ (fun ds=>if ds.length<sizeLine then some (.nx env,M2.set k (.lst (ds ++ [y]))) else none) M2[k]?) (g M)) M[k]?
 |_=>none
theorem zgB {q:Mm->O}:En env q M (.ref k)=GJ (fun _=>h_ (fun y M2=>GJ (fun ds=>if ds.length<sizeLine then some (.nx env,M2.set k (.lst (ds ++ [y]))) else none) M2[k]?) (q M)) M[k]? :=rfl
theorem zhx:Bx f g env M=h_ (fun d M1=>En env (g env) M1 d) (f env M):=rfl
def zim (h:M[k]? =some (.lst ds)):vw M (.ref k)=.lst ds:=by unfold vw;simp only[h]
def Er (q:List D->Mm->O):Option (ResA×Mm)->O
 |some (.v ds,M)=>q ds M
 |_=>none
theorem zhH {q:List D->Mm->O}:Er q (some (.v ds,M))=q ds M:=rfl
theorem zeh:xZ u fa env M=Er (fun ds M1=>u ds M1) (fa env M):=rfl
theorem Rv:za x f env M=h_ (fun _ M1=>some (.ex x 0,M1)) (f env M):=rfl
noncomputable def Ud (k:Nat) (M:Mm) (env:Env):Option Slot->OS
 |some (.exc _ _)=>some (.nx (env.set k .un),M)
 |_=>none
theorem zje {e':Env}:Ud k M e' (some (.exc x i))=some (.nx (e'.set k .un),M):=rfl
noncomputable def zB (k:Nat):OS->OS
 |some (.nx e,M2)=>Ud k M2 e e[k]?
 |some (.rt d,M2)=>some (.rt d,M2)
 |_=>none
theorem zeG {e':Env}:zB k (some (.nx e',M))=Ud k M e' e'[k]? :=rfl
theorem zfd:zB k (some (.rt d,M))=some (.rt d,M):=rfl
noncomputable def zE (k:Nat) (cat:Str->Bool) (q:S) (env:Env):OS->OS
 |some (.ex c n,M1)=>if cat c=true then(if k<env.length then zB k (q (env.set k (.exc c n)) M1) else none) else none
 |o=>o
theorem zgj {cat:Str->Bool}{e':Env}:zE k cat t env (some (.nx e',M))=some (.nx e',M):=rfl
theorem zeI {cat:Str->Bool}:zE k cat t env (some (.rt d,M))=some (.rt d,M):=rfl
theorem zh1 {cat:Str->Bool}:zE k cat t env (some (.ex x i,M))=if cat x=true then(if k<env.length then zB k (t (env.set k (.exc x i)) M) else none) else none:=rfl
theorem zi6 {cat:Str->Bool}:zf k cat s t env M=zE k cat t env (s env M):=rfl
noncomputable def Gz (tb:Str->Option Bool) (M:Mm):Option Slot->O
 |some (.exc c _)=>(tb c).map fun b=>(.v (.bl b),M)
 |_=>none
theorem zkn {tb:Str->Option Bool}:Gz tb M (some (.exc x i))=(tb x).map fun b=>(.v (.bl b),M):=rfl
theorem zjI {tb:Str->Option Bool}:n6 k tb env M=Gz tb M env[k]? :=rfl
noncomputable def GC (b:Bool) (tb:List (Str×D)) (M:Mm):D->O
 |.str z=>some (.v (.bl (if b then(lB tb z).isSome else !(lB tb z).isSome)),M)
 |_=>none
theorem zjY {tb:List (Str×D)}:GC b tb M (.str z)=some (.v (.bl (if b then(lB tb z).isSome else !(lB tb z).isSome)),M):=rfl
theorem zjr {tb:List (Str×D)}:tu b tb f env M=lE (fun d M1=>GC b tb M1 d) (f env M):=rfl
def W9 (tb:List (Str×D))(M:Mm):D->O
 |.str z=>(lB tb z).map fun y=>(.v y,M)
 |_=>none
theorem zgO {tb:List (Str×D)}:W9 tb M (.str z)=(lB tb z).map fun y=>(.v y,M):=rfl
theorem zir {tb:List (Str×D)}:BK tb f env M=lE (fun d M1=>W9 tb M1 d) (f env M):=rfl
noncomputable def txR:O->Option (ResA×Mm)
 |some (.v (.str z),M1)=>some (.v (z.cps.toList.map fun c=>.str ⟨#[c]⟩),M1)
 |some (.x c n,M1)=>some (.x c n,M1)
 |_=>none
theorem zkD:Gv f env M=txR (f env M):=rfl
theorem zk8:txR (some (.v (.str z),M))=some (.v (z.cps.toList.map fun c=>.str ⟨#[c]⟩),M):=rfl
noncomputable def Hs:Option (ResA×Mm)->Option (ResA×Mm)
 |some (.v [.tup ds],M1)=>some (.v ds.reverse,M1)
 |some (.x c n,M1)=>some (.x c n,M1)
 |_=>none
theorem zhK:yL fa env M=Hs (fa env M):=rfl
theorem zhC:Hs (some (.v [.tup ds],M))=some (.v ds.reverse,M):=rfl
noncomputable def Xu (o:Str->List D->Option D) (q:Mm->Option (ResA×Mm)) (M:Mm):D->O
 |.str y=>yC (o y) (q M)
 |_=>none
theorem R0 {o:Str->List D->Option D}{q:Mm->Option (ResA×Mm)}:Xu o q M (.str z)=yC (o z) (q M):=rfl
theorem Rt {o:Str->List D->Option D}:n_ o f fa env M=lE (fun d M1=>Xu o (fa env) M1 d) (f env M):=rfl
theorem T8 {y:Str}:Mj z [.str y]=some (.bl (Txt.startswith z y)):=rfl
theorem T6 {y:Str}:Mi z [.str y]=if z.length<=sizeLine then some (.str (Txt.lstripChars z y)) else none:=rfl
theorem Ro {ps:EJ}:pL ps env M=ps Str.empty env M:=rfl
theorem Rr {out:Str}:pF out env M=if out.length<=sizeLine then some (.v (.str out),M) else none:=rfl
theorem Rq {ps:EJ}{out:Str}:pD z ps out env M=if (out ++ z).length<=sizeLine then ps (out ++ z) env M else none:=rfl
noncomputable def W7 (ps:EJ) (out:Str) (env:Env) (M:Mm):Option Str->O
 |some y=>if (out ++ y).length<=sizeLine then ps (out ++ y) env M else none
 |none=>none
theorem Hl {ps:EJ}{out y:Str}:W7 ps out env M (some y)=if (out ++ y).length<=sizeLine then ps (out ++ y) env M else none:=rfl
theorem Y5 {ps:EJ}{out:Str}:tY f ps out env M=lE (fun d M1=>W7 ps out env M1 (DP d)) (f env M):=rfl
theorem zh5:DP (.str z)=if z.length<=sizeLine then some z else none:=rfl
theorem zjK:DP (.int i)=if i.natAbs.log2<1920 then some (Str.ofString (toString i)) else none:=rfl
noncomputable def W6 (ps:EJ) (out:Str) (env:Env) (M:Mm):D->O
 |.str z=>if (reprText z).length<=sizeLine/\(out ++ reprText z).length<=sizeLine then ps (out ++ reprText z) env M else none
 |_=>none
theorem Hj {ps:EJ}{out:Str}:W6 ps out env M (.str z)=if (reprText z).length<=sizeLine/\(out ++ reprText z).length<=sizeLine then ps (out ++ reprText z) env M else none:=rfl
theorem Y4 {ps:EJ}{out:Str}:wO f ps out env M=lE (fun d M1=>W6 ps out env M1 d) (f env M):=rfl
theorem zkQ:pH (.lst ds) (.lst es)=if ds.length + es.length<=sizeLine then some (.lst (ds ++ es)) else none:=rfl
theorem ziF {y:Str}:aN (.str z) (.str y)=if z.length + y.length<=sizeLine then some (.str (z ++ y)) else none:=rfl
theorem zlm:aO (.str z) (.int i)=if z.length<=sizeLine then(eG z.cps.toList i).map fun c=>.str ⟨#[c]⟩ else none:=rfl
theorem zhl:eU [.str z]=if z.length<=sizeLine then some (.int z.length) else none:=rfl
theorem zlg:kI [.int i]=if i.natAbs.log2<1920 then some (.str (toString i)) else none:=rfl
theorem zkr:sI [.str z]=if z.length<=640 then(intText? z).map .int else none:=rfl
theorem zla:yD [.lst ds]=(xK ds).map fun bs=>.bl (bs.any id):=rfl
theorem zgW:lD [.lst ds]=some (.tup ds):=rfl
theorem ziT {y:Str}:aF .isin (.str z) (.str y)=some (.bl (vq z y)):=rfl
theorem zhR {y:Str}:aF .notin (.str z) (.str y)=some (.bl (!vq z y)):=rfl
def zkW {y:Str}:aF .eq (.str z) (.str y)=some (.bl (decide (z=y))):=by
 unfold aF fV wF;rw[tG (by constructor<;>first |rfl |simp[D.dep])]
 have:(z==y)=decide (z=y):=by rw[xaQ];simp
 simp[D.eq,this]
def zlA {y:Str}:aF .ne (.str z) (.str y)=some (.bl (!decide (z=y))):=by
 unfold aF fV wH;rw[tG (by constructor<;>first |rfl |simp[D.dep])]
 have:(z==y)=decide (z=y):=by rw[xaQ];simp
 simp[D.eq,this]
theorem zgX:aF .same .non .non=some (.bl true):=rfl
theorem zhj:aF .other (.int i) .non=some (.bl true):=rfl
theorem ziz:aF .other .non .non=some (.bl false):=rfl
theorem zP {α:Type}{e:E}(A B:α->D):∀(as:List α) (acc:List D),(∀a∈as,e (.val (A a)::env) M=some (.v (B a),M))->acc.length + as.length<sizeLine->nG (aj (.bl true)) e env (as.map A) acc M=some (acc ++ as.map B,M)
  | [],acc,_,_=>by simp[nG]
  |a::as,acc,h,hl=>by
    rw[xal]at hl;have hr:=zP A B as (acc ++ [B a]) (fun a' ha'=>h a' (by simp[ha'])) (by rw[xam,xaE];omega);rw[xak];unfold nG;rw[show aj (.bl true) (.val (A a)::env) M=some (.v (.bl true),M) from rfl];dsimp only;rw[h a xaD];dsimp only;rw[tG (by omega),hr]
    simp
noncomputable def Dw (k:Nat) (t:S) (ds:List D):OS->OS
 |some (.nx e,M1)=>loopS k t ds e M1
 |some (.ct e,M1)=>loopS k t ds e M1
 |some (.bk e,M1)=>some (.nx e,M1)
 |some (.rt d,M1)=>some (.rt d,M1)
 |some (.ex c n,M1)=>some (.ex c n,M1)
 |none=>none
theorem zd8:loopS k t [] env M=some (.nx env,M):=rfl
theorem zfH:loopS k t (d::ds) env M=if k<env.length then Dw k t ds (t (env.set k (.val d)) M) else none:=rfl
theorem zjX {e':Env}:Dw k t ds (some (.nx e',M))=loopS k t ds e' M:=rfl
theorem zjn {e':Env}:Dw k t ds (some (.ct e',M))=loopS k t ds e' M:=rfl
theorem ziV {e':Env}:Dw k t ds (some (.bk e',M))=some (.nx e',M):=rfl
theorem zkd:Dw k t ds (some (.rt d,M))=some (.rt d,M):=rfl
theorem zlu:Dw k t ds (some (.ex x i,M))=some (.ex x i,M):=rfl
theorem at0 {α:Type}{a:α}{xs:List α}:eG (a::xs) 0=some a:=gR (j:=0) rfl
theorem at1 {α:Type}{a b:α}{xs:List α}:eG (a::b::xs) 1=some b:=gR (j:=1) rfl
theorem at2 {α:Type}{a b c:α}{xs:List α}:eG (a::b::c::xs) 2=some c:=gR (j:=2) rfl
theorem Jb {α:Type}{a b c d:α}{xs:List α}:eG (a::b::c::d::xs) 3=some d:=gR (j:=3) rfl
def JF {M:Mm}{cl:Cl}:(M ++ [cl])[M.length]? =some cl:=List.getElem?_concat_length ..
def s_end {M:Mm}{cl cl':Cl}:(M ++ [cl]).set M.length cl'=M ++ [cl']:=by simp
def w_end {M:Mm}:vw (M ++ [.lst ds]) (.ref M.length)=.lst ds:=zim JF
def Fe {α β:Type}(f:α->β)(xs:List α)(lo hi:Option Int):gO (xs.map f) lo hi=(gO xs lo hi).map f:=by
 unfold gO;rw[xap, <-xeq, <-xer]
def Fd {α:Type}(xs:List α){i:Int}(h:0<=i):gO xs (some i) none=xs.drop i.toNat:=by
 obtain⟨k,rfl⟩:∃k:Nat,i=k:=⟨i.toNat,by omega⟩;unfold gO;rw[HT.ZJ,HT.Kv];rw[xbg (by rw[xbe];omega),xbw]
 by_cases hk:k<=xs.length
 ·rw[xcH hk]
 ·rw[xcX (by omega),xb6,xcS (by omega)]
def VF {α:Type}(xs:List α){i:Int}(h:0<=i):gO xs none (some i)=xs.take i.toNat:=by
 obtain⟨k,rfl⟩:∃k:Nat,i=k:=⟨i.toNat,by omega⟩;unfold gO;rw[HT.ZJ,HT.Kv,xeh,Nat.sub_zero,xbw]
 by_cases hk:k<=xs.length
 ·rw[xcH hk]
 ·rw[xcX (by omega),List.take_length,xbg (by omega)]
def O3 {α:Type}(xs:List α){i j:Int}(h:0<=i)(h':0<=j):gO xs (some i) (some j)=(xs.drop i.toNat).take (j.toNat - i.toNat):=by
 obtain⟨k,rfl⟩:∃k:Nat,i=k:=⟨i.toNat,by omega⟩;obtain⟨l,rfl⟩:∃k:Nat,j=k:=⟨j.toNat,by omega⟩;unfold gO;rw[HT.Kv,HT.Kv,xbw,xbw]
 by_cases hk:k<=xs.length
 ·rw[xcH hk]
  by_cases hl:l<=xs.length
  ·rw[xcH hl]
  ·rw[xcX (by omega),xbg (by rw[xbe];omega),xbg (by rw[xbe];omega)]
 ·rw[show min k xs.length=xs.length from xcX (by omega),xb6,xcS (by omega),List.take_nil,List.take_nil]
end
end E3
namespace L2
open PySem PySem.Spec PyProof.Rows
def RL (K:Fgx):List V->Hp->VK->Prop:=fun xs H Q=>∃a C dx b0 tp cs us b,xs=[.ref a,.ref tp]/\H a=some (xo a C dx b0)/\pX K C=true/\(∀d,dx=some d->∃fs,H d=some (.xd fs))/\H tp=some (.tup cs)/\cs.mapM tQ=some us/\PySem.W.kitAny K (.ref C) us=some b/\Q (.bl b) H
def zdw:lW X (.builtin "isinstance") (RL X.K):=by
  intro pins s σ H vs us Q I r h;obtain⟨a,C,dx,b0,tp,cs,ws2,b,rfl,ea,q,hdx,ht,hc,hk,hq⟩:=h;simp only[pX,xac,xaZ]at q;obtain⟨q1,q2,q3,q4,q5,q6⟩:=q;obtain⟨oe,ws,t,e1,e2,e3,e4,_⟩:=yr I.hok ea;have J:∃od,PySem.W.InstAt s.heap a oe C od:=by
    cases dx with
    |none=>exact⟨none,e1,e2,by unfold PySem.W.notCls;rw[e4],by rw[e3];exact True.intro⟩
    |some d=>
      obtain⟨fs,ed⟩:=hdx d rfl;obtain⟨mA,n,_⟩:=(show gj X.prog X.w H s.heap d (.xd fs) from I.hok d _ ed);obtain⟨od,d1,_⟩:=JQ n;exact⟨some od,e1,e2,by unfold PySem.W.notCls;rw[e4],by rw[e3];exact d1⟩
  obtain⟨od,J⟩:=J;have Z:PySem.W.KitX X.K (.ref a) (.ref C) (fun h=>PySem.W.InstAt h a oe C od):=by
    obtain⟨cd0,hc0,_⟩:=xcw q2;have lk0:∃c' d' cd' sl',X.K.lookup C=some ⟨c',d',.cls cd',sl'⟩:=by
      unfold PySem.W.clsIn at hc0;split at hc0
      · rename_i ho;exact⟨_,_,_,_,ho⟩
      · cases hc0
    obtain⟨c',d',cd',sl',ho⟩:=lk0;refine⟨fun _ _ _ I=>I.type,fun _ _ XX _=>?_,fun h tp dd its n sl XX ht=>xeP.mpr fun z=>?_,fun XX I k=>zbB XX q1 I q2 q3 q4 q5 q6 k⟩
    · intro A' Q' E' s' k z;unfold isType loadHead;exact xaa (xdp (k _ _ (XX _ _ ho)) (xaj z))
    · have z:=xaZ.mp z;cases z;have y:=(XX _ _ ho).symm.trans ht;cases y
  cases r with
  |cons r1 r2=>
    cases r2 with
    |cons r3 r4=>
      cases r4;cases r1;cases r3;obtain⟨_,its,rv,p⟩:=(show gj X.prog X.w H s.heap tp (.tup cs) from I.hok tp _ ht);have:=Va rv hc;subst this;obtain⟨o,h1,h2,n2,h3⟩:=p;obtain⟨oc,odd,oda,osl⟩:=o;dsimp only at h2 h3;subst h2 h3;exact PySem.W.kia_tup Z I.kIn J h1 hk (fun z=>nomatch z) fun tk=>⟨.bl b,H,I.tok tk,rfl,hq⟩
end L2
namespace E3
open PySem PySem.Spec PyProof.Rows L2
section
variable {X:Cx}{Wx:XW}{m:Mode}{pos:Pos}
noncomputable def Di (f g:Str->Option Bool) (c:Str):Option Bool:=match f c,g c with
 |some a,some b=>some (a || b)
 |_,_=>none
def zcC (hN:X.N[i]? =some x)(hv:X.env.scope.names.lookup x=some .local)(ht:yx X (.ref c) tb)(hu:yx X (.ref d) td)(hg:Gl X "isinstance")(hm:X.mg "isinstance"=none)(hg':Gl X cn)(hm':X.mg cn=some (.ref c))(hg2:Gl X dn)(hm2:X.mg dn=some (.ref d))(hd:(x==("__debug__":Str))=false:=by x_go)(hcd:(x==("__classdict__":Str))=false:=by x_go)(hd':(cn==("__debug__":Str))=false:=by x_go)(hd2:(dn==("__debug__":Str))=false:=by x_go)
  (hs:starEach [.Name x p2,.Tuple [.Name cn p',.Name dn p3] kt pt] X.env=(false,eval (.Name x p2) X.env)::starEach [.Tuple [.Name cn p',.Name dn p3] kt pt] X.env:=by rfl):SE X Wx m (.Call (.Name "isinstance" p) [.Name x p2,.Tuple [.Name cn p',.Name dn p3] kt pt] [] pos) (n6 i (Di tb td)):=by
 refine gC (Km zdw hg hm boot_isinstance (q_ (zX hN (.inl hv) hd hcd) (q_ (YL (q_ (sX hg' hm' (v:=.ref c) rfl hd') (q_ (sX hg2 hm2 (v:=.ref d) rfl hd2) wU rfl) rfl)) wU rfl) hs) (by x_go) (by x_go) hs rfl) ?_;rintro st H Q ⟨P0,H0,P,Os,env,M,r,M',k,e,q⟩;unfold n6 at e;split at e
 ·rename_i cc n hs;rw[xae]at e;obtain⟨b,eb,e⟩:=e;cases e;obtain⟨v,ev,a,C,dx,rfl,m1,ea,xn⟩:=k.slot i _ hs;unfold Di at eb;split at eb
  ·rename_i b1 b2 t1 t2;cases eb;obtain⟨C2,m2,x2,k2⟩:=ht cc b1 t1;cases m1.symm.trans m2;obtain⟨C3,m3,x3,k3⟩:=hu cc b2 t2;cases m1.symm.trans m3;have ka:PySem.W.kitAny X.K (.ref C) [.ref c,.ref d]=some (b1 || b2):=by
    unfold PySem.W.kitAny;rw[k2];cases b1
    ·unfold PySem.W.kitAny;simp only[k3];cases b2<;>rfl
    ·rfl
   refine⟨_,sU ev,by show 2<=sizeLine;decide,fun pp hp=>?_⟩;have s:=yg (o:=.tup [.ref c,.ref d]) hp;refine⟨a,C,dx,false,pp,[.ref c,.ref d],[.ref c,.ref d],b1 || b2,rfl,s _ _ ea,x2,fun dd hdd=>?_,gq,rfl,ka,q P _ _ (LtE.same s) (k.hk.same s) (gB.of (k.hk.same s) (show Is _ _ _ (.bl _) _ from rfl))⟩;subst hdd;obtain⟨fs,ed,_⟩:=xn;exact⟨fs,s _ _ ed⟩
  ·cases eb
 ·cases e
end
end E3
namespace L2
open PySem PySem.Spec PyProof.Rows
end L2
namespace E3
open PySem PySem.Spec PyProof.Rows L2
end E3
namespace L2
open PySem PySem.Spec PyProof.Rows
end L2
namespace E3
open PySem PySem.Spec PyProof.Rows L2
section
variable {X:Cx}{Wx:XW}{m:Mode}{pos:Pos}
open Classical in
end
section
variable {f g h:E}{env:Env}{M M1 M2 M3:Mm}{j k:Nat}{kvs kvs':List (Key×D)}{y:Bool}
def ziK (h1:f env M=some (.v (.ref k),M1))(h2:g env M1=some (.v e,M2))(h3:h env M2=some (.v x,M3))(e1:M1[k]? =some (.dct kvs'))(e3:M3[k]? =some (.dct kvs))(h4:toKey e=some key):Ht f g h env M=some (.v ((gM kvs key).getD x),M3):=by
 simp only[Ht,bnd,h1,h2,h3,Ao,e1,O6 e3 h4]
theorem zk3:BJ Bp env M=some (.v (.ref M.length),M ++ [.dct []]):=rfl
end
end E3
namespace E3
open PySem PySem.Spec PyProof.Rows L2
section
variable {X:Cx}{Wx:XW}{pos:Pos}
noncomputable def xU (is:List Nat) (body:S):Nat->List D->Env->Mm->OS
  |_,[],env,M=>some (.nx env,M)
  |n,d::ds,env,M=>match pO is [.int n,d] env with
    | some env1 => (match body env1 M with
      |some (.nx e,M1)=>xU is body (n + 1) ds e M1
      |some (.ct e,M1)=>xU is body (n + 1) ds e M1
      |some (.bk e,M1)=>some (.nx e,M1)
      |some (.rt d,M1)=>some (.rt d,M1)
      |some (.ex c n,M1)=>some (.ex c n,M1)
      |none=>none)
    |none=>none
noncomputable def Hv (is:List Nat) (fs:EA) (body:S):S:=fun env M=>match fs env M with
 |some (.v [.lst ds],M1)=>xU is body 0 ds env M1
 |some (.x c n,M1)=>some (.ex c n,M1)
 |_=>none
def zeb (hp:PassesOwn (model X.prog X.w) X.A X.env X.xe)(hc:X.calm=true)(hG:SG X ts is)(hg:Gl X "enumerate")(hm:X.mg "enumerate"=none)(ha:SA X Wx .val [a] fs)(hb:SB X Wx body b)
    (h2:is.length=2:=by rfl) (hn:(assignEach ts X.env).length=2:=by rfl) (hst:(assignEach ts X.env).findIdx? (·.1)=none:=by rfl) (hs:starEach [a] X.env=[(false,eval a X.env)]:=by rfl)
    (hfs:∀x,foldedSetIterable (.Call (.Name "enumerate" p) [a] [] q) X.env x=pure x:=by intro _;rfl):
    SS X Wx (.For (.Tuple ts n tp) (.Call (.Name "enumerate" p) [a] [] q) body [] pos) (Hv is fs b):=by
  obtain⟨t,hpg,ht⟩:=hG;refine nu (YS hp hc (zdC hg hm ha hs) (zhE (n:=2) hc hpg hn hst) hb hfs) ?_;rintro D st H ⟨P0,H0,P,Os,env,M,out,M',k,e,q⟩;unfold Hv at e;split at e
  · rename_i ds M1 ef;refine⟨P0,H0,P,Os,env,M,_,_,k,ef,fun P1 vs H1 l1 h1 i1=>?_⟩;obtain⟨v,ws,rfl,i1,rfl⟩:=i1;obtain⟨a,us,rfl,ra,is1⟩:=i1;refine⟨a,us,rfl,ra.imp (·.2) id,?_⟩;have k1:=k.next l1 h1
    have q1:=q.lt (l1.lt k.hk);refine⟨fun j m σ H=>m=ds.length - j/\j<=ds.length/\∃P Os' M2 env',Lt P1 H1 P H/\Ok X.K X.mg P0 H0 P Os' H M2 σ env'/\xU is b j (ds.drop j) env' M2=some (out,M'),⟨ds.length,by simp,xbL _,P1,Os,M1,env,Lt.refl _ _,k1,e⟩,?_⟩;rintro j m σ H2 ⟨rfl,hj,P2,Os',M2,env',lt,k',h'⟩;have ra2:=lt.rda ra;have is2:=aH.lt lt is1;have sq:fW X.K H2 a us:=ra2.imp (·.2) id
    by_cases hlt:j<ds.length
    · obtain⟨w,ew,iw⟩:=aH.get is2 (xah hlt);refine .inr ⟨⟨us,w,sq,ew⟩,fun σ' H'=>∃P Os' M2 env',Lt P1 H1 P H'/\Ok X.K X.mg P0 H0 P Os' H' M2 σ' env'/\xU is b (j + 1) (ds.drop (j + 1)) env' M2=some (out,M'),fun σ' H' z=>⟨ds.length - (j + 1),by omega,rfl,hlt,z⟩,fun x H3 y=>?_⟩;obtain⟨pp,v,hpp,rfl,rfl,hv⟩:=y;have hv':=hv us sq;rw[ew]at hv';cases hv';rw[xbh hlt]at h';simp only[xU]at h';have sm:Same H2 (upd H2 pp (.tup [.int j,w])):=yg hpp;have l3:LtE P2 H2 P2 (upd H2 pp (.tup [.int j,w])):=LtE.same sm;have h3:=k'.hk.same sm;have k3:=k'.next l3 h3
      have lt3:=lt.trans (l3.lt k'.hk);split at h'
      · rename_i env1 ee;have isx:aH X.K P2 (upd H2 pp (.tup [.int j,w])) [.int j,ds[j]] [.int j,w]:=⟨V.int j,[w],rfl,rfl,w,[],rfl,Is.lt (l3.lt k'.hk) iw,rfl⟩;refine⟨pp,[.int j,w],rfl,.inl (.inl gq),rfl,ht _ _ _ _ _ _ _ _ _ _ _ _ k3 isx ee fun Os2 st2 k4=>?_⟩;split at h'
        · rename_i e4 M4 eb;exact⟨P0,H0,P2,_,_,M2,_,_,k4,eb,fun P' Os2 H2 st2 l2 k5=>⟨P',Os2,_,e4,lt3.trans l2,k5,h'⟩⟩
        · rename_i e4 M4 eb;exact⟨P0,H0,P2,_,_,M2,_,_,k4,eb,fun P' Os2 H2 st2 l2 k5=>⟨P',Os2,_,e4,lt3.trans l2,k5,h'⟩⟩
        · rename_i e4 M4 eb;cases h';exact⟨P0,H0,P2,_,_,M2,_,_,k4,eb,fun P' Os2 H2 st2 l2 k5=>q1 P' Os2 H2 st2 (lt3.trans l2) k5⟩
        · rename_i d4 M4 eb;cases h';exact⟨P0,H0,P2,_,_,M2,_,_,k4,eb,q1⟩
        · rename_i c4 n4 M4 eb;cases h';exact⟨P0,H0,P2,_,_,M2,_,_,k4,eb,q1⟩
        · cases h'
      · cases h'
    · have ej:j=ds.length:=by omega
      subst ej;rw[xb6]at h';cases h';exact .inl ⟨⟨us,sq,is2.len⟩,q1 P2 Os' H2 σ lt k'⟩
  · rename_i c n M1 ef;cases e;exact⟨P0,H0,P,Os,env,M,_,_,k,ef,q⟩
  · cases e
def zcp (hi:SE X Wx .val i f)(hg:Gl X nm)(hm:X.mg nm=some (.ref a))(t:KTab X.K X.w a tb)(hdb:(nm==("__debug__":Str))=false:=by x_go)(hb:behindInMarks .NotIn (.Name nm p)=false:=by rfl):ST X Wx (.Compare i [.NotIn] [.Name nm p] pos) (tu false tb f):=
 Bq (Ri (zcI hi hg hm t hdb) hb) fun _ _ _ w=>W_ (b:=false) (Ij w)
end
theorem Qg {K:Fgx}{P:Pl}{H:Hp}:∀l:List Str,aH K P H (l.map .str) (l.map V.str)
 | []=>rfl
 |b::bs=>⟨V.str b,bs.map V.str,rfl,rfl,Qg bs⟩
noncomputable def yq (z:Str):List D->Option D
 | [.str y]=>if (y.length==0)=false/\z.length + 2<=sizeLine then some (.lst ((Txt.split z y).map .str)) else none
 |_=>none
def Rk {K:Fgx}:Eh K Y_ yq:=fun P H y ds z vs Q h i nb q=>by
 unfold yq at h;split at h
 ·split at h
  ·rename_i hl;cases h;obtain⟨v,ws,rfl,p,rfl⟩:=i;cases p;exact⟨_,_,rfl,rfl,hl.1,hl.2,fun l hl'=>q _ _ (yg hl') ⟨l,_,rfl,.inl ⟨nb l hl',.inl gq⟩,Qg _⟩⟩
  ·cases h
 ·cases h
theorem Ml:yq z [.str y]=if (y.length==0)=false/\z.length + 2<=sizeLine then some (.lst ((Txt.split z y).map .str)) else none:=rfl
noncomputable def zg7 (K:Fgx):Sp:=fun vs H Q _=>∃a C n,vs=[.ref a,.int n]/\n.natAbs<1000000000000000000/\H a=some (xo a C none true)/\aU K C=true/\sE K C "at"=true/\
 ∀dx,H dx=none->dx≠a->Q .non (upd (upd H dx (.xd [("at",.int n)])) a (xo a C (some dx) true))
noncomputable def yM (sc:Scope) (dn:Str) (ap cp:Pos) (z y:Str):Bool:=(ap.endLine==cp.line) && (decide (sc.names.lookup dn=some .globalImplicit) && !(dn==("__debug__":Str))) && decide (sc.names.lookup ("self":Str)=some .local) && decide (sc.names.lookup ("at":Str)=some .local) && decide (z.length<=100) && decide (y.length<=100)
def Bg (sc:Scope)(dn:Str)(b:List Stmt):Prop:=∃p1 ap p3 p4 cp p5 p6 p7 p8 p9 q1 q2 q3 q4 z y vs,b=[.Expr (.Call (.Attribute (.Name dn p1) "__init__" ap) [.Name "self" p3,.JoinedStr vs p4] [] cp) p5,.Assign [.Attribute (.Name "self" p6) "at" p7] (.Name "at" p8) p9]/\yM sc dn ap cp z y=true/\
 (vs=[.Constant (.str z) q1 q2,.FormattedValue (.Name "at" q3) (-1) none q4]\/∃q5 q6,vs=[.Constant (.str z) q1 q2,.FormattedValue (.Name "at" q3) (-1) none q4,.Constant (.str y) q5 q6])
def Gw {sc:Scope}{dn z:Str}{p1 ap p3 p4 cp p5 p6 p7 p8 p9 q2 q3 q4:Pos}{q1:_}(h:yM sc dn ap cp z Str.empty=true):Bg sc dn [.Expr (.Call (.Attribute (.Name dn p1) "__init__" ap) [.Name "self" p3,.JoinedStr [.Constant (.str z) q1 q2,.FormattedValue (.Name "at" q3) (-1) none q4] p4] [] cp) p5,.Assign [.Attribute (.Name "self" p6) "at" p7] (.Name "at" p8) p9]:=
 ⟨p1,ap,p3,p4,cp,p5,p6,p7,p8,p9,q1,q2,q3,q4,z,_,_,rfl,h,.inl rfl⟩
def Gx {sc:Scope}{dn z y:Str}{p1 ap p3 p4 cp p5 p6 p7 p8 p9 q2 q3 q4 q6:Pos}{q1 q5:_}(h:yM sc dn ap cp z y=true):Bg sc dn [.Expr (.Call (.Attribute (.Name dn p1) "__init__" ap) [.Name "self" p3,.JoinedStr [.Constant (.str z) q1 q2,.FormattedValue (.Name "at" q3) (-1) none q4,.Constant (.str y) q5 q6] p4] [] cp) p5,.Assign [.Attribute (.Name "self" p6) "at" p7] (.Name "at" p8) p9]:=
 ⟨p1,ap,p3,p4,cp,p5,p6,p7,p8,p9,q1,q2,q3,q4,z,_,_,rfl,h,.inr ⟨_,_,rfl⟩⟩
def FunD.ok {P:Program}{w:World}{K:Fgx}{mg:Mgx}{base:Heap}{x qual:Str}{st:Stmt}{f:Addr}{fd:FuncData}{N ps:List Str}{k:Nat}{sp:Sp}(F:FunD K x qual st f fd)(S:FnScope N ps (aY st))(len:∀vs H Q E,sp vs H Q E->vs.length=ps.length)
  (hbody:∀(cdv:Value) (A:Around) (outer:List PySem.Env) (s:Shared) (H:Hp) (vs:List V) (Q:VK) (E:XK),Room k (A.deeper (envOfC qual (aY st) s.heap.objs.size f cdv))->sp vs H Q E->
   ∃t,lK (kY nF P w K mg base N qual (aY st) f cdv A outer s H E).nox (j_ st) t/\t {nx:=fun _ H'=>Q .non H',rt:=Q} (start N vs) H):FnOk P w K mg base nF (k + 1) f fd ps sp:=by
 obtain⟨oc,od,dV,kV,doc,pm,an,cdv,ct,osl,rfl,lk,hcd⟩:=F.ex;refine Ph lk hcd S len fun A outer s H vs Q E hr hsp=>?_;obtain⟨t,h,q⟩:=hbody cdv A outer s H vs Q E hr hsp;exact⟨t,h.nox,q⟩
theorem WK (hb:attributeBase o name env (eval o env)=eval o env)(hline:(ap.endLine==pos.line)=true)
  (hform:methodCallForm ([e1,e2].length + ([]:List Keyword).length) (backTo pos (starEach [e1,e2] env)) (backToKw pos (keywordEach [] env))=true):
  eval (.Call (.Attribute o name ap) [e1, e2] [] pos) env = (do
   let ov <-eval o env
   standAt ap.atName
   let (f,first) <-holding [ov] (getMethod ov name (do return (<-importBound o env).getD true))
   callWith pos f first (backTo pos (starEach [e1,e2] env)) (backToKw pos (keywordEach [] env))):=by
 have hpos:methodCallPos true o env ap pos=pure pos:=by unfold methodCallPos;simp[hline]
 rw[arm_eval_Call,hb];unfold methodCall;rw[hform,hpos];rfl
theorem Ep (a b:Str):(a ++ b).length=a.length + b.length:=by
 show(a.cps ++ b.cps).size=_;rw[Array.size_append];rfl
def zfs (hn:n.natAbs<1000000000000000000):textV (.int n)=some (b_ n)/\(b_ n).length<=19:=by
 refine⟨?_,Sy (k:=18) (by decide) (by simpa using hn)⟩;show(if n.natAbs.log2<1920 then some (b_ n) else none)=_
 rw[tG (zgc (xao hn (by x_go)))]
def WD {P:Program}{w:World}{K:Fgx}{mg:Mgx}{base:Heap}{k:Nat}{x qual dn:Str}{st:Stmt}{f Dm:Addr}{fd:FuncData}(F:FunD K x qual st f fd)(S:FnScope ["self","at"] ["self","at"] (aY st))(hm:mg dn=some (.ref Dm))(q:Ck K Dm=true)
  (hc:Bg (aY st) dn (j_ st)):FnOk P w K mg base nF (k + 1) f fd ["self","at"] (zg7 K):=by
 refine F.ok S (fun vs H Q E h=>by obtain⟨a,C,n,rfl,_⟩:=h;rfl) (fun cdv A outer s H vs Q E hr h=>?_);obtain⟨a,C,n,rfl,hn,ea,q1,q2,kk⟩:=h;obtain⟨ht,hlen⟩:=zfs hn;obtain⟨p1,ap,p3,p4,cp,p5,p6,p7,p8,p9,q1',q2',q3',q4',z,y,us,eb,hcc,hv⟩:=hc
 ·simp only[yM,xac,xaB,xcp]at hcc;obtain⟨⟨⟨⟨⟨g0,g1,g2⟩,g3⟩,g4⟩,z1⟩,z2⟩:=hcc;rw[eb];generalize hX:(kY nF P w K mg base ["self","at"] qual (aY st) f cdv A outer s H E).nox=X;have e1:X.N=[("self":Str),("at":Str)]:=by rw[<-hX];rfl
  have e2:X.env.scope=aY st:=by rw[<-hX];rfl
  have e3:X.mg=mg:=by rw[<-hX];rfl
  have e4:X.K=K:=by rw[<-hX];rfl
  have pv0:∀p,PE X (.Name "self" p) (Ce 0):=fun p=>zX (by rw[e1];rfl) (by rw[e2];exact .inl g3) (by x_go) (by x_go);have pv1:∀p,PE X (.Name "at" p) (Ce 1):=fun p=>zX (by rw[e1];rfl) (by rw[e2];exact .inl g4) (by x_go) (by x_go);have gl:Gl X dn:=by show X.env.scope.names.lookup _=_;rw[e2];exact g1
  rcases hv with rfl |⟨q5,q6,rfl⟩
  ·refine⟨_,Hg (Dj (YF (by rw[e4];exact q) gl (by rw[e3];exact hm) (pv0 _) (Ra (Ko (Rg (pv1 _) Rb) (by rw[xav];omega))) g2 rfl rfl (WK rfl g0 rfl))) (Hg (YZ (pv0 _) (pv1 _) rfl) Rh),?_⟩;have l1:(Str.empty ++ z).length<=100:=by rw[Ep];show 0 + _<=_;omega
   have l2:(Str.empty ++ z ++ b_ n).length<=119:=by rw[Ep];omega
   refine⟨.ref a,rfl,by rw[xav];omega,.int n,rfl,b_ n,ht,by rw[xav];omega,by rw[xav];omega,a,C,rfl,ea,by rw[e4];exact q1,?_⟩;exact⟨.int n,rfl,.ref a,rfl,a,C,true,rfl,ea,by rw[e4];exact q1,by rw[e4];exact q2,fun dx hd nd=>kk dx hd nd⟩
  ·refine⟨_,Hg (Dj (YF (by rw[e4];exact q) gl (by rw[e3];exact hm) (pv0 _) (Ra (Ko (Rg (pv1 _) (Ko Rb (by rw[xav];omega))) (by rw[xav];omega))) g2 rfl rfl (WK rfl g0 rfl))) (Hg (YZ (pv0 _) (pv1 _) rfl) Rh),?_⟩;have l1:(Str.empty ++ z).length<=100:=by rw[Ep];show 0 + _<=_;omega
   have l2:(Str.empty ++ z ++ b_ n).length<=119:=by rw[Ep];omega
   have l3:(Str.empty ++ z ++ b_ n ++ y).length<=219:=by rw[Ep];omega
   refine⟨.ref a,rfl,by rw[xav];omega,.int n,rfl,b_ n,ht,by rw[xav];omega,by rw[xav];omega,by rw[xav];omega,a,C,rfl,ea,by rw[e4];exact q1,?_⟩;exact⟨.int n,rfl,.ref a,rfl,a,C,true,rfl,ea,by rw[e4];exact q1,by rw[e4];exact q2,fun dx hd nd=>kk dx hd nd⟩
section
variable {X:Cx}{Wx:XW}{pos:Pos}
noncomputable def Hw (c:Str) (f:E):S:=fun env M=>fP (f env M) fun d M1=>match d with
 |.int n=>if n.natAbs<1000000000000000000/\0<=n then some (.ex c (n + 1),M1) else none   -- the number and one more:nought tells that there is none
 |_=>none
def zbb (F:XFit X Wx)(hc:X.calm=true)(m:X.mg c=some (.ref C))(q1:aU X.K C=true)(q2:Cq X.K C fI=true)(q3:sE X.K C "at"=true)(kp:PySem.W.keepIn X.K (.ref C)=true)
  (FO:FnOk X.prog X.w X.K X.mg X.base nF k fI fd ["self","at"] (zg7 X.K)) (hr:Room (k + 1) X.A) (hb:Binds X.K fd ["self","at"] []) (hg:Gl X c) (he:SE X Wx .val e f) (hdb:(c==("__debug__":Str))=false:=by x_go)
  (hs:starEach [e] X.env=[(false,eval e X.env)]:=by rfl):SS X Wx (.Raise (some (.Call (.Name c p) [e] [] q)) none pos) (Hw c f):=by
 refine nu (YT (W:=fun a C' dx H=>C'=C/\∃n P0 H0 P M,XN H n dx/\¬ P.bd a/\H0 a=none/\LtE P0 H0 P H/\Hk X.K X.mg P H M/\Wx P0 H0 M c n) (zg2 q1 q2 kp FO hr hg m hb (by decide) he hdb hs) hc fun pins σ H s a C' dx I ea ⟨e2,n,P0,H0,P,M,xn,b,nn,l,h,w⟩=>?_) ?_
 ·subst e2;exact F.xr pins σ H s a _ dx c n P0 H0 P M I ea b nn l h m xn w
 ·rintro D st H ⟨P0,H0,P,Os,env,M,out,M',k,e,q⟩;unfold Hw at e;rcases mZ e with⟨d,M1,e1,e⟩ |⟨c,n,e1,rfl⟩
  ·split at e
   ·rename_i n;split at e
    ·rename_i hn;cases e;refine⟨P0,H0,P,Os,env,M,_,_,k,e1,fun P1 v H1 l1 h1 i1=>fun a ha=>?_⟩;have ev:v=.int n:=i1;subst ev;refine⟨a,C,n,rfl,hn.1,gq,q1,q3,fun dx hd nd=>⟨rfl,a,C,some dx,rfl,gq,q1,rfl,n + 1,P0,H0,P1,_,⟨[("at",.int n)],by rw[aZ nd,gq],by rw[xeF];rfl,by omega⟩,h1.new a ha,?_,?_,?_,q⟩⟩
     ·exact k.base.sure a (l1.sure a ha)
     ·have sm:Same H1 (upd (upd (upd H1 a (xo a C none true)) dx (.xd [("at",.int n)])) a (xo a C (some dx) true)):=fun b o eb=>by
       have n1:b≠a:=kh eb ha;rw[aZ nd]at hd;rw[aZ n1,aZ (kh eb hd),aZ n1];exact eb
      exact k.base.trans (l1.trans (LtE.same sm))
     ·have sm:Same H1 (upd (upd (upd H1 a (xo a C none true)) dx (.xd [("at",.int n)])) a (xo a C (some dx) true)):=fun b o eb=>by
       have n1:b≠a:=kh eb ha;rw[aZ nd]at hd;rw[aZ n1,aZ (kh eb hd),aZ n1];exact eb
      exact h1.same sm
    ·cases e
   ·cases e
  ·exact⟨P0,H0,P,Os,env,M,_,_,k,e1,q⟩
noncomputable def wW (own:Str->Bool) (i:Nat):E:=fun env M=>match env[i]? with
 |some (.exc c n)=>if own c=true/\n≠0 then some (.v (.int (n - 1)),M) else none
 |_=>none
def zdY (hN:X.N[i]? =some x)(hv:Ah X.env.scope x)(hx:∀c C,own c=true->X.mg c=some (.ref C)->sE X.K C "at"=true)(hd:(x==("__debug__":Str))=false:=by x_go)(hcd:(x==("__classdict__":Str))=false:=by x_go)
    (hb:attributeBase (.Name x p) "at" X.env (eval (.Name x p) X.env)=eval (.Name x p) X.env:=by rfl):SE X Wx m (.Attribute (.Name x p) "at" pos) (wW own i):=by
  refine gC (zh3 (zX hN hv hd hcd) hb) ?_;rintro st H Q ⟨P0,H0,P,Os,env,M,r,M',k,e,q⟩;unfold wW at e;split at e
  · rename_i c n es;split at e
    · rename_i hn;cases e;obtain⟨v,sv,a,C,dx,rfl,mc,ea,qd⟩:=k.slot i _ es
      cases dx with
      |none=>exact absurd qd hn.2
      |some d=>
        obtain⟨fs,ed,el,_⟩:=qd;exact⟨_,sU sv,a,C,d,false,fs,.int (n - 1),rfl,ea,hx c C hn.1 mc,ed,el,q P _ H (LtE.same (Same.refl H)) k.hk (gB.of k.hk (show Is _ _ _ (.int _) _ from rfl))⟩
    · cases e
  · cases e
end
def zdN {K:Fgx}{C:Addr}{name:Str}(h1:PySem.W.findIn K (.ref C) "__setattr__"=some (some (.builtin "object.__setattr__")))(h2:PySem.W.takerIn K C name=some none)(h3:zG K C=true)(h4:PySem.W.hasDictIn K C=true)(h5:PySem.W.findIn K (.ref C) name=some none):sE K C name=true:=by
 simp only[sE,h1,h2,h3,h4,h5,xbr,xbY]
def zfX {K:Fgx}{C:Addr}(h1:PySem.W.specialIn K (.ref C) "__getattribute__"=some (some (.builtin "type.__getattribute__")))(h2:PySem.W.readsIn K C (.type "type")=true)(h3:PySem.W.findCls K (.ref C) (.type "type") "__init__"=some (.val (.builtin "ValueError.__init__"))):Ck K C=true:=by
 simp only[Ck,h1,h2,h3,xbr,xbY]
section
variable {X:Cx}{Wx:XW}{m:Mode}{pos:Pos}{K:Fgx}
noncomputable def Ke:D->D->Option D
 |.tup xs,.tup ys=>if xs.isEmpty=false/\xs.length + ys.length<=sizeLine then some (.tup (xs ++ ys)) else none
 |_,_=>none
def zfB:sH K (Y8 K) Ke:=fun P H d e z v w Q h h1 h2 hn q=>by
 unfold Ke at h;split at h
 ·rename_i xs ys;split at h
  ·rename_i hl;cases h;obtain⟨a,vs,rfl,r1,s1⟩:=h1;obtain⟨b,ws,rfl,r2,s2⟩:=h2;have n1:vs≠ []:=fun z=>by
    have:=s1.len;rw[z]at this;have h0:=hl.1
    cases xs with
    |nil=>cases h0
    |cons _ _=>cases this
   refine⟨a,b,vs,ws,rfl,rfl,r1,r2,n1,by rw[s1.len,s2.len];exact hl.2,fun z=>?_,fun _=>QC (s1.append s2) q⟩;have e2:=s2.len;rw[z]at e2;have:ys=[]:=xcf.mp e2.symm;subst this;rw[xaH]at q;exact q _ H (Same.refl H) ⟨a,vs,rfl,r1,s1⟩
  ·cases h
 ·cases h
noncomputable def Du (d:D) (lo hi:Option Int):Option D:=match d with
 |.tup ds=>if HT.fj ds.length 0 lo=0/\HT.fj ds.length ds.length hi=ds.length then none else some (.tup (gO ds lo hi))
 |_=>none
noncomputable def zc (f:E) (l h:Env->Mm->Option (Option Int×Mm)):E:=fun env M=>bnd (f env M) fun d M1=>match l env M1 with
  | some (lo, M2) => (match h env M2 with
    |some (hi,M3)=>(Du d lo hi).map fun z=>(.v z,M3)
    |none=>none)
  |none=>none
def zhe {e:Expr}{lo hi:Option Expr}{p2:Pos}{f:E}{l h:Env->Mm->Option (Option Int×Mm)}(he:SE X Wx .val e f)(hl:Cw X lo l)(hh:Cw X hi h):SE X Wx m (.Subscript e (.Slice lo hi none p2) pos) (zc f l h):=by
 refine gC (YK zib he hl hh) ?_;rintro st H Q ⟨P0,H0,P,Os,env,M,r,M',k,e,q⟩;unfold zc at e;rcases gD e with⟨d,M1,e1,e⟩ |⟨c,n,e1,rfl⟩
 ·split at e
  ·rename_i lo' M2 el;split at e
   ·rename_i hi' M3 eh;rw[xae]at e;obtain⟨z,ez,e⟩:=e;cases e;refine⟨P0,H0,P,Os,env,M,_,_,k,e1,fun P1 v1 H1 l1 h1 i1=>⟨P0,H0,P1,Os,env,M1,_,_,k.next l1 h1,el,fun P2 H2 l2 h2=>⟨P0,H0,P2,Os,env,M2,_,_,(k.next l1 h1).next l2 h2,eh,fun P3 H3 l3 h3=>?_⟩⟩⟩
    have i3:=Is.lt (l3.lt h2) (Is.lt (l2.lt h1) i1);have fin:∀u H',Same H3 H'->Is X.K P3 H' z u->Q u H':=fun u H' s i=>q P3 u H' (l1.trans (l2.trans (l3.trans (LtE.same s)))) (h3.same s) (gB.of (h3.same s) i);unfold Du at ez;split at ez
    ·split at ez
     ·cases ez
     ·rename_i hw;cases ez;obtain⟨a,vs,rfl,r,s⟩:=i3;exact⟨a,vs,rfl,r,by rw[s.len];exact hw,QC (VD s) fin⟩
    ·cases ez
   ·cases e
  ·cases e
 ·exact⟨P0,H0,P,Os,env,M,_,_,k,e1,q⟩
end
section
variable {env:Env}{M:Mm}{f g:E}{d:D}{i:Int}{ds es:List D}{fa:EA}{x:Str}{k:Nat}
theorem zgG:Ke (.tup ds) (.tup es)=if ds.isEmpty=false/\ds.length + es.length<=sizeLine then some (.tup (ds ++ es)) else none:=rfl
noncomputable def BZ (d:D) (lo:Option Int):Option (Option Int×Mm)->O
 |some (hi,M3)=>mapR M3 (Du d lo hi)
 |none=>none
noncomputable def HX (d:D) (k:Mm->Option (Option Int×Mm)):Option (Option Int×Mm)->O
 |some (lo,M2)=>BZ d lo (k M2)
 |none=>none
theorem zjR {l u:Env->Mm->Option (Option Int×Mm)}:zc f l u env M=lE (fun d M1=>HX d (u env) (l env M1)) (f env M):=rfl
theorem ziN {lo:Option Int}{q:Mm->Option (Option Int×Mm)}:HX d q (some (lo,M))=BZ d lo (q M):=rfl
theorem zhO {lo hi:Option Int}:BZ d lo (some (hi,M))=mapR M (Du d lo hi):=rfl
noncomputable def Zf (x:Str) (M:Mm):D->OS
 |.int n=>if n.natAbs<1000000000000000000/\0<=n then some (.ex x (n + 1),M) else none
 |_=>none
theorem zcY:Hw x f env M=h_ (fun d M1=>Zf x M1 d) (f env M):=rfl
def Ze {n:Nat}(h:n<1000000):Zf x M (.int n)=some (.ex x ((n:Int) + 1),M):=tG ⟨by omega,by omega⟩
noncomputable def Et (own:Str->Bool) (M:Mm):Option Slot->O
 |some (.exc c n)=>if own c=true/\n≠0 then some (.v (.int (n - 1)),M) else none
 |_=>none
theorem zjO {own:Str->Bool}:wW own k env M=Et own M env[k]? :=rfl
def Zc {own:Str->Bool}{n:Nat}(h:own x=true):Et own M (some (.exc x ((n:Int) + 1)))=some (.v (.int n),M):=by
 show(if own x=true/\((n:Int) + 1)≠0 then some (Res.v (.int (((n:Int) + 1) - 1)),M) else none)=_
 rw[tG ⟨h,by omega⟩,xeF]
theorem zlE:tR [.lst ds]=(xK ds).map fun bs=>.bl (bs.all id):=rfl
theorem zga:lD [.tup ds]=some (.tup ds):=rfl
end
end E3
namespace L2
open PySem PySem.Spec PyProof.Rows
end L2
namespace E3
open PySem PySem.Spec PyProof.Rows L2
section
variable {K:Fgx}{mg:Mgx}{P0 P:Pl}{H0 H:Hp}{Os:List (Option Addr)}{M:Mm}{st:L2.St}{env:Env}{i:Nat}
def Ok.cel {ds:List D}(k:Ok K mg P0 H0 P Os H M st env)(hi:env[i]? =some (.own ds)):∃P' Os',Lt P H P' H/\Ok K mg P0 H0 P' Os' H (M ++ [.lst ds]) st (env.set i (.val (.ref M.length))):=by
 obtain⟨a,vs,e1,e2,e3,q⟩:=k.slot i _ hi;have ho:=sU e1;obtain⟨b1,b2,b3⟩:=k.own a (xaW ho);have ilt:i<env.length:=(xag.mp hi).1;have nO:∀b,some b∈Os.set i none->some b∈Os/\b≠a:=fun b z=>by
  obtain⟨j,hj⟩:=xc1.mp z;rw[xaX]at hj;split at hj
  ·split at hj<;>cases hj
  ·rename_i ij;exact⟨xaW hj,fun z=>by subst z;exact ij (k.inj i j b ho hj)⟩
 let P2:Pl:={io:=fun j=>if j=P.n then a else P.io j,n:=P.n + 1,bd:=P.bd}
 have io : ∀ j, j < P.n -> P2.io j = P.io j := fun j hj => xab (by omega);have ioN : P2.io P.n = a := tG rfl;have l : Lt P H P2 H := ⟨xcC _, io, fun c z => .inl z, fun _ _ e _ => e, fun _ z => z⟩;have el : P.n = M.length := k.hk.n;refine ⟨P2,Os.set i none,l,{
  hk:=⟨by rw[xam, <-el];rfl,fun j d ej=>?_,fun x y hx hy e=>?_,fun j hj=>?_,fun c z=>k.hk.here c z⟩
  base:=⟨xcr k.base.n,fun j hj=>(io j (xao hj k.base.n)).trans (k.base.io j hj),k.base.bd,k.base.bm,k.base.keep,k.base.sure,fun j h1 h2=>?_⟩
  b0:=k.b0
  slot:=fun j s ej=>?_
  own:=fun c z=>?_
  inj:=fun j l b z1 z2=>?_
  olen:=by rw[xaL,xaL,k.olen]
  slen:=by rw[xaL,k.slen]}⟩
 ·rcases xaS j P.n with z |z
  ·rw[xa0 (by rw[<-el];exact z)]at ej;rw[io j z];exact(k.hk.cell j d ej).lt l fun _ z=>z
  ·have jl:=(xag.mp ej).1;rw[xam,xaE, <-el]at jl;have:j=P.n:=by omega
   subst this;rw[xa4 (by rw[el];exact xad _),el,xbN]at ej;cases ej;rw[ioN];exact⟨vs,e3,aH.lt l q⟩
 ·rcases xaS x P.n with z |z<;>rcases xaS y P.n with z' |z'
  ·rw[io x z,io y z']at e;exact k.hk.inj x y z z' e
  ·have:y=P.n:=xaM (xaI hy) z';rw[io x z,this,ioN]at e;exact absurd e (b2 x z)
  ·have:x=P.n:=xaM (xaI hx) z;rw[io y z',this,ioN]at e;exact absurd e.symm (b2 y z')
  ·have h1:x=P.n:=xaM (xaI hx) z;have h2:y=P.n:=xaM (xaI hy) z';rw[h1,h2]
 ·rcases xaS j P.n with z |z
  ·rw[io j z];exact k.hk.bd j z
  ·have:j=P.n:=xaM (xaI hj) z;rw[this,ioN];exact b1
 ·rcases xaS j P.n with z |z
  ·rw[io j z];exact k.base.nw j h1 z
  ·have:j=P.n:=xaM (xaI h2) z;rw[this,ioN];exact b3
 ·rw[z9 _ _ _ _ (by rw[k.olen];exact ilt)];rw[xaX]at ej;split at ej
  ·rename_i ij;subst ij;cases ej;exact⟨.ref a,e2,by show M.length<P.n + 1;omega,by rw[<-el,ioN]⟩
  ·rename_i ij;rw[xab ij];have q:=k.slot j s ej
   cases s with
   |un=>exact True.intro
   |val d=>obtain⟨v,e1,q⟩:=q;exact⟨v,e1,Is.lt l q⟩
   |own es=>obtain⟨a',ws,e1,e2,e3,q⟩:=q;exact⟨a',ws,e1,e2,e3,aH.lt l q⟩
   |exc c n=>obtain⟨v,e1,q⟩:=q;exact⟨v,e1,q.lt l⟩
 ·obtain⟨z1,z2⟩:=nO c z;obtain⟨c1,c2,c3⟩:=k.own c z1;refine⟨c1,fun j hj=>?_,c3⟩;rcases xaS j P.n with z |z
  ·rw[io j z];exact c2 j z
  ·have:j=P.n:=xaM (xaI hj) z;rw[this,ioN];exact fun q=>z2 q.symm
 ·rw[xaX]at z1 z2;split at z1
  ·split at z1<;>cases z1
  ·split at z2
   ·split at z2<;>cases z2
   ·exact k.inj _ _ _ z1 z2
end
section
variable {X:Cx}{Wx:XW}
noncomputable def wX (i:Nat):S:=fun env M=>match env[i]? with
 |some (.own ds)=>some (.nx (env.set i (.val (.ref M.length))),M ++ [.lst ds])
 |_=>none
def ZL {ss:List Stmt}{i:Nat}{g:S}(h:SB X Wx ss g):SB X Wx ss (ao (wX i) g):=by
 refine Kq h ?_;rintro D st H ⟨P0,H0,P,Os,env,M,out,M',k,e,q⟩;unfold ao wX at e;split at e
 ·rename_i e1 M1 ef;split at ef
  ·rename_i ds es;cases ef;obtain⟨P1,Os1,l1,k1⟩:=k.cel es;exact⟨P0,H0,P1,Os1,_,_,_,_,k1,e,q.lt l1⟩
  ·cases ef
 ·rename_i ho;split at e
  ·rename_i es;exact(ho _ _ (by rw[es])).elim
  ·cases e
end
end E3
namespace E3
noncomputable def E_ (k:Nat) (env:Env) (M:Mm):Option Slot->OS
 |some (.own ds)=>some (.nx (env.set k (.val (.ref M.length))),M ++ [.lst ds])
 |_=>none
theorem zk0 {k:Nat}{env:Env}{M:Mm}:wX k env M=E_ k env M env[k]? :=rfl
theorem zj0 {k:Nat}{env:Env}{M:Mm}{ds:List D}:E_ k env M (some (.own ds))=some (.nx (env.set k (.val (.ref M.length))),M ++ [.lst ds]):=rfl
end E3
namespace E3
open PySem PySem.Spec PyProof.Rows L2
mutual
def D.nr:D->Bool
 |.tup xs=>D.nrs xs
 |.lst xs=>D.nrs xs
 |.ref _=>false
 |_=>true
def D.nrs:List D->Bool
 | []=>true
 |a::as=>D.nr a && D.nrs as
end
noncomputable def Pf:Pl:=⟨fun _=>0,0,fun _=>False⟩
section
variable {K:Fgx}{mg:Mgx}{P P':Pl}{H H':Hp}{M:Mm}
mutual
theorem Is.fre:∀{d:D} {v:V},D.nr d=true->Is K P H d v->Is K Pf H d v
 |.non,_,_,h=>h
 |.bl _,_,_,h=>h
 |.int _,_,_,h=>h
 |.str _,_,_,h=>h
 |.tup _,_,n,h=>by obtain⟨a,vs,e,s,q⟩:=h;exact⟨a,vs,e,s,aH.fre n q⟩
 |.lst _,_,n,h=>by obtain⟨a,vs,e,s,q⟩:=h;exact⟨a,vs,e,s.imp (fun z=>⟨fun z=>z,z.2⟩) id,aH.fre n q⟩
 |.ref _,_,n,_=>by cases n
theorem aH.fre:∀{ds:List D} {vs:List V},D.nrs ds=true->aH K P H ds vs->aH K Pf H ds vs
  | [],_,_,h=>h
  |_::_,_,n,h=>by
    obtain⟨v,r,e,p,q⟩:=h;have n:=xel.mp n;exact⟨v,r,e,Is.fre n.1 p,aH.fre n.2 q⟩
end
mutual
theorem Is.lf_any:∀{d:D} {v:V},D.lf d=true->Is K P H d v->Is K P' H d v
 |.non,_,_,h=>h
 |.bl _,_,_,h=>h
 |.int _,_,_,h=>h
 |.str _,_,_,h=>h
 |.tup _,_,n,h=>by obtain⟨a,vs,e,s,q⟩:=h;exact⟨a,vs,e,s,aH.lf_any n q⟩
 |.lst _,_,n,_=>by cases n
 |.ref _,_,n,_=>by cases n
theorem aH.lf_any:∀{ds:List D} {vs:List V},D.lfs ds=true->aH K P H ds vs->aH K P' H ds vs
  | [],_,_,h=>h
  |_::_,_,n,h=>by
    obtain⟨v,r,e,p,q⟩:=h;have n:=xel.mp n;exact⟨v,r,e,Is.lf_any n.1 p,aH.lf_any n.2 q⟩
end
end
section
variable {X:Cx}{Wx:XW}{m:Mode}{pos:Pos}
def f9 (hr:Room k X.A)(h:X.A.units + 60<cLine->SB X Wx ss b):SB X Wx ss b:=h (xcJ (xcF (by decide) _) hr.units)
def gU {e:Expr}{es:List Expr}{x:Str}{id:String}{r:List V->Hp->VK->Prop}{o:List D->Option D}{fs:EA}{p:Pos}(hc:lW X (.builtin id) r)(hg:Gl X x)(hm:X.mg x=none)(hv:bootBuiltins x=some (.builtin id))(po:xJ X.K r o)(ha:SA X Wx .bor (e::es) fs)
  (hn:x≠"__name__":=by x_go) (hdb:(x==("__debug__":Str))=false:=by x_go) (he:starEach (e::es) X.env=(false,eval e X.env)::starEach es X.env:=by rfl) (hpl:(backTo pos (starEach es X.env)).any (·.1)=false:=by rfl):SE X Wx m (.Call (.Name x p) (e::es) [] pos) (sN o fs):=
 zig (fun _ ha=>Km hc hg hm hv ha hn hdb he hpl) po ha
def lX (hc:lW X (.type T) r)(hg:Gl X x)(hm:X.mg x=none)(hv:bootBuiltins x=some (.type T))(po:xJ X.K r o)(ha:SA X Wx .bor (e::es) fs)
  (hn:x≠"__name__":=by x_go) (hdb:(x==("__debug__":Str))=false:=by x_go) (he:starEach (e::es) X.env=(false,eval e X.env)::starEach es X.env:=by rfl) (hpl:(backTo pos (starEach es X.env)).any (·.1)=false:=by rfl):SE X Wx m (.Call (.Name x p) (e::es) [] pos) (sN o fs):=
 zig (fun _ ha=>YH hc hg hm hv ha hn hdb he hpl) po ha
end
section
variable (P:Program)(w:World)(K:Fgx)(mg:Mgx)(base:Heap)(k:Nat)(f:Addr)(N:List Str)(q:Str)(st:Stmt)(b:S)
abbrev RT:Prop:=∀(cdv:Value) (A:Around) (outer:List PySem.Env) (s:Shared) (H:Hp) (E:XK),Room k (A.deeper (envOfC q (aY st) s.heap.objs.size f cdv))->SB (Fl P w K mg base N q st f cdv A outer s H E) W0 (j_ st) b
abbrev Cu:Prop:=∀(cdv:Value) (A:Around) (outer:List PySem.Env) (s:Shared) (H:Hp) (E:XK) (Wx:XW),Room k (A.deeper (envOfC q (aY st) s.heap.objs.size f cdv))->XFit (xP P w K mg base N q st f cdv A outer s H E) Wx->XPass (xP P w K mg base N q st f cdv A outer s H E) Wx->SB (xP P w K mg base N q st f cdv A outer s H E) Wx (j_ st) b
end
def gh (h1:sc.kind=.function:=by rfl)(h2:sc.isCoroutine=false:=by rfl)(h3:sc.isGenerator=false:=by rfl)(h4:N.Nodup:=by x_go)(h5:N.take P.length=P:=by rfl)
  (h6:∀x∈P,sc.names.lookup x=some .local\/sc.names.lookup x=some .cell:=by x_go) (h7:∀y∈sc.names,y.2≠ .free:=by x_go):FnScope N P sc:=⟨h1,h2,h3,h4,h5,h6,h7⟩
abbrev LV (st:Stmt)(x:Str):Prop:=(aY st).names.lookup x=some .local
structure DefAt (K:Fgx)(mg:Mgx)(x:Str)(st:Stmt)(ps:List Str)(f:Addr)(fd:FuncData):Prop where
 mg:mg x=some (.ref f)
 F:FunD K x x st f fd
 b:Binds K fd ps []
def DefAt.ok {P:Program}{w:World}{K:Fgx}{mg:Mgx}{base:Heap}{k:Nat}{x:Str}{st:Stmt}{f:Addr}{fd:FuncData}{N ps:List Str}{b:S}(D:DefAt K mg x st ps f fd)(S:FnScope N ps (aY st))(hr:RT P w K mg base k f N x st b)(hp:ps.length<=N.length:=by decide):aR P w K mg base (k + 1) x ps.length (fH N.length b):=zji D.F S hp D.mg D.b hr
def aX (K:Fgx)(x:Str)(st:Stmt):Prop:=∃(f:Addr) (oc kV dc pm cd ct:Value) (od an:Option Addr) (sl:Array (Option Value)),PySem.W.nsIn K mainGlobals x=some (some (.ref f))/\K.lookup f=some ⟨oc,od,.func (PySem.W.fnOf x x (m_ st) (j_ st) (aY st) .none kV dc pm an cd ct),sl⟩/\PySem.W.codeIn K cd x=true/\PySem.W.keepIn K (.ref f)=true
def aX.mk {K:Fgx}{x:Str}{st:Stmt}{f:Addr}{oc kV dc pm cd ct:Value}{od an:Option Addr}{sl:Array (Option Value)}(a:PySem.W.nsIn K mainGlobals x=some (some (.ref f)))(l:K.lookup f=some ⟨oc,od,.func (PySem.W.fnOf x x (m_ st) (j_ st) (aY st) .none kV dc pm an cd ct),sl⟩)(c:PySem.W.codeIn K cd x=true)(k:PySem.W.keepIn K (.ref f)=true):aX K x st:=⟨f,oc,kV,dc,pm,cd,ct,od,an,sl,a,l,c,k⟩
def aX.at {K:Fgx}{h:Heap}{mg:Mgx}{x:Str}{st:Stmt}{ps:List Str}(F:aX K x st)(X:K.In h)(G:h.Ns mainGlobals mg)
  (hb:∀(kV doc pm:Value) (an:Option Addr) (cdv ct:Value) (us:List Value),us.length=ps.length->bindArgs (PySem.W.fnOf x x (m_ st) (j_ st) (aY st) .none kV doc pm an cdv ct) ⟨us,[]⟩=pure (ps.zip us)):∃f fd,DefAt K mg x st ps f fd:=by
 obtain⟨f,oc,kV,dc,pm,cd,ct,od,an,sl,a,l,c,k⟩:=F;exact⟨f,_,PySem.W.mg_of X G a,CJ l c k,(CK (st:=st) l c k).binds hb⟩
end E3
namespace L2
open PySem PySem.Spec PyProof.Rows
abbrev TH:=Ends->Addr->Addr->Option Addr->St->Hp->Prop
def HB (X:Cx)(hs:List ExceptHandler)(t:TH):Prop:=∀(pins:Pnx) (s:Shared) (σ:St) (H:Hp) (a C:Addr) (dx:Option Addr) (T:Addr) (D:Ends),
 Caught X pins σ H s a C dx T->aU X.K C=true->X.A.handled=none->t D C a dx σ H->wpAny (model X.prog X.w) X.A (handleBy (.ref a) X.env hs) (SP X pins D) X.xe s
section
variable {X:Cx}{suite:List Stmt}{b0:Stmt}{cn n:Str}{np hp:Pos}{c:Addr}{i:Nat}{th:TS}{t:TH}{hs:List ExceptHandler}
def zg4:HB X [] fun _ _ _ _ _ _=>False:=fun _ _ _ _ _ _ _ _ _ _ _ _ z=>z.elim
def zem {pins:Pnx}{s:Shared}{σ:St}{H:Hp}{a C:Addr}{dx:Option Addr}{T:Addr}{name:Option Str}{body:List Stmt}{Q:Flow->Shared->Prop}(hg:Gl X cn)(hm:X.mg cn=some (.ref c))(q:aU X.K c=true)(hdb:(cn==("__debug__":Str))=false)
    (K2:Caught X pins σ H s a C dx T) (q1:aU X.K C=true)
    (h1 : gn X.K C c = true -> codeAny (model X.prog X.w) (X.A.mark (some (.ref a))) (.handlers (.ref a) [.ExceptHandler none name body hp] X.env) (fun r s₂=>match r with
          | .ok f => (match name with
            |none=>Q f s₂
            |some n=>wpAny (model X.prog X.w) X.A (do bindName X.env n .none;unbindBehindTheSuite X.env n hp) (fun _ s₃=>Q f s₃) X.xe s₂)
          |.error x=>cameBackBy (model X.prog X.w) X.A X.env X.xe x s₂) s)
    (h2:gn X.K C c=false->wpAny (model X.prog X.w) X.A (handleBy (.ref a) X.env hs) Q X.xe s):
    wpAny (model X.prog X.w) X.A (handleBy (.ref a) X.env (.ExceptHandler (some (.Name cn np)) name body hp::hs)) Q X.xe s:=by
  refine xdk (xcZ ?_) (by intro z;cases z);refine tZ (X:=X.suite (.ref a)) (K2.inv.to_suite _) hg hm ?_ hdb;obtain⟨nm,qn,N,bs,bm,sn,sub,ab,col,dd,k0,k1,k2,k3,k5,Y,lk⟩:=xG K2.inv.kIn q1;obtain⟨nm',qn',N',bs',bm',sn',sub',ab',col',dd',j0,j1,j2,j3,j5,Y',lk'⟩:=xG K2.inv.kIn q;obtain⟨oe,vs,t,e1,e2,e3,e4,e5,e6,_⟩:=yr K2.inv.hok K2.obj;have hit:gn X.K C c=(Value.ref C::bm).contains (.ref c):=by
    unfold gn;rw[lk]
  rw[hit]at h1 h2;obtain⟨hh2,g,d,tk,os⟩:=s;refine Uq Y.obj Y'.obj e1 e2 (Y'.tail.hasType xa8.hasBase) ?_
  cases hb:(Value.ref C::bm).contains (.ref c) with
  |true=>exact h1 hb
  |false=>exact h2 hb
def zdz (hN:X.N.Nodup)(hi:X.N[i]? =some n)(hl:X.env.scope.names.lookup n=some .local)(hg:Gl X cn)(hm:X.mg cn=some (.ref c))(q:aU X.K c=true)(hdb:(cn==("__debug__":Str))=false)(hh:∀e,lK (X.suite e) (b0::suite) th)(hr:HB X hs t):
    HB X (.ExceptHandler (some (.Name cn np)) (some n) (b0::suite) hp::hs) fun D C a dx σ H=>(gn X.K C c=true->th {D with nx:=fun σ H=>∃v,σ[i]? =some (some v)/\D.nx (σ.set i none) H,bk:=fun _ _=>False,ct:=fun _ _=>False} (σ.set i (some (.ref a))) H)/\(gn X.K C c=false->t D C a dx σ H):=by
  intro pins s σ H a C dx T D K2 q1 hd z;refine zem hg hm q hdb K2 q1 (fun h=>?_) fun h=>hr pins s σ H a C dx T D K2 q1 hd (z.2 h);refine xdN (K2.off fun s3 K3=>?_);refine zp (X:=X.suite (.ref a)) (v:=.ref a) (K3.inv.to_suite _) hN hi (.inl hl) rfl (fun s4 I4=>?_) (.inr hl);refine xa3 (hh (.ref a) pins s4 _ H _ I4 (z.1 h)) (fun f s5 y=>?_) fun _ _ y=>False.elim y;have off:∀{σ5:St} {H5:Hp} {s5:Shared} {Q:Unit->Shared->Prop},Inv (X.suite (.ref a)) pins σ5 H5 s5->(∀s7,Inv X pins (σ5.set i none) H5 s7->Q () s7)->wpAny (model X.prog X.w) X.A (do bindName X.env n .none;unbindBehindTheSuite X.env n hp) Q X.xe s5:=fun I5 k=>by
    have I5':=I5.of_suite hd;refine xaa (xeg (zp (v:=.non) I5' hN hi (.inl hl) rfl (fun s6 I6=>?_) (.inr hl)));unfold unbindBehindTheSuite;refine xeo (I6.del (v:=.non) hN hi hl ?_ fun s7 I7=>?_)
    · rw[xbt];rw[I5'.len];exact(xag.mp hi).1
    · rw[xeD]at I7;exact k s7 I7
  cases f with
  |next=>
    obtain⟨σ5,H5,I5,v,ev,y⟩:=y;exact off I5 fun s7 I7=>⟨_,H5,I7,y⟩
  |brk=>obtain⟨_,_,_,y⟩:=y;exact False.elim y
  |cont=>obtain⟨_,_,_,y⟩:=y;exact False.elim y
  |ret u=>
    obtain⟨v,σ5,H5,I5,rv,y⟩:=y;exact off I5 fun s7 I7=>⟨v,_,H5,I7,rv,y⟩
def zez {body:List Stmt}{h0:ExceptHandler}{pos:Pos}{tb:Ends->TS}(hs':X.stack=X.env::X.outer)(hf:X.env.frame=some X.env.locals)(hc:X.calm=true)
  (hb:∀(pins:Pnx) (D:Ends),lK (X.pin pins fun e s'=>∃σ' H' a C dx T,e=.ref a/\Caught X pins σ' H' s' a C dx T/\aU X.K C=true/\t D C a dx σ' H') body (tb D))
  (hh:HB X (h0::hs) t):PS X (.Try body (h0::hs) [] [] pos) (fun D σ H=>tb D D σ H):=by
 intro pins s σ H D I h;refine xdX (xa3 (hb pins D [] s σ H D (I.to_pin _) h) (fun f s1 z=>?_) fun e s1 z=>?_)
 ·cases f with
  |next=>obtain⟨σ',H',J,q⟩:=z;exact xbT ⟨σ',H',J.of_pin,q⟩
  |brk=>obtain⟨σ',H',J,q⟩:=z;exact⟨σ',H',J.of_pin,q⟩
  |cont=>obtain⟨σ',H',J,q⟩:=z;exact⟨σ',H',J.of_pin,q⟩
  |ret u=>obtain⟨v,σ',H',J,r,q⟩:=z;exact⟨v,σ',H',J.of_pin,r,q⟩
 ·obtain⟨σ',H',a,C,dx,T,rfl,K1,q1,z⟩:=z;exact K1.note hs' hf fun s2 T2 K2=>hh pins s2 σ' H' a C dx T2 D K2 q1 (I.ok.hd hc) z
end
end L2
namespace E3
open PySem PySem.Spec PyProof.Rows L2
abbrev HE:=Str->Int->Env->Mm->OS
def Bd:HE:=fun _ _ _ _=>none
noncomputable def wR (i:Nat) (o:OS):OS:=match o with
  | some (.nx e, M) => (match e[i]? with
    |some (.exc _ _)=>some (.nx (e.set i .un),M)
    |_=>none)
  |some (.rt d,M)=>some (.rt d,M)
  |_=>none
noncomputable def yJ (i:Nat) (cat:Str->Option Bool) (h:S) (r:HE):HE:=fun c n env M=>match cat c with
 |some true=>if i<env.length then wR i (h (env.set i (.exc c n)) M) else none
 |some false=>r c n env M
 |none=>none
noncomputable def Hy (b:S) (hh:HE):S:=fun env M=>match b env M with
 |some (.ex c n,M1)=>hh c n env M1
 |o=>o
def Ab (X:Cx)(c:Addr)(cat:Str->Option Bool):Prop:=∀c' b,cat c'=some b->∃C,X.mg c'=some (.ref C)/\aU X.K C=true/\gn X.K C c=b
section
variable {X:Cx}{Wx:XW}{m:Mode}{pos:Pos}
noncomputable def tH (X:Cx) (hh:HE):TH:=fun D C a dx st H=>∃P0 H0 P Os env M c n out M',Ok X.K X.mg P0 H0 P Os H M st env/\X.mg c=some (.ref C)/\Nb X.K X.mg P H none (some (.ref a)) (.exc c n)/\hh c n env M=some (out,M')/\Post X.K X.mg W0 P0 H0 P H M' D out
def MN (out:Out):Prop:=(∃e,out=.nx e)\/∃d,out=.rt d
structure SH (X:Cx)(hs:List ExceptHandler)(hh:HE):Prop where
 hb:HB X hs (tH X hh)
 ok:∀c n env M out M',hh c n env M=some (out,M')->(∃C,X.mg c=some (.ref C)/\aU X.K C=true)/\MN out
def Wu {hs:List ExceptHandler}{t t':TH}(h:HB X hs t)(w:∀D C a dx σ H,t' D C a dx σ H->t D C a dx σ H):HB X hs t':=fun pins s σ H a C dx T D k q hd z=>h pins s σ H a C dx T D k q hd (w _ _ _ _ _ _ z)
def zge:SH X [] Bd:=⟨Wu zg4 (fun D C a dx σ H ⟨_,_,_,_,_,_,_,_,_,_,_,_,_,e,_⟩=>by cases e),fun _ _ _ _ _ _ e=>by cases e⟩
variable {suite:List Stmt}{b0:Stmt}{cn n:Str}{np hp:Pos}{c:Addr}{i:Nat}{h:S}{hs:List ExceptHandler}{r:HE}{cat:Str->Option Bool}
def zgm {c':Str}{b:Bool}(hcat:Ab X c cat)(e:cat c'=some b):∃C,X.mg c'=some (.ref C)/\aU X.K C=true:=let ⟨C,m,x,_⟩:=hcat c' b e;⟨C,m,x⟩
def Vk {c':Str}{C:Addr}{b:Bool}(hcat:Ab X c cat)(e:cat c'=some b)(hm:X.mg c'=some (.ref C)):gn X.K C c=b:=by
 obtain⟨C',m',_,s⟩:=hcat c' b e;cases hm.symm.trans m';exact s
def zii (hN:X.N.Nodup)(hi:X.N[i]? =some n)(hl:X.env.scope.names.lookup n=some .local)(hg:Gl X cn)(hm:X.mg cn=some (.ref c))(q:aU X.K c=true)(hcat:Ab X c cat)(hh:∀e,SB (X.suite e) W0 (b0::suite) h)(hr:SH X hs r)(hdb:(cn==("__debug__":Str))=false:=by x_go):
    SH X (.ExceptHandler (some (.Name cn np)) (some n) (b0::suite) hp::hs) (yJ i cat h r):=by
  refine⟨Wu (zdz (th:=tS X.K X.mg W0 h) hN hi hl hg hm q hdb hh hr.hb) ?_,fun c' n' env M out M' e=>?_⟩
  rotate_left
  · unfold yJ at e;split at e
    · rename_i ec;refine⟨zgm hcat ec,?_⟩;split at e
      · unfold wR at e;split at e
        · split at e
          · cases e;exact .inl ⟨_,rfl⟩
          · cases e
        · cases e;exact .inr ⟨_,rfl⟩
        · cases e
      · cases e
    · exact hr.ok _ _ _ _ _ _ e
    · cases e
  rintro D C a dx st H ⟨P0,H0,P,Os,env,M,c',n',out,M',k,m1,so,e,q⟩;unfold yJ at e;split at e
  · rename_i ec;refine⟨fun _=>?_,fun z=>by rw[Vk hcat ec m1]at z;cases z⟩;split at e
    · rename_i hil;have k1:=k.put (s:=.exc c' n') (sv:=some (.ref a)) hil so;unfold wR at e;split at e
      · rename_i env' M2 e2;split at e
        · rename_i c3 n3 ex;cases e;refine⟨P0,H0,P,_,_,M,_,_,k1,e2,fun P2 Os2 H2 st2 l2 k2=>?_⟩;obtain⟨v,ev,_⟩:=k2.slot i _ ex;exact⟨v,sU ev,q P2 _ H2 _ l2 (k2.put (s:=.un) (sv:=none) (xag.mp ex).1 True.intro)⟩
        · cases e
      · rename_i d M2 e2;cases e;exact⟨P0,H0,P,_,_,M,_,_,k1,e2,q⟩
      · cases e
    · cases e
  · rename_i ec;exact⟨fun z=>(by rw[Vk hcat ec m1]at z;cases z),fun _=>⟨P0,H0,P,Os,env,M,c',n',out,M',k,m1,so,e,q⟩⟩
  · cases e
def zfi {body:List Stmt}{h0:ExceptHandler}{b:S}{hh:HE}  (hs':X.stack=X.env::X.outer)(hf:X.env.frame=some X.env.locals)(hc:X.calm=true)
  (hb:∀pins E,BX (X.pin pins E) body b) (hH:SH X (h0::hs) hh):SS X Wx (.Try body (h0::hs) [] [] pos) (Hy b hh):=by
 let Ex:Ends->L2.St->XK:=fun D σ Cv dx H'=>∀a C,Cv=.ref C->H' a=some (xo a C dx false)->aU X.K C=true/\tH X hh D C a dx σ H'
 refine nu (zez (tb:=fun D=>Ig X.K X.mg (Ex D) b) (t:=tH X hh) hs' hf hc (fun pins D=>hb pins _ (Ex D) fun pins' σ H s e s' I z=>?_) hH.hb) ?_
 ·obtain⟨a,C,dx,H',T,rfl,K1,hE⟩:=Jr (X:=X) I.of_pin z;obtain⟨z1,z3⟩:=hE a C rfl K1.obj;exact⟨σ,H',a,C,dx,T,rfl,K1,z1,z3⟩
 ·rintro D st H ⟨P0,H0,P,Os,env,M,out,M',k,e,q⟩;unfold Hy at e;split at e
  ·rename_i c' n' M1 e1;obtain⟨⟨C,hmC,x1⟩,ho⟩:=hH.ok _ _ _ _ _ _ e;refine⟨P0,H0,P,Os,env,M,_,_,k,e1,fun P1 H1 C1 dx l1 h1 m1 xn a C2 eC ea=>?_⟩;cases eC;cases hmC.symm.trans m1;refine⟨x1,P0,H0,P1,Os,env,M1,c',n',out,M',k.next l1 h1,m1,⟨_,rfl,a,C,dx,rfl,m1,ea,xn⟩,e,?_⟩
   rcases ho with⟨_,rfl⟩ |⟨_,rfl⟩
   ·exact fun P2 Os2 H2 st2 l2 k2=>q P2 Os2 H2 st2 ((l1.lt k.hk).trans l2) k2
   ·exact q
  ·rename_i o hne;refine⟨P0,H0,P,Os,env,M,_,_,k,e,?_⟩
   cases out with
   |ex c n=>exact absurd e (hne c n M')
   |nx env=>exact q
   |bk env=>exact q
   |ct env=>exact q
   |rt d=>exact q
end
end E3
namespace L2
open PySem PySem.Spec PyProof.Rows
def Sd {M:Model}{Γ:PySem.Ctx}{p:Pos}{t:Sem Fin}{fs:List Frame}{s:Shared}{e:End}{s':Shared}(h:Runs M Γ p t fs s e s'):s.toks<=s'.toks:=by
 induction h with
 |fresh _ ih=>exact Nat.le_of_succ_le ih
 |call _ _ i1 i2=>exact xau i1 i2
 |resumeFresh _ _ _ _ i1 i2=>exact xau i1 i2
 |resumeSuspended _ _ _ _ i1 i2=>exact xau i1 i2
 |segRet _ _ i1 i2=>exact xau i1 i2
 |segGen _ _ i1 i2=>exact xau i1 i2
 |segSuspGen _ _ _ _ i1 i2=>exact xau i1 i2
 |_=>first |exact xad _ |assumption
def zbR {M:Model}{Γ:PySem.Ctx}{p:Pos}{g:Nat}{r:Resume}{s:Shared}{res:GenResult}{s':Shared}(h:Wakes M Γ p g r s res s'):s.toks<=s'.toks:=by
 unfold Wakes at h;split at h
 ·exact h.elim
 ·split at h
  ·obtain⟨e1,s1,hr,_,_,rfl⟩:=h;have z:=Sd hr;exact z
  ·obtain⟨_,rfl⟩:=h;exact xad _
  ·obtain⟨_,rfl⟩:=h;exact xad _
 ·obtain⟨e1,s1,hr,_,_,rfl⟩:=h;have z:=Sd hr;exact z
 ·obtain⟨_,rfl⟩:=h;exact xad _
 ·obtain⟨_,rfl⟩:=h;exact xad _
def wp_toks {α:Type}{M:Model}{Γ:PySem.Ctx}{Q:α->Pos->Shared->Prop}{E:Value->Pos->Shared->Prop}{n:Nat}:∀(t:Sem α) (p:Pos) (s:Shared),n<=s.toks->Sem.wp M Γ t Q E p s->
  Sem.wp M Γ t (fun a p s'=>Q a p s'/\n<=s'.toks) (fun e p s'=>E e p s'/\n<=s'.toks) p s:=by
 intro t
 induction t with
 |pure a=>intro p s hn h;exact⟨h,hn⟩
 |raise e=>intro p s hn h;exact⟨h,hn⟩
 |load a o k ih=>intro p s hn h;obtain⟨o,h1,h2⟩:=h;exact⟨o,h1,ih o p s hn h2⟩
 |update a o f k ih=>intro p s hn h;exact⟨h.1,ih () p _ hn h.2⟩
 |fresh k ih=>intro p s hn h;exact ih _ p _ (xcr hn) h
 |choose src m k ih=>intro p s hn h;exact⟨h.1,ih _ p _ hn h.2⟩
 |genState g k ih=>intro p s hn h;obtain⟨st,h1,h2⟩:=h;exact⟨st,h1,ih _ p s hn h2⟩
 |call c h0 b l k ih=>intro p s hn h;obtain⟨r,s1,h1,h2⟩:=h;exact⟨r,s1,h1,ih r p s1 (xau hn (Sd h1)) h2⟩
 |resume g r l k ih=>intro p s hn h;obtain⟨r,s1,h1,h2⟩:=h;exact⟨r,s1,h1,ih r p s1 (xau hn (zbR h1)) h2⟩
 |rule g k ih=>intro p s hn h;exact ih () p s hn h
 | «at» g k ih=>intro p s hn h;exact ih () g s hn h
 |loadIfAlive a k ih=>intro p s hn h;exact ih _ p s hn h
 |point l k ih=>intro p s hn h;exact ih () p s hn h
 |alloc o k ih=>intro p s hn h;exact ih _ p _ hn h
 |ask k ih=>intro p s hn h;exact ih _ p s hn h
 |os q l k ih=>intro p s hn h;exact ih _ p _ hn h
 |handled o k ih=>intro p s hn h;exact ih _ p s hn h
 |newGen c k ih=>intro p s hn h;exact ih _ p _ hn h
 |stack k ih=>intro p s hn h;exact ih _ p s hn h
 |thread k ih=>intro p s hn h;exact ih _ p s hn h
 |_=>intro p s hn h;exact h.elim
def Ni {α:Type}{M:Model}{A:Around}{t:Sem α}{Q:α->Shared->Prop}{E:Value->Shared->Prop}{s:Shared}{n:Nat}(hn:n<=s.toks)(h:wpAny M A t Q E s):wpAny M A t (fun a s'=>Q a s'/\n<=s'.toks) E s:=
 xa3 (Q:=fun a s'=>Q a s'/\n<=s'.toks) (E:=fun e s'=>E e s'/\n<=s'.toks) (fun Γ p hΓ=>wp_toks t p s hn (h Γ p hΓ)) (fun _ _ z=>z) fun _ _ z=>z.1
section
variable {X:Cx}{e:Expr}{es:List Expr}{te:TE}{t:TA}{pos:Pos}
def M6 (X:Cx)(e:Expr)(t:TE):Prop:=∀(pins:Pnx) (s:Shared) (σ:St) (H:Hp) (Q:VK),Inv X pins σ H s->1<=s.toks->t σ H Q->wpAny (model X.prog X.w) X.A (eval e X.env) (EP X pins σ Q) X.xe s
def Ec (X:Cx)(es:List Expr)(t:TA):Prop:=
 ∀(pos:Pos) (pins:Pnx) (s:Shared) (σ:St) (H:Hp) (Q:List V->Hp->Prop),Inv X pins σ H s->1<=s.toks->t σ H Q->wpAny (model X.prog X.w) X.A (spliced (backTo pos (starEach es X.env))) (AP X pins σ Q) X.xe s
def MP (X:Cx)(e:Expr)(t:TE):Prop:=∀(pins:Pnx) (s:Shared) (σ:St) (H:Hp) (Q:VK),Inv X pins σ H s->t σ H Q->wpAny (model X.prog X.w) X.A (eval e X.env) (fun u s'=>EP X pins σ Q u s'/\1<=s'.toks) X.xe s
def zdv (ha:MP X e te)(hr:Ec X es t)(hs:starEach (e::es) X.env=(false,eval e X.env)::starEach es X.env):PA X (e::es) (Ih te t):=by
 intro pos pins s σ H Q I h;rw[hs];show wpAny _ _ (spliced ((false,eval e X.env)::backTo pos (starEach es X.env))) _ _ s;refine xbq (aQ (ha pins s σ H _ I h) fun u s1 ⟨⟨x,H1,I1,r1,q1⟩,h1⟩=>?_);exact aQ (hr pos pins s1 σ H1 _ I1 h1 q1) fun us s2 ⟨xs,H2,I2,r2,q2⟩=>⟨x::xs,H2,I2,.cons r1 r2,q2⟩
def zdk (ha:PE X e te)(hr:Ec X es t)(hs:starEach (e::es) X.env=(false,eval e X.env)::starEach es X.env):Ec X (e::es) (Ih te t):=by
 intro pos pins s σ H Q I h0 h;rw[hs];show wpAny _ _ (spliced ((false,eval e X.env)::backTo pos (starEach es X.env))) _ _ s;refine xbq (aQ (Ni h0 (ha pins s σ H _ I h)) fun u s1 ⟨⟨x,H1,I1,r1,q1⟩,h1⟩=>?_);exact aQ (hr pos pins s1 σ H1 _ I1 h1 q1) fun us s2 ⟨xs,H2,I2,r2,q2⟩=>⟨x::xs,H2,I2,.cons r1 r2,q2⟩
def zdi (ha:M6 X e te)(hr:PA X es t)(hs:starEach (e::es) X.env=(false,eval e X.env)::starEach es X.env):Ec X (e::es) (Ih te t):=by
 intro pos pins s σ H Q I h0 h;rw[hs];show wpAny _ _ (spliced ((false,eval e X.env)::backTo pos (starEach es X.env))) _ _ s;refine xbq (aQ (ha pins s σ H _ I h0 h) fun u s1 ⟨x,H1,I1,r1,q1⟩=>?_);exact aQ (hr pos pins s1 σ H1 _ I1 q1) fun us s2 ⟨xs,H2,I2,r2,q2⟩=>⟨x::xs,H2,I2,.cons r1 r2,q2⟩
def zf8 {a:Expr}{ta:TE}{op:Operator}{r:R2}{x:Str}{j p}(ho:fU X (binaryOp op) r)(ha:PE X a ta):MP X (.BinOp a op (.Constant (.str x) j p) pos) (Dz r ta (tC (.str x))):=by
 intro pins s σ H Q I h;refine wpAny_BinOp (aQ (ha pins s σ H _ I h) fun v s1 ⟨y,H1,I1,r1,q1⟩=>?_);refine xcg ?_;exact Ni (Nat.succ_le_succ (xbL _)) (ho pins _ σ H1 y (.str x) v _ Q (I1.tok _) r1 ⟨_,rfl⟩ q1)
open Builtin Builtin.Str in
noncomputable def rep1 (x y z:PySem.Str):PySem.Str:=if ((occurrences x y 0 x.length 1).isEmpty || (y.length==0 && z.length==0))=true then x else glued z (partsBetween x (occurrences x y 0 x.length 1) y.length)
open Builtin Builtin.Str in
def zbZ (x y z:PySem.Str)(t u v r:Tok)(hu:(u==0 || v==0)=false)(huv:(u==v)=false)(hyz:(y==z)=false)(hl:tooLong (x.length + (occurrences x y 0 x.length 1).length * z.length)=false):
    Gives («str.replace» ⟨[.str x t,.str y u,.str z v,.int 1 r],[]⟩) (if ((occurrences x y 0 x.length 1).isEmpty || (y.length==0 && z.length==0))=true then .val (.str x t) else .str (glued z (partsBetween x (occurrences x y 0 x.length 1) y.length))):=by
  show Gives (if ((occurrences x y 0 x.length 1).isEmpty || (y.length==0 && z.length==0))=true then(do rule "str.replace.nothing";ret (.str x t)) else
          (do let same <-isSame (.str y u) (.str z v)
              if same=true then(do rule "str.replace.old-is-new";ret (.str x t)) else
              if tooLong (x.length + (occurrences x y 0 x.length 1).length * z.length)=true then unsupported "str.replace:memory" else
              retStr (glued z (partsBetween x (occurrences x y 0 x.length 1) y.length)))) _
  cases hc:((occurrences x y 0 x.length 1).isEmpty || (y.length==0 && z.length==0))
  · rw[isSame_str_other y z u v hu huv hyz,hl];exact .of_eq rfl
  · exact .rule (.of_eq rfl)
open Builtin Builtin.Str in
def zdy (x y z:PySem.Str)(hz:z.length<=16)(hx:x.length<=1000000):tooLong (x.length + (occurrences x y 0 x.length 1).length * z.length)=false:=by
 have h1:=xc2 x y 0 x.length 1;have h2:(Builtin.Str.occurrences x y 0 x.length 1).length * z.length<=1 * 16:=Nat.mul_le_mul h1 hz;unfold tooLong;rw[xav];exact xat (by omega)
def ze2 {o:Expr}{to:TE}{y z:PySem.Str}{j1 j2 j3 p1 p2 p3}{ap cp:Pos}(ho:PE X o to)(hyz:(y==z)=false)(hz:z.length<=16)(hbase:attributeBase o "replace" X.env (eval o X.env)=eval o X.env)(hline:(ap.endLine==cp.line)=true):
  M6 X (.Call (.Attribute o "replace" ap) [.Constant (.str y) j1 p1,.Constant (.str z) j2 p2,.Constant (.int 1) j3 p3] [] cp) (fun σ H Q=>to σ H fun v H1=>∃x,v=.str x/\x.length<=1000000/\Q (.str (rep1 x y z)) H1):=by
 intro pins s σ H Q I h0 h;refine wpAny_Call_method_late hbase rfl hline rfl (aQ (Ni h0 (ho pins s σ H _ I h)) fun u s1 ⟨⟨v,H1,I1,r1,x,ex,hx,q1⟩,h1⟩=>?_);subst ex;obtain⟨tx,rfl⟩:∃t,u=.str x t:=r1;refine⟨"str","str.replace",xcm,xd2,PySem.F.type_str_replace,xcN _ _ _,(fun a e=>by cases e),?_⟩;refine xbR rfl (xc9 ?_);show wpAny _ _ (spliced [(false,eval (.Constant (.str y) j1 p1) X.env),(false,eval (.Constant (.str z) j2 p2) X.env),(false,eval (.Constant (.int 1) j3 p3) X.env)]) _ _ _;refine xbq (xcg (xbq (xcg (xbq (wpAny_Constant_int (xdI ?_))))));refine call_gives xd2 (xcN _ _ _) PySem.F.entry_str_replace (PySem.F.args_str_replace_4 _ _ _ _) (zbZ x y z _ _ _ _ ?_ ?_ hyz (zdy x y z hz hx)) ?_
 ·have:s1.toks≠0:=by omega
  simp[this]
 ·simp
 ·have q2:=q1;unfold rep1 at q2
  split
  ·rename_i hc;rw[tG hc]at q2;exact⟨.str x,H1,I1.tok _,⟨_,rfl⟩,q2⟩
  ·rename_i hc;rw[xab hc]at q2;refine⟨?_,⟨.str _,H1,I1.tok _,⟨_,rfl⟩,q2⟩⟩;have hy:(Builtin.Str.glued y (Builtin.Str.partsBetween x (Builtin.Str.occurrences x y 0 x.length 1) y.length)).length=x.length:=by rw[StrLaws.glued_between_self]
   have h1:=xc2 x y 0 x.length 1;have h2:(Builtin.Str.occurrences x y 0 x.length 1).length * z.length<=1 * 16:=Nat.mul_le_mul h1 hz;rw[size_glued,length_partsBetween,xdz]at hy;rw[size_glued,length_partsBetween,xdz,xav];omega
def zdL {o:Expr}{to:TE}{ap cp:Pos}(ho:PE X o to)(hbase:attributeBase o "upper" X.env (eval o X.env)=eval o X.env)(hline:(ap.endLine==cp.line)=true):
  PE X (.Call (.Attribute o "upper" ap) [] [] cp) (fun σ H Q=>to σ H fun v H1=>∃x,v=.str x/\(Txt.upper x).length<=1000000/\Q (.str (Txt.upper x)) H1):=by
 intro pins s σ H Q I h;refine xd5 hbase hline (aQ (ho pins s σ H _ I h) fun u s1 ⟨v,H1,I1,r1,x,ex,hx,q1⟩=>?_);subst ex;obtain⟨tx,rfl⟩:∃t,u=.str x t:=r1;have hf:Builtin.Str.tooLong (Txt.upper x).length=false:=by
  unfold Builtin.Str.tooLong;rw[xav];exact xat (by omega)
 refine⟨"str","str.upper",xcm,xed,PySem.F.type_str_upper,xcN _ _ _,(fun a e=>by cases e),xbR rfl (xet ?_)⟩;exact call_gives xed (xcN _ _ _) PySem.F.entry_str_upper (PySem.F.args_str_upper_1 _) (gives_str_upper x tx hf) ⟨by rw[xav];exact xau hx (by decide),⟨.str _,H1,I1.tok _,⟨_,rfl⟩,q1⟩⟩
end
end L2
namespace E3
open PySem PySem.Spec PyProof.Rows L2
section
variable {X:Cx}{Wx:XW}{m:Mode}{pos:Pos}
noncomputable def Hz (f:E):E:=fun env M=>bnd (f env M) fun d M1=>match d with
 |.str x=>if (Txt.upper x).length<=1000000 then some (.v (.str (Txt.upper x)),M1) else none
 |_=>none
noncomputable def Hx (y z:Str) (f:E):E:=fun env M=>bnd (f env M) fun d M1=>match d with
 |.str x=>if x.length<=1000000 then some (.v (.str (rep1 x y z)),M1) else none
 |_=>none
def zda {o:Expr}{f:E}{ap:Pos}(ho:SE X Wx .val o f)(hbase:attributeBase o "upper" X.env (eval o X.env)=eval o X.env:=by rfl)(hline:(ap.endLine==pos.line)=true:=by rfl):SE X Wx m (.Call (.Attribute o "upper" ap) [] [] pos) (Hz f):=by
 refine gC (zdL ho hbase hline) ?_;rintro st H Q ⟨P0,H0,P,Os,env,M,r,M',k,e,q⟩;unfold Hz at e;rcases gD e with⟨d,N1,e1,e⟩ |⟨c,n,e1,rfl⟩
 ·cases d<;>simp only[reduceCtorEq]at e
  rename_i x;split at e
  ·rename_i hl;cases e;exact aV k e1 fun P1 v1 H1 l1 h1 i1=>⟨x,i1,hl,q P1 _ H1 l1 h1 (gB.of h1 (show Is _ _ _ (.str _) _ from rfl))⟩
  ·cases e
 ·exact aV k e1 q
def U6 (X:Cx)(Wx:XW)(m:Mode)(e:Expr)(f:E):Prop:=M6 X e (tE X.K X.mg Wx m f)
def U5 (X:Cx)(Wx:XW)(m:Mode)(e:Expr)(f:E):Prop:=MP X e (tE X.K X.mg Wx m f)
def IW (X:Cx)(Wx:XW)(m:Mode)(es:List Expr)(fs:EA):Prop:=Ec X es (Mg X.K X.mg Wx m fs)
def zfy {o:Expr}{f:E}{y z:Str}{j1 j2 j3 p1 p2 p3}{ap:Pos}(ho:SE X Wx .val o f)(hyz:(y==z)=false:=by x_go)(hz:z.length<=16:=by x_go)(hbase:attributeBase o "replace" X.env (eval o X.env)=eval o X.env:=by rfl)(hline:(ap.endLine==pos.line)=true:=by rfl):
  U6 X Wx m (.Call (.Attribute o "replace" ap) [.Constant (.str y) j1 p1,.Constant (.str z) j2 p2,.Constant (.int 1) j3 p3] [] pos) (Hx y z f):=by
 intro pins s σ H Q I h0 w;refine ze2 ho hyz hz hbase hline pins s σ H Q I h0 ?_;obtain⟨P0,H0,P,Os,env,M,r,M',k,e,q⟩:=w;unfold Hx at e;rcases gD e with⟨d,N1,e1,e⟩ |⟨c,n,e1,rfl⟩
 ·cases d<;>simp only[reduceCtorEq]at e
  rename_i x;split at e
  ·rename_i hl;cases e;exact aV k e1 fun P1 v1 H1 l1 h1 i1=>⟨x,i1,hl,q P1 _ H1 l1 h1 (gB.of h1 (show Is _ _ _ (.str _) _ from rfl))⟩
  ·cases e
 ·exact aV k e1 q
def ziq {a:Expr}{op:Operator}{f:E}{o:D->D->Option D}{r:R2}{x:Str}{j p}(ho:fU X (binaryOp op) r)(po:sH X.K r o)(ha:SE X Wx .bor a f):U5 X Wx m (.BinOp a op (.Constant (.str x) j p) pos) (s2 o f (aj (.str x))):=by
 intro pins s σ H Q I w;refine zf8 ho ha pins s σ H Q I ?_;obtain⟨P0,H0,P,Os,env,M,rr,M',k,e,q⟩:=w;unfold s2 at e;rcases gD e with⟨d,M1,e1,e⟩ |⟨c,n,e1,rfl⟩
 ·refine aV k e1 fun P1 v1 H1 l1 h1 i1=>?_;rcases gD e with⟨d2,M2,e2,e⟩ |⟨c,n,e2,rfl⟩
  ·cases e2;rw[xae]at e;obtain⟨z,ez,e⟩:=e;cases e;exact po P1 H1 _ _ z v1 _ Q ez (gK.vw h1 i1) (gK.vw h1 (gB.of (m:=.bor) h1 (show Is X.K P1 H1 (.str x) _ from rfl))) h1.new fun u H' s i=>q P1 u H' (l1.trans (LtE.same s)) (h1.same s) (gB.of (h1.same s) i)
  ·cases e2
 ·exact aV k e1 q
def Nj {f:E}{fs:EA}{st:L2.St}{H:Hp}{Q:List V->Hp->Prop}(w:Mg X.K X.mg Wx m (au f fs) st H Q):Ih (tE X.K X.mg Wx m f) (Mg X.K X.mg Wx m fs) st H Q:=by
 obtain⟨P0,H0,P,Os,env,M,r,M',k,e,q⟩:=w;unfold au at e;split at e
 ·rename_i d M1 e1;refine aV k e1 fun P1 v1 H1 l1 h1 i1=>?_;split at e
  ·rename_i ds M2 e2;cases e;refine⟨P0,H0,P1,Os,env,M1,_,_,k.next l1 h1,e2,fun P2 vs H2 l2 h2 i2=>q P2 _ H2 (l1.trans l2) h2 ⟨v1,vs,rfl,?_,i2⟩⟩
   cases m with
   |val=>exact Is.lt (l2.lt h1) i1
   |bor=>exact gK.lt l2 h1 i1
  ·rename_i c n M2 e2;cases e;exact⟨P0,H0,P1,Os,env,M1,_,_,k.next l1 h1,e2,q⟩
  ·cases e
 ·rename_i c n M1 e1;cases e;exact aV k e1 q
 ·cases e
variable {e:Expr}{es:List Expr}{f:E}{fs:EA}
def zc0 (ha:U5 X Wx m e f)(hr:IW X Wx m es fs)(hs:starEach (e::es) X.env=(false,eval e X.env)::starEach es X.env:=by rfl):SA X Wx m (e::es) (au f fs):=Q6 (zdv ha hr hs) fun _ _ _ w=>Nj w
def ZK (ha:SE X Wx m e f)(hr:IW X Wx m es fs)(hs:starEach (e::es) X.env=(false,eval e X.env)::starEach es X.env:=by rfl):IW X Wx m (e::es) (au f fs):=fun pos pins s σ H Q I h0 w=>zdk ha hr hs pos pins s σ H Q I h0 (Nj w)
def zc3 (ha:U6 X Wx m e f)(hr:SA X Wx m es fs)(hs:starEach (e::es) X.env=(false,eval e X.env)::starEach es X.env:=by rfl):IW X Wx m (e::es) (au f fs):=fun pos pins s σ H Q I h0 w=>zdi ha hr hs pos pins s σ H Q I h0 (Nj w)
def zcU {a:Expr}{p:Pos}(ha:SE X Wx .val a f)(hs:SA X Wx .bor (e::es) fs)(hbase:attributeBase a "split" X.env (eval a X.env)=eval a X.env:=by rfl)
  (hfew:((backTo pos (starEach (e::es) X.env)).all (fun x=> !x.1) && (backToKw pos (keywordEach [] X.env)).all (fun x=>x.1.isSome) && decide ((e::es).length + ([]:List Keyword).length + (if ([]:List Keyword).isEmpty then 0 else 1)<30))=true:=by rfl)
  (hline:(p.endLine==pos.line)=true:=by rfl) (hst:starEach (e::es) X.env=(false,eval e X.env)::starEach es X.env:=by rfl) (hplain:(backTo pos (starEach es X.env)).any (·.1)=false:=by rfl):
  SN X Wx (.Call (.Attribute a "split" p) (e::es) [] pos) (n_ yq f fs):=by
 refine gC (Kl xcm xcn xco JV ha hs hbase hfew hline hst hplain) ?_;rintro st H Q ⟨P0,H0,P,Os,env,M,r,M',k,e,q⟩;unfold n_ at e;rcases gD e with⟨d,M1,e1,e⟩ |⟨c,n,e1,rfl⟩
 ·cases d<;>simp only[reduceCtorEq]at e
  rename_i y;refine aV k e1 fun P1 v1 H1 l1 h1 i1=>?_;have k1:=k.next l1 h1
  cases i1;refine⟨rfl,?_⟩;rcases zK e with⟨ds,M2,e2,e⟩ |⟨c,n,e2,rfl⟩
  ·rw[xae]at e;obtain⟨z,ez,e⟩:=e;cases e;unfold yq at ez;split at ez
   ·rename_i y2 hds;split at ez
    ·rename_i hl;cases ez;obtain⟨ds',e',q⟩:=q;cases e';refine⟨P0,H0,P1,Os,env,M1,_,_,k1,e2,fun P2 vs H2 l2 h2 i2=>?_⟩;have aw:=g8.w h2 i2;rw[hds]at aw;obtain⟨v,ws,rfl,p,rfl⟩:=aw;cases p;refine⟨_,_,rfl,rfl,hl.1,hl.2,fun l hl'=>?_⟩;obtain⟨l3,h3,nc⟩:=Eu (vs:=(Txt.split y y2).map V.str) h2 hl';exact q (P2.bar l) l _ _ (l1.trans (l2.trans l3)) h3 (l1.sure l (l2.sure l hl')) (.inr rfl) nc gq (Qg _)
    ·cases ez
   ·cases ez
  ·exact⟨P0,H0,P1,Os,env,M1,_,_,k1,e2,q⟩
 ·exact aV k e1 q
end
section
variable {X:Cx}{Wx:XW}{m:Mode}
theorem Sv {P:Program}{w:World}{K:Fgx}{mg:Mgx}{base:Heap}{N:List Str}{q:Str}{st:Stmt}{f:Addr}{cdv:Value}{A:Around}{outer:List PySem.Env}{s:Shared}{H:Hp}{E:XK}{i:Nat}{x:Str}{pos:Pos}(hN:N[i]? =some x:=by rfl)(hv:LV st x:=by kernel_rfl)(hd:(x==("__debug__":Str))=false:=by x_go)(hcd:(x==("__classdict__":Str))=false:=by x_go):SE (Fl P w K mg base N q st f cdv A outer s H E) Wx m (.Name x pos) (ak i):=BW hN hv hd hcd
theorem Lv {P:Program}{w:World}{K:Fgx}{mg:Mgx}{base:Heap}{N:List Str}{q:Str}{st:Stmt}{f:Addr}{cdv:Value}{A:Around}{outer:List PySem.Env}{s:Shared}{H:Hp}{E:XK}{x:Str}(hv:LV st x:=by kernel_rfl):Loc (Fl P w K mg base N q st f cdv A outer s H E).env.scope x:=.inl hv
theorem Sw {P:Program}{w:World}{K:Fgx}{mg:Mgx}{base:Heap}{N:List Str}{q:Str}{st:Stmt}{f:Addr}{cdv:Value}{A:Around}{outer:List PySem.Env}{s:Shared}{H:Hp}{E:XK}{i:Nat}{x:Str}{pos:Pos}(hN:N[i]? =some x:=by rfl)(hv:LV st x:=by kernel_rfl)(hd:(x==("__debug__":Str))=false:=by x_go)(hcd:(x==("__classdict__":Str))=false:=by x_go):SE (xP P w K mg base N q st f cdv A outer s H E) Wx m (.Name x pos) (ak i):=BW hN hv hd hcd
theorem Lw {P:Program}{w:World}{K:Fgx}{mg:Mgx}{base:Heap}{N:List Str}{q:Str}{st:Stmt}{f:Addr}{cdv:Value}{A:Around}{outer:List PySem.Env}{s:Shared}{H:Hp}{E:XK}{x:Str}(hv:LV st x:=by kernel_rfl):Loc (xP P w K mg base N q st f cdv A outer s H E).env.scope x:=.inl hv
theorem Su {i:Nat}{x:Str}{pos:Pos}(hN:X.N[i]? =some x:=by rfl)(hv:X.env.scope.names.lookup x=some .local:=by kernel_rfl)(hd:(x==("__debug__":Str))=false:=by x_go)(hcd:(x==("__classdict__":Str))=false:=by x_go):SE X Wx m (.Name x pos) (ak i):=BW hN hv hd hcd
theorem Lu {a b:Prop}(h:a:=by kernel_rfl):a\/b:=.inl h
def Ei {i:Int}{j pos}:SE X Wx m (.Constant (.int i) j pos) (aj (.int i)):=pN zgi
def Es {z:Str}{j pos}:SE X Wx m (.Constant (.str z) j pos) (aj (.str z)):=vd zhS
def Eb {b:Bool}{j pos}:SE X Wx m (.Constant (.bool b) j pos) (aj (.bl b)):=Sq zj5
def Ek {a b:Expr}{pos:Pos}{f g:E}(ha:SE X Wx .bor a f)(hb:SE X Wx .bor b g)(hs:M8 b:=by exact fun _ _=>rfl):SE X Wx m (.Subscript a b pos) (s2 aO f g):=zj2 ziH zi3 ha hb hs
def Cm {a b:Expr}{op:CmpOp}{c:Cp}{pos:Pos}{f g:E}(hu:X.A.units + 60<cLine)(ha:SE X Wx .bor a f)(hb:SE X Wx .bor b g)(ho:op=wI c:=by rfl)(hm:behindInMarks op b=false:=by rfl):SE X Wx m (.Compare a [op] [b] pos) (s2 (aF c) f g):=by subst ho;exact HW (wJ hu c) Br ha hb hm
def Ct {a b:Expr}{op:CmpOp}{c:Cp}{pos:Pos}{f g:E}(hu:X.A.units + 60<cLine)(ha:SE X Wx .bor a f)(hb:SE X Wx .bor b g)(ho:op=wI c:=by rfl)(hm:behindInMarks op b=false:=by rfl):ST X Wx (.Compare a [op] [b] pos) (s2 (aF c) f g):=by subst ho;exact zd6 (wJ hu c) Br ha hb hm
end
section
variable {P:Program}{w:World}{K:Fgx}{h base:Heap}{mg:Mgx}{k:Nat}{x:Str}{st:Stmt}{N ps:List Str}{b:S}
abbrev HB (x:Str)(st:Stmt)(ps:List Str):Prop:=∀(kV doc pm:Value) (an:Option Addr) (cdv ct:Value) (us:List Value),us.length=ps.length->bindArgs (PySem.W.fnOf x x (m_ st) (j_ st) (aY st) .none kV doc pm an cdv ct) ⟨us,[]⟩=pure (ps.zip us)
def Uw {a0:Str}(h:∀{kV doc pm:Value} {an:Option Addr} {cdv ct u0:Value},bindArgs (PySem.W.fnOf x x (m_ st) (j_ st) (aY st) .none kV doc pm an cdv ct) ⟨[u0],[]⟩=pure [(a0,u0)]):HB x st [a0]:=fun _ _ _ _ _ _ us hl=>match us,hl with | [_],_=>h
def Ux {a0 a1:Str}(h:∀{kV doc pm:Value} {an:Option Addr} {cdv ct u0 u1:Value},bindArgs (PySem.W.fnOf x x (m_ st) (j_ st) (aY st) .none kV doc pm an cdv ct) ⟨[u0,u1],[]⟩=pure [(a0,u0),(a1,u1)]):HB x st [a0,a1]:=fun _ _ _ _ _ _ us hl=>match us,hl with | [_,_],_=>h
def Uy {a0 a1 a2:Str}(h:∀{kV doc pm:Value} {an:Option Addr} {cdv ct u0 u1 u2:Value},bindArgs (PySem.W.fnOf x x (m_ st) (j_ st) (aY st) .none kV doc pm an cdv ct) ⟨[u0,u1,u2],[]⟩=pure [(a0,u0),(a1,u1),(a2,u2)]):HB x st [a0,a1,a2]:=fun _ _ _ _ _ _ us hl=>match us,hl with | [_,_,_],_=>h
def Uz {a0 a1 a2 a3:Str}(h:∀{kV doc pm:Value} {an:Option Addr} {cdv ct u0 u1 u2 u3:Value},bindArgs (PySem.W.fnOf x x (m_ st) (j_ st) (aY st) .none kV doc pm an cdv ct) ⟨[u0,u1,u2,u3],[]⟩=pure [(a0,u0),(a1,u1),(a2,u2),(a3,u3)]):HB x st [a0,a1,a2,a3]:=fun _ _ _ _ _ _ us hl=>match us,hl with | [_,_,_,_],_=>h
theorem aX.ok (F:aX K x st)(X:K.In h)(G:h.Ns mainGlobals mg)(S:FnScope N ps (aY st))(hr:∀f,RT P w K mg base k f N x st b)
  (hb:HB x st ps:=by first |exact Uw rfl |exact Ux rfl |exact Uy rfl |exact Uz rfl) (hp:ps.length<=N.length:=by decide):aR P w K mg base (k + 1) x ps.length (fH N.length b):=by
 obtain⟨f,d,D⟩:=F.at X G hb;exact D.ok S (hr f) hp
def aX.okX (F:aX K x st)(X:K.In h)(G:h.Ns mainGlobals mg)(S:FnScope N ps (aY st))(hr:∀f,Cu P w K mg base k f N x st b)
  (hb:HB x st ps:=by first |exact Uw rfl |exact Ux rfl |exact Uy rfl |exact Uz rfl) (hp:ps.length<=N.length:=by decide):lV P w K mg base (k + 1) x ps.length (fH N.length b):=by
 obtain⟨f,d,D⟩:=F.at X G hb;exact⟨_,_,_,D.mg,D.F.kp,zeQ D.F S hp (hr f),D.b⟩
def aR.up {j n:Nat}{g:G}(a:aR P w K mg base j x n g)(h:j<=k:=by decide):aR P w K mg base k x n g:=a.mono h
def lV.up {j n:Nat}{g:G}(a:lV P w K mg base j x n g)(h:j<=k:=by decide):lV P w K mg base k x n g:=a.mono h
def vo.up {j n:Nat}{C:Addr}{g:G}(a:vo P w K mg base j C n g)(h:j<=k:=by decide):vo P w K mg base k C n g:=a.mono h
def xT {K:Fgx}{t:Addr}{d m s j0 j1 j2}{a b:Str}{i:Int}(l:K.lookup t=some ⟨.type "tuple",d,.seq #[.str a j0,.str b j1,.int i j2] m,s⟩):∀P H,Is K P H (.tup [.str a,.str b,.int i]) (.ref t):=Qe (vs:=[.str a,.str b,.int i]) l rfl rfl (by show 3<=sizeLine;decide) (.cons ⟨_,rfl⟩ (.cons ⟨_,rfl⟩ (.cons ⟨_,rfl⟩ .nil))) (fun _ _=>⟨_,_,rfl,rfl,⟨_,_,rfl,rfl,⟨_,_,rfl,rfl,rfl⟩⟩⟩)
end
end E3
namespace L2
open PySem PySem.Spec PyProof.Rows
noncomputable def ziS (N:List Str) (psc:Scope) (xs:List Str) (cs:List (Str×Nat)) (scope:Scope):Bool:=
 scope.kind==.function && xs.all (fun x=>scope.names.lookup x==some .local) && decide ((xs ++ cs.map (·.1)).Nodup) &&
 scope.names.all (fun y=>y.2 !=.cell && (y.2 !=.local || scope.names.lookup y.1==some .local) && (y.2 !=.free || (psc.names.lookup y.1==some .cell || psc.names.lookup y.1==some .free))) &&
 cs.all (fun p=>N[p.2]? ==some p.1 && (psc.names.lookup p.1==some .cell || psc.names.lookup p.1==some .free) && ((lJ psc scope.names).lookup p.1==some .cell || (lJ psc scope.names).lookup p.1==some .free))
structure CompOkT (N:List Str)(psc:Scope)(xs:List Str)(cs:List (Str×Nat))(scope:Scope):Prop where
 kind:scope.kind=.function
 own:∀x∈xs,scope.names.lookup x=some .local
 nd:(xs ++ cs.map (·.1)).Nodup
 cell:∀y∈scope.names,y.2≠ .cell
 names:∀y∈scope.names,y.2=.local->scope.names.lookup y.1=some .local
 has:∀y∈scope.names,y.2=.free->psc.names.lookup y.1=some .cell\/psc.names.lookup y.1=some .free
 cap:∀p∈cs,N[p.2]? =some p.1/\(psc.names.lookup p.1=some .cell\/psc.names.lookup p.1=some .free)/\((lJ psc scope.names).lookup p.1=some .cell\/(lJ psc scope.names).lookup p.1=some .free)
end L2
namespace E3
open PySem PySem.Spec PyProof.Rows L2
section
variable {X:Cx}{Wx:XW}{m:Mode}{pos:Pos}
open Classical in
end
end E3
namespace E3
open PySem PySem.Spec PyProof.Rows L2
end E3
namespace L2
open PySem PySem.Spec PyProof.Rows
end L2
namespace E3
open PySem PySem.Spec PyProof.Rows L2
end E3
namespace L2
open PySem PySem.Spec PyProof.Rows
end L2
namespace E3
open PySem PySem.Spec PyProof.Rows L2
end E3
namespace My
open PySem PySem.Spec PyProof.Rows L2 E3
noncomputable def DN:List (Str×D):=[("+",(.tup [(.str "number"),(.str "number"),(.int 2)])),("-",(.tup [(.str "number"),(.str "number"),(.int 2)])),("*",(.tup [(.str "number"),(.str "number"),(.int 2)])),("least",(.tup [(.str "number"),(.str "number"),(.int 2)])),("most",(.tup [(.str "number"),(.str "number"),(.int 2)])),("<",(.tup [(.str "truth"),(.str "number"),(.int 2)])),("=",(.tup [(.str "truth"),(.str "number"),(.int 2)])),("not",(.tup [(.str "truth"),(.str "truth"),(.int 1)])),("and",(.tup [(.str "truth"),(.str "truth"),(.int 2)])),("or",(.tup [(.str "truth"),(.str "truth"),(.int 2)]))]
noncomputable def DK:List (Str×D):=[("in",(.int 0)),("keep",(.int 1)),("turn",(.int 1)),("share",(.int 1)),("pour",(.int 8)),("fixed",(.int 1)),("slide",(.int 1)),("gap",(.int 1)),("join",(.int 2)),("out",(.int 1))]
noncomputable def top (i:Nat):Stmt:=PySem.Challenge.pw_rowdam_k15_rows_refused.main.body.getD i (.Pass ⟨0,0,0,0⟩)
noncomputable def Ew:List Str:=["any","len","range","reversed","all","int","tuple","enumerate","str","min","list","isinstance","ValueError","bool"]
noncomputable def JH (s:Stmt) (j:Nat):Stmt:=match s with
 |.ClassDef _ _ _ body _ _ _ _ _ _ _=>body.getD j s
 |_=>s
structure Ad where
 Cond:Addr
 Expr:Addr
 DamError:Addr
 NoExpr:Addr
 NoName:Addr
 NoText:Addr
abbrev Dr:Stmt:=JH (top 3) 0
def zaM:FnScope ["self","at"] ["self","at"] (aY Dr):=⟨rfl,rfl,rfl,by x_go,rfl,by x_go,by x_go⟩
abbrev Dq:Stmt:=JH (top 4) 0
def zaO:FnScope ["self","at"] ["self","at"] (aY Dq):=⟨rfl,rfl,rfl,by x_go,rfl,by x_go,by x_go⟩
structure Txt (K:Fgx)(mg:Mgx)(C:Ad)(w:World):Prop where
 blt:∀b∈Ew,mg b=none
 cl_Cond:ClsOk K mg "Cond" C.Cond
 cl_Expr:ClsOk K mg "Expr" C.Expr
 na_Expr_parts:Af K C.Expr "parts"
 na_Cond_parts:Af K C.Cond "parts"
 xm_DamError:mg "DamError"=some (.ref C.DamError)
 xc_DamError:aU K C.DamError=true
 xm_NoExpr:mg "NoExpr"=some (.ref C.NoExpr)
 xc_NoExpr:aU K C.NoExpr=true
 xm_NoName:mg "NoName"=some (.ref C.NoName)
 xc_NoName:aU K C.NoName=true
 xm_NoText:mg "NoText"=some (.ref C.NoText)
 xc_NoText:aU K C.NoText=true
 xn_NoExpr:Iu K C.NoExpr=true
 xk_NoExpr:PySem.W.keepIn K (.ref C.NoExpr)=true
 xs_NoExpr:pX K C.NoExpr=true
 xk_NoName:PySem.W.keepIn K (.ref C.NoName)=true
 xs_NoName:pX K C.NoName=true
 xk_NoText:PySem.W.keepIn K (.ref C.NoText)=true
 xs_NoText:pX K C.NoText=true
 pk_NoExpr_NoExpr:PySem.W.kitOne K (.ref C.NoExpr) (.ref C.NoExpr)=some true
 pk_NoExpr_NoName:PySem.W.kitOne K (.ref C.NoExpr) (.ref C.NoName)=some false
 pk_NoExpr_NoText:PySem.W.kitOne K (.ref C.NoExpr) (.ref C.NoText)=some false
 pk_NoExpr_ValueError:PySem.W.kitOne K (.ref C.NoExpr) (.type "ValueError")=some true
 pk_NoName_NoExpr:PySem.W.kitOne K (.ref C.NoName) (.ref C.NoExpr)=some false
 pk_NoName_NoName:PySem.W.kitOne K (.ref C.NoName) (.ref C.NoName)=some true
 pk_NoName_NoText:PySem.W.kitOne K (.ref C.NoName) (.ref C.NoText)=some false
 pk_NoName_ValueError:PySem.W.kitOne K (.ref C.NoName) (.type "ValueError")=some true
 pk_NoText_NoExpr:PySem.W.kitOne K (.ref C.NoText) (.ref C.NoExpr)=some false
 pk_NoText_NoName:PySem.W.kitOne K (.ref C.NoText) (.ref C.NoName)=some false
 pk_NoText_NoText:PySem.W.kitOne K (.ref C.NoText) (.ref C.NoText)=some true
 pk_NoText_ValueError:PySem.W.kitOne K (.ref C.NoText) (.type "ValueError")=some true
 qk_NoExpr_DamError:gn K C.NoExpr C.DamError=true
 qk_NoExpr_NoExpr:gn K C.NoExpr C.NoExpr=true
 qk_NoName_DamError:gn K C.NoName C.DamError=true
 qk_NoName_NoName:gn K C.NoName C.NoName=true
 qk_NoText_DamError:gn K C.NoText C.DamError=true
 qk_NoText_NoText:gn K C.NoText C.NoText=true
 qn_NoExpr_NoName:gn K C.NoExpr C.NoName=false
 qn_NoExpr_NoText:gn K C.NoExpr C.NoText=false
 qn_NoName_NoText:gn K C.NoName C.NoText=false
 qn_NoText_NoName:gn K C.NoText C.NoName=false
 xb_DamError:Ck K C.DamError=true
 xa_NoName:sE K C.NoName "at"=true
 o_NoName:∃f fd,Cq K C.NoName f=true/\FunD K "__init__" "NoName.__init__" Dq f fd/\Binds K fd ["self","at"] []
 xa_NoText:sE K C.NoText "at"=true
 o_NoText:∃f fd,Cq K C.NoText f=true/\FunD K "__init__" "NoText.__init__" Dr f fd/\Binds K fd ["self","at"] []
 k_ALL_LETTERS:∃a,mg "ALL_LETTERS"=some (.ref a)/\∀P H,Is K P H (.tup [(.str "t"),(.str "v"),(.str "w")]) (.ref a)
 k_FOLDS:∃a,mg "FOLDS"=some (.ref a)/\∀P H,Is K P H (.tup [(.str "sum"),(.str "count"),(.str "most"),(.str "least")]) (.ref a)
 k_NEEDS:∃a,mg "NEEDS"=some (.ref a)/\KTab K w a DN
 k_FROMS:∃a,mg "FROMS"=some (.ref a)/\KTab K w a DK
 k_FIGURES:∃t,mg "FIGURES"=some (.str "0123456789" t)
 k_MOST_FIGURES:∃t,mg "MOST_FIGURES"=some (.int 20 t)
 k_LETTERS:∃t,mg "LETTERS"=some (.str "abcdefghijklmnopqrstuvwxyz" t)
 k_COND_LETTERS:∃t,mg "COND_LETTERS"=some (.str "tv" t)
 k_MOST_SIGNS:∃t,mg "MOST_SIGNS"=some (.int 12 t)
 k_MOST_SHARES:∃t,mg "MOST_SHARES"=some (.int 8 t)
 k_MOST_SPREAD:∃t,mg "MOST_SPREAD"=some (.int 8 t)
 k_MOST_SPAN:∃t,mg "MOST_SPAN"=some (.int 1000000000000 t)
structure MetAt (K:Fgx)(C:Addr)(x q:Str)(st:Stmt)(ps:List Str)(f:Addr)(fd:FuncData):Prop where
 M:Meth K C x f
 F:FunD K x q st f fd
 b:Binds K fd ps []
structure IniAt (K:Fgx)(C:Addr)(q:Str)(st:Stmt)(ps:List Str)(f:Addr)(fd:FuncData):Prop where
 M:Mk K C f
 F:FunD K "__init__" q st f fd
 b:Binds K fd ps []
structure MetAtD (K:Fgx)(C:Addr)(x q:Str)(st:Stmt)(ps:List Str)(dd:List D)(f:Addr)(fd:FuncData):Prop where
 M:Meth K C x f
 F:FunD K x q st f fd
 b:Binds K fd ps []
 bd:∃(dv:List V) (du:List Value),Binds K fd ps du/\Vals dv du/\(∀P H,aH K P H dd dv)/\dv.length=dd.length
noncomputable def Kh (c:Str):Bool:=if c="NoName" then true else if c="NoText" then true else false
def YC {K:Fgx}{mg:Mgx}{C:Ad}{w:World}(T:Txt K mg C w):∀c D,Kh c=true->mg c=some (.ref D)->sE K D "at"=true:=by
 intro c D h m;unfold Kh at h;split at h
 ·rename_i e;subst e;cases (T.xm_NoName).symm.trans m;exact T.xa_NoName
 split at h
 ·rename_i e;subst e;cases (T.xm_NoText).symm.trans m;exact T.xa_NoText
 cases h
noncomputable def DG (c:Str):Option Bool:=if c="NoExpr" then some true else if c="NoName" then some false else if c="NoText" then some false else none
def zax {K:Fgx}{mg:Mgx}{C:Ad}{w:World}(T:Txt K mg C w):∀c b,DG c=some b->∃D,mg c=some (.ref D)/\pX K D=true/\PySem.W.kitOne K (.ref D) (.ref C.NoExpr)=some b:=by
 intro c b h;unfold DG at h;split at h
 ·rename_i e;subst e;cases h;exact⟨_,T.xm_NoExpr,T.xs_NoExpr,T.pk_NoExpr_NoExpr⟩
 split at h
 ·rename_i e;subst e;cases h;exact⟨_,T.xm_NoName,T.xs_NoName,T.pk_NoName_NoExpr⟩
 split at h
 ·rename_i e;subst e;cases h;exact⟨_,T.xm_NoText,T.xs_NoText,T.pk_NoText_NoExpr⟩
 cases h
noncomputable def Mp (c:Str):Option Bool:=if c="NoExpr" then some false else if c="NoName" then some true else if c="NoText" then some false else none
def zbj {K:Fgx}{mg:Mgx}{C:Ad}{w:World}(T:Txt K mg C w):∀c b,Mp c=some b->∃D,mg c=some (.ref D)/\pX K D=true/\PySem.W.kitOne K (.ref D) (.ref C.NoName)=some b:=by
 intro c b h;unfold Mp at h;split at h
 ·rename_i e;subst e;cases h;exact⟨_,T.xm_NoExpr,T.xs_NoExpr,T.pk_NoExpr_NoName⟩
 split at h
 ·rename_i e;subst e;cases h;exact⟨_,T.xm_NoName,T.xs_NoName,T.pk_NoName_NoName⟩
 split at h
 ·rename_i e;subst e;cases h;exact⟨_,T.xm_NoText,T.xs_NoText,T.pk_NoText_NoName⟩
 cases h
noncomputable def Mq (c:Str):Option Bool:=if c="NoExpr" then some false else if c="NoName" then some false else if c="NoText" then some true else none
def zbd {K:Fgx}{mg:Mgx}{C:Ad}{w:World}(T:Txt K mg C w):∀c b,Mq c=some b->∃D,mg c=some (.ref D)/\pX K D=true/\PySem.W.kitOne K (.ref D) (.ref C.NoText)=some b:=by
 intro c b h;unfold Mq at h;split at h
 ·rename_i e;subst e;cases h;exact⟨_,T.xm_NoExpr,T.xs_NoExpr,T.pk_NoExpr_NoText⟩
 split at h
 ·rename_i e;subst e;cases h;exact⟨_,T.xm_NoName,T.xs_NoName,T.pk_NoName_NoText⟩
 split at h
 ·rename_i e;subst e;cases h;exact⟨_,T.xm_NoText,T.xs_NoText,T.pk_NoText_NoText⟩
 cases h
noncomputable def Mr (c:Str):Option Bool:=if c="NoExpr" then some true else if c="NoName" then some true else if c="NoText" then some true else none
def zaA {K:Fgx}{mg:Mgx}{C:Ad}{w:World}(T:Txt K mg C w):∀c b,Mr c=some b->∃D,mg c=some (.ref D)/\pX K D=true/\PySem.W.kitOne K (.ref D) (.type "ValueError")=some b:=by
 intro c b h;unfold Mr at h;split at h
 ·rename_i e;subst e;cases h;exact⟨_,T.xm_NoExpr,T.xs_NoExpr,T.pk_NoExpr_ValueError⟩
 split at h
 ·rename_i e;subst e;cases h;exact⟨_,T.xm_NoName,T.xs_NoName,T.pk_NoName_ValueError⟩
 split at h
 ·rename_i e;subst e;cases h;exact⟨_,T.xm_NoText,T.xs_NoText,T.pk_NoText_ValueError⟩
 cases h
noncomputable def Jp (c:Str):Bool:=if c="NoExpr" then true else if c="NoName" then true else if c="NoText" then true else false
def zaE {K:Fgx}{mg:Mgx}{C:Ad}{w:World}(T:Txt K mg C w):∀c,Jp c=true->∃D,mg c=some (.ref D)/\aU K D=true/\gn K D C.DamError=true:=by
 intro c h;unfold Jp at h;split at h
 ·rename_i e;subst e;exact⟨_,T.xm_NoExpr,T.xc_NoExpr,T.qk_NoExpr_DamError⟩
 split at h
 ·rename_i e;subst e;exact⟨_,T.xm_NoName,T.xc_NoName,T.qk_NoName_DamError⟩
 split at h
 ·rename_i e;subst e;exact⟨_,T.xm_NoText,T.xc_NoText,T.qk_NoText_DamError⟩
 cases h
noncomputable def Jq (c:Str):Bool:=if c="NoExpr" then true else false
def Vj {K:Fgx}{mg:Mgx}{C:Ad}{w:World}(T:Txt K mg C w):∀c,Jq c=true->∃D,mg c=some (.ref D)/\aU K D=true/\gn K D C.NoExpr=true:=by
 intro c h;unfold Jq at h;split at h
 ·rename_i e;subst e;exact⟨_,T.xm_NoExpr,T.xc_NoExpr,T.qk_NoExpr_NoExpr⟩
 cases h
noncomputable def EY (c:Str):Option Bool:=if c="NoExpr" then some false else if c="NoName" then some true else if c="NoText" then some false else none
def za0 {K:Fgx}{mg:Mgx}{C:Ad}{w:World}(T:Txt K mg C w):∀c b,EY c=some b->∃D,mg c=some (.ref D)/\aU K D=true/\gn K D C.NoName=b:=by
 intro c b h;unfold EY at h;split at h
 ·rename_i e;subst e;cases h;exact⟨_,T.xm_NoExpr,T.xc_NoExpr,T.qn_NoExpr_NoName⟩
 split at h
 ·rename_i e;subst e;cases h;exact⟨_,T.xm_NoName,T.xc_NoName,T.qk_NoName_NoName⟩
 split at h
 ·rename_i e;subst e;cases h;exact⟨_,T.xm_NoText,T.xc_NoText,T.qn_NoText_NoName⟩
 cases h
noncomputable def Ak (c:Str):Option Bool:=if c="NoExpr" then some false else if c="NoName" then some false else if c="NoText" then some true else none
def za1 {K:Fgx}{mg:Mgx}{C:Ad}{w:World}(T:Txt K mg C w):∀c b,Ak c=some b->∃D,mg c=some (.ref D)/\aU K D=true/\gn K D C.NoText=b:=by
 intro c b h;unfold Ak at h;split at h
 ·rename_i e;subst e;cases h;exact⟨_,T.xm_NoExpr,T.xc_NoExpr,T.qn_NoExpr_NoText⟩
 split at h
 ·rename_i e;subst e;cases h;exact⟨_,T.xm_NoName,T.xc_NoName,T.qn_NoName_NoText⟩
 split at h
 ·rename_i e;subst e;cases h;exact⟨_,T.xm_NoText,T.xc_NoText,T.qk_NoText_NoText⟩
 cases h
noncomputable def Qf (t:String):Option Bool:=if t="int" then some false else if t="bool" then some true else if t="str" then some false else if t="list" then some false else if t="tuple" then some false else if t="NoneType" then some false else if t="dict" then some false else none
theorem zbk {K:Fgx}:∀t b,Qf t=some b->PySem.W.kitOne K (.type t) (.type "bool")=some b:=by
 intro t b h;unfold Qf at h;split at h
 ·rename_i e;subst e;cases h;kernel_rfl
 split at h
 ·rename_i e;subst e;cases h;kernel_rfl
 split at h
 ·rename_i e;subst e;cases h;kernel_rfl
 split at h
 ·rename_i e;subst e;cases h;kernel_rfl
 split at h
 ·rename_i e;subst e;cases h;kernel_rfl
 split at h
 ·rename_i e;subst e;cases h;kernel_rfl
 split at h
 ·rename_i e;subst e;cases h;kernel_rfl
 cases h
def nj (t T:String):Option Bool:=if T="bool" then Qf t else none
def zbW:nj "int" "bool"=some false:=by x_go
def zeC:nj "bool" "bool"=some true:=by x_go
def zfQ:nj "str" "bool"=some false:=by x_go
def zfu:nj "list" "bool"=some false:=by x_go
def zdV:nj "tuple" "bool"=some false:=by x_go
def zcM:nj "NoneType" "bool"=some false:=by x_go
def zfv:nj "dict" "bool"=some false:=by x_go
def zeJ {K:Fgx}:∀t T b,nj t T=some b->PySem.W.kitOne K (.type t) (.type T)=some b:=by
 intro t T b h;unfold nj at h;split at h
 ·rename_i e;subst e;exact zbk t b h
 cases h
abbrev K9:Stmt:=top 9
def zam:FnScope ["text"] ["text"] (aY K9):=gh
def O8:E:=(s2 (aF .notin) (ak 0) (aj (.str "0123456789")))
noncomputable def Ob:S:=(ao (fB (nM (s2 (aF .eq) (ak 0) (aj (.str ""))) (gQ (sN yD (au (rm [] (Gv (ak 0)) (aj (.bl true)) O8) aq)))) (ao (aK (aj (.bl false))) aC) aC) (ao (aK (nM (s2 (aF .eq) (ak 0) (aj (.str "0"))) (s2 (aF .ne) (s2 aO (ak 0) (aj (.int 0))) (aj (.str "0"))))) aC))
def Ay:G:=fH 1 Ob
abbrev Lh:Stmt:=top 10
def zaa:FnScope ["text","figures"] ["text"] (aY Lh):=gh
noncomputable def Oj:S:=(ao (aM 1 (yZ (gQ (n_ Mj (ak 0) (au (aj (.str "-")) aq))) (su (ak 0) (nJ (aj (.int 1))) t_) (ak 0))) (ao (aK (fL (s2 (aF .ne) (ak 0) (aj (.str "-0"))) (fu Ay (au (ak 1) aq)))) aC))
def Gp:G:=fH 2 Oj
abbrev K6:Stmt:=top 11
def zaB:FnScope ["text"] ["text"] (aY K6):=gh
noncomputable def N_:S:=(ao (aK (fL (s2 (aF .le) (sN eU (au (ak 0) aq)) (aj (.int 20))) (fu Ay (au (ak 0) aq)))) aC)
def Gg:G:=fH 1 N_
abbrev Ld:Stmt:=top 12
def zar:FnScope ["text"] ["text"] (aY Ld):=gh
noncomputable def Og:S:=(ao (aK (fL (fu Gp (au (ak 0) aq)) (s2 (aF .le) (sN eU (au (n_ Mi (ak 0) (au (aj (.str "-")) aq)) aq)) (aj (.int 20))))) aC)
def Gk:G:=fH 1 Og
abbrev La:Stmt:=top 18
def zaT:FnScope ["word","letters"] ["word","letters"] (aY La):=gh
noncomputable def Od:S:=(ao (aK (nM (fu Gk (au (ak 0) aq)) (fL (s2 (aF .isin) (ak 0) (aj (.tup [(.str "t"),(.str "v"),(.str "w")]))) (s2 (aF .isin) (ak 0) (ak 1))))) aC)
def Gi:G:=fH 2 Od
abbrev Ls:Stmt:=top 19
def zai:FnScope ["word","kinds","needed","place"] ["word","kinds"] (aY Ls):=gh
noncomputable def Qm:S:=(ao (fB (nM (lq (gQ (ak 1))) (s2 (aF .ne) (wY (ak 1)) (s2 aO (ak 2) (aj (.int 1))))) (ao (za "NoExpr" (pL (tY (ak 0) (pD " needs other words behind it" pF)))) aC) aC) aC)
noncomputable def Ot:S:=(ao (aM 2 (BK DN (ak 0))) (ao (sY 3 (yK (au (s2 aO (ak 2) (aj (.int 2))) aq)) Qm) aC))
def CV:G:=fH 4 Ot
abbrev KY:Stmt:=top 20
def Z_:FnScope ["words","letters","wanted","kinds","word"] ["words","letters","wanted"] (aY KY):=gh
noncomputable def zU:S:=(ao (fB (tu true DN (ak 4)) (ao (wj (xZ CV (au (ak 4) (au (ak 3) aq)))) (ao (Bx (ak 3) (s2 aO (BK DN (ak 4)) (aj (.int 0)))) aC)) (ao (fB (gQ (fu Gi (au (ak 4) (au (ak 1) aq)))) (ao (Bx (ak 3) (aj (.str "number"))) aC) (ao (za "NoExpr" (pL (wO (ak 4) (pD " may not stand here" pF)))) aC)) aC)) aC)
noncomputable def N6:S:=(ao (aM 3 (yc (eV aq))) (ao (sY 4 (yL (au (ak 0) aq)) zU) (ao (fB (s2 (aF .ne) (ak 3) (eV (au (ak 2) aq))) (ao (za "NoExpr" (aj (.str "too many words, or too few"))) aC) aC) aC)))
def zR:G:=fH 5 N6
abbrev z7:Stmt:=JH (top 21) 0
def ZP:FnScope ["self","words"] ["self","words"] (aY z7):=gh
def Jd:S:=(ao (Dn "Expr" "parts" (ak 0) (sN lD (au (ak 1) aq))) aC)
def Fz:G:=fH 2 Jd
abbrev Lp:Stmt:=top 23
def zau:FnScope ["words","letters"] ["words","letters"] (aY Lp):=gh
noncomputable def Jl:S:=(ao (wj (xZ zR (au (ak 0) (au (ak 1) (au (aj (.str "number")) aq))))) (ao (aK (Dl "Expr" Fz (au (ak 0) aq))) aC))
def Ba:G:=fH 2 Jl
abbrev z6:Stmt:=JH (top 22) 0
def ZM:FnScope ["self","words"] ["self","words"] (aY z6):=gh
def Jc:S:=(ao (Dn "Cond" "parts" (ak 0) (sN lD (au (ak 1) aq))) aC)
def Fy:G:=fH 2 Jc
abbrev Lk:Stmt:=top 24
def zat:FnScope ["words"] ["words"] (aY Lk):=gh
noncomputable def Jk:S:=(ao (wj (xZ zR (au (ak 0) (au (aj (.str "tv")) (au (aj (.str "truth")) aq))))) (ao (aK (Dl "Cond" Fy (au (ak 0) aq))) aC))
def A_:G:=fH 1 Jk
abbrev Lb:Stmt:=top 32
def zaQ:FnScope ["text"] ["text"] (aY Lb):=gh
noncomputable def O9:E:=(nM (s2 (aF .isin) (ak 0) (aj (.str "abcdefghijklmnopqrstuvwxyz"))) (s2 (aF .isin) (ak 0) (aj (.str "0123456789"))))
noncomputable def Oe:S:=(ao (fB (nM (lq (lU .le .le (aj (.int 1)) (sN eU (au (ak 0) aq)) (aj (.int 12)))) (s2 (aF .notin) (s2 aO (ak 0) (aj (.int 0))) (aj (.str "abcdefghijklmnopqrstuvwxyz")))) (ao (aK (aj (.bl false))) aC) aC) (ao (aK (sN tR (au (rm [] (Gv (ak 0)) (aj (.bl true)) O9) aq))) aC))
def Gj:G:=fH 1 Oe
abbrev K7:Stmt:=top 33
def zab:FnScope ["text","least","most"] ["text","least","most"] (aY K7):=gh
noncomputable def Oa:S:=(ao (aK (fL (fu Gg (au (ak 0) aq)) (lU .le .le (ak 1) (sN sI (au (ak 0) aq)) (ak 2)))) aC)
def vp:G:=fH 3 Oa
abbrev K8:Stmt:=top 34
def zaS:FnScope ["words","letters"] ["words","letters"] (aY K8):=gh
def Ut:S:=(wj (xZ Ba (au (ak 0) (au (ak 1) aq))))
def Wt:S:=(ao (aK (aj (.bl false))) aC)
def Jh:S:=(ao (zZ Jq Ut Wt) (ao (aK (aj (.bl true))) aC))
def zT:G:=fH 2 Jh
abbrev K5:Stmt:=top 35
def zaR:FnScope ["words"] ["words"] (aY K5):=gh
def Us:S:=(wj (xZ A_ (au (ak 0) aq)))
def Ws:S:=(ao (aK (aj (.bl false))) aC)
def Jg:S:=(ao (zZ Jq Us Ws) (ao (aK (aj (.bl true))) aC))
def CQ:G:=fH 1 Jg
abbrev Lg:Stmt:=top 36
def zag:FnScope ["rest"] ["rest"] (aY Lg):=gh
noncomputable def Oi:S:=(ao (fB (nM (s2 (aF .ne) (sN eU (au (ak 0) aq)) (aj (.int 2))) (lq (gQ (fu vp (au (s2 aO (ak 0) (aj (.int 1))) (au (aj (.int 1)) (au (aj (.int 8)) aq))))))) (ao (aK (aj (.bl false))) aC) aC) (ao (aK (fu vp (au (s2 aO (ak 0) (aj (.int 0))) (au (aj (.int 0)) (au (s2 lH (sN sI (au (s2 aO (ak 0) (aj (.int 1))) aq)) (aj (.int 1))) aq))))) aC))
def Gn:G:=fH 1 Oi
abbrev Lj:Stmt:=top 37
def zad:FnScope ["rest"] ["rest"] (aY Lj):=gh
noncomputable def Om:S:=(ao (aK (fL (s2 (aF .eq) (sN eU (au (ak 0) aq)) (aj (.int 2))) (fL (fu vp (au (s2 aO (ak 0) (aj (.int 0))) (au (aj (.int 1)) (au (aj (.int 1000000000000)) aq)))) (s2 (aF .isin) (s2 aO (ak 0) (aj (.int 1))) (aj (.tup [(.str "sum"),(.str "count"),(.str "most"),(.str "least")])))))) aC)
def Az:G:=fH 1 Om
abbrev Li:Stmt:=top 38
def zaf:FnScope ["rest","width"] ["rest"] (aY Li):=gh
noncomputable def Ol:S:=(ao (fB (nM (s2 (aF .ne) (sN eU (au (ak 0) aq)) (aj (.int 3))) (lq (gQ (fu Az (au (aW (au (s2 aO (ak 0) (aj (.int 0))) (au (s2 aO (ak 0) (aj (.int 2))) aq))) aq))))) (ao (aK (aj (.bl false))) aC) aC) (ao (aM 1 (sN sI (au (s2 aO (ak 0) (aj (.int 0))) aq))) (ao (aK (fL (fu vp (au (s2 aO (ak 0) (aj (.int 1))) (au (aj (.int 1)) (au (ak 1) aq)))) (s2 (aF .le) (ak 1) (s2 fY (aj (.int 8)) (sN sI (au (s2 aO (ak 0) (aj (.int 1))) aq)))))) aC)))
def Gq:G:=fH 2 Ol
abbrev K_:Stmt:=top 39
def zah:FnScope ["rest"] ["rest"] (aY K_):=gh
noncomputable def Oc:S:=(ao (fB (nM (s2 (aF .lt) (sN eU (au (ak 0) aq)) (aj (.int 1))) (lq (gQ (fu vp (au (s2 aO (ak 0) (aj (.int 0))) (au (aj (.int 0)) (au (aj (.int 1000000000000)) aq))))))) (ao (aK (aj (.bl false))) aC) aC) (ao (aK (fu zT (au (zc (ak 0) (nJ (aj (.int 1))) t_) (au (aj (.str "tvw")) aq)))) aC))
def Gh:G:=fH 1 Oc
abbrev Le:Stmt:=top 40
def zao:FnScope ["word","rest"] ["word","rest"] (aY Le):=gh
noncomputable def Oh:S:=(ao (fB (s2 (aF .eq) (ak 0) (aj (.str "keep"))) (ao (aK (fu CQ (au (ak 1) aq))) aC) aC) (ao (fB (s2 (aF .eq) (ak 0) (aj (.str "turn"))) (ao (aK (fu zT (au (ak 1) (au (aj (.str "tv")) aq)))) aC) aC) (ao (fB (s2 (aF .eq) (ak 0) (aj (.str "share"))) (ao (aK (fu Gn (au (ak 1) aq))) aC) aC) (ao (fB (s2 (aF .eq) (ak 0) (aj (.str "slide"))) (ao (aK (fu Gq (au (ak 1) aq))) aC) aC) (ao (fB (s2 (aF .isin) (ak 0) (aW (au (aj (.str "fixed")) (au (aj (.str "gap")) aq)))) (ao (aK (fu Az (au (ak 1) aq))) aC) aC) (ao (fB (s2 (aF .eq) (ak 0) (aj (.str "join"))) (ao (aK (fu Gh (au (ak 1) aq))) aC) aC) (ao (aK (s2 (aF .eq) (ak 1) (aW aq))) aC)))))))
def Gm:G:=fH 2 Oh
abbrev Lr:Stmt:=top 41
def za7:FnScope ["words","behind"] ["words"] (aY Lr):=gh
noncomputable def Oq:S:=(ao (aM 1 (s2 aN (aj (.int 2)) (BK DK (s2 aO (ak 0) (aj (.int 0)))))) (ao (aK (aW (au (s2 aO (ak 0) (aj (.int 0))) (au (s2 aO (ak 0) (aj (.int 1))) (au (sN lD (au (su (ak 0) (nJ (aj (.int 2))) (nJ (ak 1))) aq)) (au (sN lD (au (su (ak 0) (nJ (ak 1)) t_) aq)) aq)))))) aC))
def Bb:G:=fH 2 Oq
abbrev KZ:Stmt:=top 42
def zae:FnScope ["row"] ["row"] (aY KZ):=gh
noncomputable def N7:S:=(ao (fB (s2 (aF .eq) (s2 aO (ak 0) (aj (.int 0))) (aj (.str "pour"))) (ao (aK (s2 (aF .ge) (sN eU (au (s2 aO (ak 0) (aj (.int 2))) aq)) (aj (.int 2)))) aC) aC) (ao (aK (s2 (aF .eq) (sN eU (au (s2 aO (ak 0) (aj (.int 2))) aq)) (BK DK (s2 aO (ak 0) (aj (.int 0)))))) aC))
def Gd:G:=fH 1 N7
abbrev Lf:Stmt:=top 43
def za5:FnScope ["words","row"] ["words"] (aY Lf):=gh
def JB:E:=(fu Gj (au (ak 0) aq))
noncomputable def Ji:S:=(ao (fB (nM (s2 (aF .lt) (sN eU (au (ak 0) aq)) (aj (.int 2))) (tu false DK (s2 aO (ak 0) (aj (.int 0))))) (ao (aK (aj (.bl false))) aC) aC) (ao (aM 1 (fu Bb (au (ak 0) aq))) (ao (fB (nM (lq (gQ (fu Gd (au (ak 1) aq)))) (lq (gQ (sN tR (au (rm [] (Gu (s2 Ke (aW (au (s2 aO (ak 1) (aj (.int 1))) aq)) (s2 aO (ak 1) (aj (.int 2))))) (aj (.bl true)) JB) aq))))) (ao (aK (aj (.bl false))) aC) aC) (ao (aK (fu Gm (au (s2 aO (ak 1) (aj (.int 0))) (au (s2 aO (ak 1) (aj (.int 3))) aq)))) aC))))
def CT:G:=fH 2 Ji
abbrev K4:Stmt:=top 44
def zac:FnScope ["row","words_above"] ["row","words_above"] (aY K4):=gh
noncomputable def Jz:E:=(s2 (aF .ne) (Ht (ak 1) (ak 0) (aj (.str "out"))) (aj (.str "out")))
noncomputable def N8:S:=(ao (fB (u6 true (s2 aO (ak 0) (aj (.int 1))) (ak 1)) (ao (aK (aj (.bl false))) aC) aC) (ao (aK (sN tR (au (rm [("words_above",1)] (Gu (s2 aO (ak 0) (aj (.int 2)))) (aj (.bl true)) Jz) aq))) aC))
def Ge:G:=fH 2 N8
abbrev Lq:Stmt:=top 45
def zan:FnScope ["text","works","words_above","at","line","words","row"] ["text"] (aY Lq):=gh
noncomputable def Bk:S:=(ao (aM 5 (n_ yq (ak 4) (au (aj (.str " ")) aq))) (ao (fB (lq (gQ (fu CT (au (ak 5) aq)))) (ao (Hw "NoText" (ak 3)) aC) aC) (ao (aM 6 (fu Bb (au (ak 5) aq))) (ao (fB (lq (gQ (fu Ge (au (ak 6) (au (ak 2) aq))))) (ao (Hw "NoName" (ak 3)) aC) aC) (ao (Hu (ak 2) (s2 aO (ak 6) (aj (.int 1))) (s2 aO (ak 6) (aj (.int 0)))) (ao (iB 1 (ak 6)) aC))))))
noncomputable def Oo:S:=(ao (u_ 1 (eV aq)) (ao (aM 2 (BJ Bp)) (ao (Hv [3,4] (au (n_ yq (ak 0) (au (aj (.str "\n")) aq)) aq) Bk) (ao (wX 1) (ao (aK (ak 1)) aC)))))
def tW:G:=fH 7 Oo
abbrev Kw:Stmt:=top 47
def ZR:FnScope ["_law_script","_law_k"] ["_law_script","_law_k"] (aY Kw):=gh
noncomputable def Nq:S:=(ao (fB (s2 (aF .lt) (ak 1) (sN eU (au (ak 0) aq))) (ao (aK (s2 aO (ak 0) (ak 1))) aC) aC) (ao (aK (aj (.int 0))) aC))
def wK:G:=fH 2 Nq
abbrev Kz:Stmt:=top 49
def ZW:FnScope ["_law_number","_law_many","_law_found","_law_x","_law_k"] ["_law_number","_law_many"] (aY Kz):=gh
noncomputable def JN:S:=(ao (aM 3 (s2 oMod (s2 aN (s2 aN (s2 aN (s2 fY (ak 3) (ak 3)) (s2 fY (aj (.int 40692)) (ak 3))) (s2 fY (aj (.int 2)) (ak 4))) (aj (.int 1))) (aj (.int 2147483629)))) (ao (iB 2 (s2 lR (ak 3) (aj (.int 3)))) aC))
noncomputable def Nt:S:=(ao (u_ 2 (eV aq)) (ao (aM 3 (s2 oMod (ak 0) (aj (.int 2147483629)))) (ao (sY 4 (yK (au (ak 1) aq)) JN) (ao (sZ 2) (ao (aK (ak 2)) aC)))))
def xR:G:=fH 5 Nt
abbrev Ky:Stmt:=top 48
def ZS:FnScope ["_law_script","_law_first"] ["_law_script"] (aY Ky):=gh
noncomputable def Je:S:=(ao (aM 1 (fu wK (au (ak 0) (au (aj (.int 0)) aq)))) (ao (fB (s2 (aF .eq) (s2 oMod (ak 1) (aj (.int 8))) (aj (.int 1))) (ao (aK (fu xR (au (s2 lR (ak 1) (aj (.int 8))) (au (s2 aN (aj (.int 1)) (s2 oMod (s2 lR (ak 1) (aj (.int 8))) (aj (.int 40)))) aq)))) aC) aC) (ao (aK (s2 aN (eV (au (s2 lR (ak 1) (aj (.int 8))) aq)) (su (ak 0) (nJ (aj (.int 1))) (nJ (aj (.int 12)))))) aC)))
def CN:G:=fH 2 Je
abbrev KD:Stmt:=top 50
def Z1:FnScope ["_law_x","_law_letters","_law_number"] ["_law_x","_law_letters"] (aY KD):=gh
def XS:S:=(ao (aK (sN kI (au (ak 2) aq))) aC)
noncomputable def JW:S:=(ao (fB (fL (s2 (aF .eq) (s2 oMod (s2 lR (ak 0) (aj (.int 2))) (aj (.int 2))) (aj (.int 1))) (s2 (aF .gt) (ak 2) (aj (.int 0)))) (ao (aK (s2 aN (aj (.str "-")) (sN kI (au (ak 2) aq)))) aC) aC) XS)
noncomputable def XR:S:=(ao (aM 2 (s2 oMod (s2 fY (s2 fY (s2 fY (ak 0) (aj (.int 1000003))) (aj (.int 104729))) (aj (.int 7919))) (s2 aO (eV (au (aj (.int 10)) (au (aj (.int 100)) (au (s2 pI (aj (.int 10)) (aj (.int 6))) (au (s2 pI (aj (.int 10)) (aj (.int 12))) (au (s2 pI (aj (.int 10)) (aj (.int 20))) aq)))))) (s2 oMod (s2 lR (ak 0) (aj (.int 9))) (aj (.int 5)))))) JW)
noncomputable def Jf:S:=(ao (fB (fL (s2 (aF .gt) (s2 oMod (ak 0) (aj (.int 3))) (aj (.int 0))) (s2 (aF .ne) (ak 1) (aj (.str "")))) (ao (aK (s2 aO (ak 1) (s2 oMod (s2 lR (ak 0) (aj (.int 3))) (sN eU (au (ak 1) aq))))) aC) aC) XR)
def yH:G:=fH 3 Jf
abbrev HJ:Stmt:=top 51
def ZX:FnScope ["_law_number","_law_letters","_law_most","_law_words","_law_need","_law_x","_law_pick"] ["_law_number","_law_letters","_law_most"] (aY HJ):=gh
theorem zaj:LV HJ "_law_words":=by kernel_rfl
def T4:E:=(s2 (aF .gt) (ak 4) (aj (.int 0)))
noncomputable def Dc:S:=(ao (aM 5 (s2 oMod (s2 aN (s2 aN (s2 aN (s2 fY (ak 5) (ak 5)) (s2 fY (aj (.int 40692)) (ak 5))) (sN eU (au (yd 3) aq))) (aj (.int 1))) (aj (.int 2147483629)))) (ao (aM 6 (s2 lR (ak 5) (aj (.int 7)))) (ao (fB (fL (s2 (aF .eq) (s2 oMod (ak 6) (aj (.int 2))) (aj (.int 1))) (s2 (aF .le) (s2 aN (s2 aN (sN eU (au (yd 3) aq)) (ak 4)) (aj (.int 2))) (ak 2))) (ao (iB 3 (s2 aO (eV (au (aj (.str "+")) (au (aj (.str "-")) (au (aj (.str "*")) (au (aj (.str "least")) (au (aj (.str "most")) aq)))))) (s2 oMod (s2 lR (ak 6) (aj (.int 2))) (aj (.int 5))))) (ao (aM 4 (s2 aN (ak 4) (aj (.int 1)))) aC)) (ao (iB 3 (fu yH (au (s2 lR (ak 6) (aj (.int 2))) (au (ak 1) aq)))) (ao (aM 4 (s2 lH (ak 4) (aj (.int 1)))) aC))) aC)))
noncomputable def Nu:S:=(ao (u_ 3 (eV aq)) (ao (aM 4 (aj (.int 1))) (ao (aM 5 (s2 oMod (ak 0) (aj (.int 2147483629)))) (ao (Dp 1000 T4 Dc) (ao (sZ 3) (ao (aK (ak 3)) aC))))))
def CP:G:=fH 7 Nu
abbrev HF:Stmt:=top 52
def ZV:FnScope ["_law_number","_law_most","_law_words","_law_pending","_law_room","_law_x","_law_pick","_law_kind"] ["_law_number","_law_most"] (aY HF):=gh
theorem zaP:LV HF "_law_words":=by kernel_rfl
def Xz:S:=(ao (sZ 2) (ao (aK (ak 2)) aC))
noncomputable def zW:S:=(ao (fB (fL (s2 (aF .eq) (ak 7) (aj (.str "cond"))) (fL (s2 (aF .ge) (ak 4) (aj (.int 4))) (s2 (aF .eq) (s2 oMod (ak 6) (aj (.int 4))) (aj (.int 1))))) (ao (iB 2 (s2 aO (eV (au (aj (.str "and")) (au (aj (.str "or")) aq))) (s2 oMod (s2 lR (ak 6) (aj (.int 4))) (aj (.int 2))))) (ao (aM 3 (yc (s2 pH (ak 3) (eV (au (aj (.str "cond")) (au (aj (.str "cond")) aq)))))) (ao (aM 4 (s2 lH (ak 4) (aj (.int 4)))) aC))) (ao (fB (fL (s2 (aF .eq) (ak 7) (aj (.str "cond"))) (fL (s2 (aF .ge) (ak 4) (aj (.int 1))) (s2 (aF .eq) (s2 oMod (ak 6) (aj (.int 4))) (aj (.int 2))))) (ao (iB 2 (aj (.str "not"))) (ao (Bx (ak 3) (aj (.str "cond"))) (ao (aM 4 (s2 lH (ak 4) (aj (.int 1)))) aC))) (ao (fB (s2 (aF .eq) (ak 7) (aj (.str "cond"))) (ao (iB 2 (s2 aO (eV (au (aj (.str "<")) (au (aj (.str "=")) aq))) (s2 oMod (s2 lR (ak 6) (aj (.int 4))) (aj (.int 2))))) (ao (aM 3 (yc (s2 pH (ak 3) (eV (au (aj (.str "expr")) (au (aj (.str "expr")) aq)))))) aC)) (ao (fB (fL (s2 (aF .ge) (ak 4) (aj (.int 2))) (s2 (aF .eq) (s2 oMod (ak 6) (aj (.int 3))) (aj (.int 1)))) (ao (iB 2 (s2 aO (eV (au (aj (.str "+")) (au (aj (.str "-")) (au (aj (.str "*")) (au (aj (.str "least")) (au (aj (.str "most")) aq)))))) (s2 oMod (s2 lR (ak 6) (aj (.int 3))) (aj (.int 5))))) (ao (aM 3 (yc (s2 pH (ak 3) (eV (au (aj (.str "expr")) (au (aj (.str "expr")) aq)))))) (ao (aM 4 (s2 lH (ak 4) (aj (.int 2)))) aC))) (ao (iB 2 (fu yH (au (s2 lR (ak 6) (aj (.int 3))) (au (aj (.str "tv")) aq)))) aC)) aC)) aC)) aC)) aC)
def Dg:S:=(ao (aM 7 (wY (ak 3))) zW)
def Xn:S:=(ao (aM 6 (s2 lR (ak 5) (aj (.int 7)))) Dg)
def T3:E:=(s2 (aF .ne) (ak 3) (eV aq))
noncomputable def GD:S:=(ao (aM 5 (s2 oMod (s2 aN (s2 aN (s2 aN (s2 fY (ak 5) (ak 5)) (s2 fY (aj (.int 40692)) (ak 5))) (sN eU (au (yd 2) aq))) (aj (.int 1))) (aj (.int 2147483629)))) Xn)
def Xy:S:=(ao (Dp 1000 T3 GD) Xz)
def Xx:S:=(ao (aM 5 (s2 oMod (ak 0) (aj (.int 2147483629)))) Xy)
def Xw:S:=(ao (aM 4 (s2 lH (ak 1) (aj (.int 3)))) Xx)
def Xv:S:=(ao (aM 3 (yc (eV (au (aj (.str "cond")) aq)))) Xw)
def Nr:S:=(ao (u_ 2 (eV aq)) Xv)
def FN:G:=fH 8 Nr
abbrev KJ:Stmt:=top 53
def Z5:FnScope ["_law_x","_law_k","_law_word","_law_at"] ["_law_x","_law_k"] (aY KJ):=gh
noncomputable def Jx:E:=(s2 aO (aj (.str "abcdefghijklmnopqrstuvwxyz")) (s2 oMod (s2 lR (ak 1) (s2 aN (aj (.int 3)) (s2 fY (aj (.int 7)) (ak 0)))) (aj (.int 26))))
noncomputable def Nz:S:=(ao (aM 2 (n_ tL (aj (.str "")) (au (rm [("_law_x",0)] (yK (au (s2 aN (aj (.int 1)) (s2 oMod (ak 0) (aj (.int 10)))) aq)) (aj (.bl true)) Jx) aq))) (ao (aM 3 (s2 aN (aj (.int 1)) (s2 oMod (s2 lR (ak 0) (aj (.int 11))) (sN eU (au (ak 2) aq))))) (ao (aK (s2 aN (s2 aN (su (ak 2) t_ (nJ (ak 3))) (sN kI (au (ak 1) aq))) (su (ak 2) (nJ (ak 3)) t_))) aC)))
def FW:G:=fH 4 Nz
abbrev KN:Stmt:=top 54
def Z6:FnScope ["_law_k","_law_xs","_law_above","_law_name_here","_law_pick","_law_froms","_law_fold","_law_wide","_law_width","_law_words"] ["_law_k","_law_xs","_law_above"] (aY KN):=gh
noncomputable def Qx:S:=(ao (aK (aW (au (aj (.str "out")) (au (ak 3) (au (aW (au (s2 aO (ak 5) (aj (.int 0))) aq)) (au (aW aq) aq)))))) aC)
noncomputable def J3:S:=(ao (fB (s2 (aF .eq) (ak 4) (aj (.int 9))) (ao (aM 9 (fu CP (au (s2 aO (ak 1) (aj (.int 6))) (au (aj (.str "tvw")) (au (s2 aN (aj (.int 1)) (s2 oMod (s2 aO (ak 1) (aj (.int 7))) (aj (.int 31)))) aq))))) (ao (aK (aW (au (aj (.str "join")) (au (ak 3) (au (aW (au (s2 aO (ak 5) (aj (.int 0))) (au (s2 aO (ak 5) (aj (.int 1))) aq))) (au (sN lD (au (s2 aN (eV (au (sN kI (au (s2 lH (ak 7) (aj (.int 1))) aq)) aq)) (ak 9)) aq)) aq)))))) aC)) aC) Qx)
noncomputable def J2:S:=(ao (fB (s2 (aF .eq) (ak 4) (aj (.int 8))) (ao (aK (aW (au (aj (.str "gap")) (au (ak 3) (au (aW (au (s2 aO (ak 5) (aj (.int 0))) aq)) (au (aW (au (sN kI (au (ak 7) aq)) (au (ak 6) aq))) aq)))))) aC) aC) J3)
noncomputable def J1:S:=(ao (fB (s2 (aF .eq) (ak 4) (aj (.int 7))) (ao (aM 8 (sN yE (au (s2 pI (aj (.int 10)) (aj (.int 12))) (au (s2 aN (ak 7) (s2 oMod (s2 fY (s2 fY (s2 aO (ak 1) (aj (.int 7))) (aj (.int 48271))) (aj (.int 7919))) (s2 aN (s2 fY (aj (.int 7)) (ak 7)) (aj (.int 1))))) aq)))) (ao (aK (aW (au (aj (.str "slide")) (au (ak 3) (au (aW (au (s2 aO (ak 5) (aj (.int 0))) aq)) (au (aW (au (sN kI (au (ak 8) aq)) (au (sN kI (au (ak 7) aq)) (au (ak 6) aq)))) aq)))))) aC)) aC) J2)
noncomputable def J0:S:=(ao (fB (s2 (aF .eq) (ak 4) (aj (.int 6))) (ao (aK (aW (au (aj (.str "fixed")) (au (ak 3) (au (aW (au (s2 aO (ak 5) (aj (.int 0))) aq)) (au (aW (au (sN kI (au (ak 7) aq)) (au (ak 6) aq))) aq)))))) aC) aC) J1)
noncomputable def J8:S:=(ao (fB (nM (s2 (aF .eq) (ak 4) (aj (.int 4))) (s2 (aF .eq) (ak 4) (aj (.int 5)))) (ao (aK (aW (au (aj (.str "pour")) (au (ak 3) (au (sN lD (au (su (ak 5) t_ (nJ (s2 aN (aj (.int 2)) (s2 oMod (s2 aO (ak 1) (aj (.int 4))) (aj (.int 7)))))) aq)) (au (aW aq) aq)))))) aC) aC) J0)
noncomputable def J7:S:=(ao (fB (s2 (aF .eq) (ak 4) (aj (.int 3))) (ao (aK (aW (au (aj (.str "share")) (au (ak 3) (au (aW (au (s2 aO (ak 5) (aj (.int 0))) aq)) (au (aW (au (sN kI (au (s2 oMod (s2 aO (ak 1) (aj (.int 5))) (s2 aN (aj (.int 1)) (s2 oMod (s2 aO (ak 1) (aj (.int 4))) (aj (.int 8))))) aq)) (au (sN kI (au (s2 aN (aj (.int 1)) (s2 oMod (s2 aO (ak 1) (aj (.int 4))) (aj (.int 8)))) aq)) aq))) aq)))))) aC) aC) J8)
noncomputable def J6:S:=(ao (fB (s2 (aF .eq) (ak 4) (aj (.int 2))) (ao (aK (aW (au (aj (.str "turn")) (au (ak 3) (au (aW (au (s2 aO (ak 5) (aj (.int 0))) aq)) (au (sN lD (au (fu CP (au (s2 aO (ak 1) (aj (.int 6))) (au (aj (.str "tv")) (au (s2 aN (aj (.int 1)) (s2 oMod (s2 aO (ak 1) (aj (.int 7))) (aj (.int 33)))) aq)))) aq)) aq)))))) aC) aC) J7)
noncomputable def J5:S:=(ao (fB (s2 (aF .eq) (ak 4) (aj (.int 1))) (ao (aK (aW (au (aj (.str "keep")) (au (ak 3) (au (aW (au (s2 aO (ak 5) (aj (.int 0))) aq)) (au (sN lD (au (fu FN (au (s2 aO (ak 1) (aj (.int 6))) (au (s2 aN (aj (.int 3)) (s2 oMod (s2 aO (ak 1) (aj (.int 7))) (aj (.int 31)))) aq))) aq)) aq)))))) aC) aC) J6)
noncomputable def X8:S:=(ao (aM 7 (s2 aN (aj (.int 1)) (s2 oMod (s2 fY (s2 fY (s2 aO (ak 1) (aj (.int 5))) (aj (.int 48271))) (aj (.int 7919))) (s2 aO (eV (au (aj (.int 9)) (au (s2 pI (aj (.int 10)) (aj (.int 6))) (au (s2 pI (aj (.int 10)) (aj (.int 12))) aq)))) (s2 oMod (s2 aO (ak 1) (aj (.int 6))) (aj (.int 3))))))) J5)
noncomputable def Qy:S:=(ao (aM 6 (s2 aO (eV (au (aj (.str "sum")) (au (aj (.str "count")) (au (aj (.str "most")) (au (aj (.str "least")) aq))))) (s2 oMod (s2 aO (ak 1) (aj (.int 4))) (aj (.int 4))))) X8)
def Jy:E:=(s2 aO (ak 1) (s2 oMod (ak 0) (sN eU (au (ak 1) aq))))
noncomputable def X7:S:=(ao (aM 5 (rm [("_law_above",2)] (tX (su (ak 1) (nJ (aj (.int 2))) (nJ (aj (.int 10))))) (aj (.bl true)) Jy)) Qy)
noncomputable def J4:S:=(ao (fB (nM (s2 (aF .eq) (ak 2) (eV aq)) (s2 (aF .eq) (ak 4) (aj (.int 0)))) (ao (aK (aW (au (aj (.str "in")) (au (ak 3) (au (aW aq) (au (aW aq) aq)))))) aC) aC) X7)
def X6:S:=(ao (aM 4 (s2 oMod (s2 aO (ak 1) (aj (.int 1))) (aj (.int 11)))) J4)
noncomputable def NK:S:=(ao (aM 3 (fu FW (au (s2 aO (ak 1) (aj (.int 0))) (au (ak 0) aq)))) X6)
def FZ:G:=fH 10 NK
abbrev KQ:Stmt:=top 55
def Z7:FnScope ["_law_cells_here","_law_rows_here","_law_above","_law_k","_law_row_here"] ["_law_cells_here"] (aY KQ):=gh
noncomputable def GF:S:=(ao (aM 4 (fu FZ (au (ak 3) (au (fu xR (au (s2 aN (s2 aO (ak 0) (ak 3)) (s2 fY (aj (.int 31)) (ak 3))) (au (aj (.int 11)) aq))) (au (ak 2) aq))))) (ao (iB 1 (ak 4)) (ao (fB (s2 (aF .ne) (s2 aO (ak 4) (aj (.int 0))) (aj (.str "out"))) (ao (Bx (ak 2) (s2 aO (ak 4) (aj (.int 1)))) aC) aC) aC)))
noncomputable def NP:S:=(ao (u_ 1 (eV aq)) (ao (aM 2 (yc (eV aq))) (ao (sY 3 (yK (au (sN eU (au (ak 0) aq)) aq)) GF) (ao (sZ 1) (ao (aK (ak 1)) aC)))))
def Ga:G:=fH 5 NP
abbrev KH:Stmt:=top 56
def Z2:FnScope ["_law_row_here"] ["_law_row_here"] (aY KH):=gh
noncomputable def Nx:S:=(ao (aK (n_ tL (aj (.str " ")) (au (s2 aN (s2 aN (eV (au (s2 aO (ak 0) (aj (.int 0))) (au (s2 aO (ak 0) (aj (.int 1))) aq))) (BL (s2 aO (ak 0) (aj (.int 2))))) (BL (s2 aO (ak 0) (aj (.int 3))))) aq))) aC)
def zQ:G:=fH 1 Nx
abbrev KC:Stmt:=top 57
def Z0:FnScope ["_law_line_here","_law_way","_law_x","_law_words","_law_bad","_law_named","_law_sift","_law_some"] ["_law_line_here","_law_way","_law_x"] (aY KC):=gh
noncomputable def XM:S:=(ao (aK (s2 aO (s2 aN (ak 7) (eV (au (s2 aN (ak 0) (aj (.str "\t"))) aq))) (ak 1))) aC)
noncomputable def XJ:S:=(ao (aM 7 (eV (au (s2 aN (ak 0) (aj (.str " "))) (au (s2 aN (aj (.str " ")) (ak 0)) (au (s2 aN (ak 0) (aj (.str " 5"))) (au (Hx " " "  " (ak 0)) (au (aj (.str "")) (au (Hz (ak 0)) (au (s2 aO (ak 3) (aj (.int 0))) (au (ak 6) (au (ak 5) aq))))))))))) XM)
noncomputable def Qv:S:=(ao (aM 6 (s2 aN (aj (.str "sift")) (su (ak 0) (nJ (sN eU (au (s2 aO (ak 3) (aj (.int 0))) aq))) t_))) XJ)
noncomputable def XH:S:=(ao (fB (s2 (aF .gt) (sN eU (au (ak 3) aq)) (aj (.int 2))) (ao (aM 5 (s2 aN (s2 aN (ak 5) (aj (.str " "))) (n_ tL (aj (.str " ")) (au (su (ak 3) (nJ (aj (.int 2))) t_) aq)))) aC) aC) Qv)
noncomputable def XD:S:=(ao (aM 5 (s2 aN (s2 aN (s2 aO (ak 3) (aj (.int 0))) (aj (.str " "))) (ak 4))) XH)
noncomputable def XC:S:=(ao (aM 4 (s2 aO (eV (au (aj (.str "7a")) (au (aj (.str "A")) (au (aj (.str "a_b")) (au (aj (.str "abcdefghijklm")) (au (aj (.str "b-")) (au (aj (.str "nO")) aq))))))) (s2 oMod (ak 2) (aj (.int 6))))) XD)
def Nv:S:=(ao (aM 3 (n_ yq (ak 0) (au (aj (.str " ")) aq))) XC)
def FP:G:=fH 8 Nv
abbrev HN:Stmt:=top 58
def Z4:FnScope ["_law_rows_here","_law_at","_law_x","_law_name_here","_law_froms","_law_one"] ["_law_rows_here","_law_at","_law_x"] (aY HN):=gh
theorem Ue:LV HN "_law_froms":=by kernel_rfl
noncomputable def X5:S:=(ao (aK (s2 aN (s2 aN (s2 aN (s2 aN (aj (.str "fixed ")) (ak 3)) (aj (.str " "))) (ak 5)) (aj (.str " 7 sum")))) aC)
noncomputable def JZ:S:=(ao (fB (s2 (aF .eq) (s2 oMod (s2 lR (ak 2) (aj (.int 3))) (aj (.int 3))) (aj (.int 2))) (ao (aK (s2 aN (s2 aN (s2 aN (aj (.str "out ")) (ak 3)) (aj (.str " "))) (ak 5))) aC) aC) X5)
noncomputable def GQ:S:=(ao (fB (fL (s2 (aF .gt) (ak 1) (aj (.int 0))) (s2 (aF .eq) (s2 oMod (s2 lR (ak 2) (aj (.int 3))) (aj (.int 3))) (aj (.int 1)))) (ao (aK (s2 aN (s2 aN (s2 aN (s2 aN (s2 aN (aj (.str "pour ")) (ak 3)) (aj (.str " "))) (s2 aO (s2 aO (ak 0) (aj (.int 0))) (aj (.int 1)))) (aj (.str " "))) (ak 5))) aC) aC) JZ)
noncomputable def X4:S:=(ao (aM 5 (s2 aO (yd 4) (s2 oMod (s2 lR (ak 2) (aj (.int 7))) (sN eU (au (yd 4) aq))))) GQ)
def Ez:E:=(s2 (aF .eq) (s2 aO (ak 0) (aj (.int 0))) (aj (.str "out")))
def Fq:E:=(s2 aO (ak 0) (aj (.int 1)))
noncomputable def Qw:S:=(ao (u_ 4 (s2 pH (yd 4) (rm [] (tX (su (ak 0) t_ (nJ (ak 1)))) Ez Fq))) X4)
noncomputable def JX:S:=(ao (fB (s2 (aF .lt) (s2 aN (ak 1) (aj (.int 1))) (sN eU (au (ak 0) aq))) (ao (iB 4 (s2 aO (s2 aO (ak 0) (s2 aN (s2 aN (ak 1) (aj (.int 1))) (s2 oMod (ak 2) (s2 lH (s2 lH (sN eU (au (ak 0) aq)) (ak 1)) (aj (.int 1)))))) (aj (.int 1)))) aC) aC) Qw)
noncomputable def X3:S:=(ao (u_ 4 (eV (au (ak 3) (au (aj (.str "nobody")) aq)))) JX)
def Ny:S:=(ao (aM 3 (s2 aO (s2 aO (ak 0) (ak 1)) (aj (.int 1)))) X3)
def FQ:G:=fH 6 Ny
abbrev KR:Stmt:=top 59
def Z8:FnScope ["_law_rows_here","_law_at","_law_xs","_law_line_here","_law_way","_law_words"] ["_law_rows_here","_law_at","_law_xs"] (aY KR):=gh
noncomputable def Yb:S:=(ao (aK (aW (au (fu FQ (au (ak 0) (au (ak 1) (au (s2 aO (ak 2) (aj (.int 1))) aq)))) (au (aj (.str "name")) aq)))) aC)
noncomputable def J_:S:=(ao (fB (fL (s2 (aF .gt) (ak 1) (aj (.int 0))) (s2 (aF .lt) (ak 4) (aj (.int 13)))) (ao (aM 5 (yc (n_ yq (ak 3) (au (aj (.str " ")) aq)))) (ao (BP (ak 5) (aj (.int 1)) (s2 aO (s2 aO (ak 0) (s2 oMod (s2 aO (ak 2) (aj (.int 1))) (ak 1))) (aj (.int 1)))) (ao (fB (s2 (aF .eq) (ak 4) (aj (.int 12))) (ao (aK (aW (au (s2 aN (n_ tL (aj (.str " ")) (au (ak 5) aq)) (aj (.str " "))) (au (aj (.str "text")) aq)))) aC) aC) (ao (aK (aW (au (n_ tL (aj (.str " ")) (au (ak 5) aq)) (au (aj (.str "name")) aq)))) aC)))) aC) Yb)
noncomputable def J9:S:=(ao (fB (s2 (aF .lt) (ak 4) (aj (.int 10))) (ao (aK (aW (au (fu FP (au (ak 3) (au (ak 4) (au (s2 aO (ak 2) (aj (.int 1))) aq)))) (au (aj (.str "text")) aq)))) aC) aC) J_)
noncomputable def X_:S:=(ao (aM 4 (s2 oMod (s2 aO (ak 2) (aj (.int 0))) (aj (.int 16)))) J9)
def NZ:S:=(ao (aM 3 (fu zQ (au (s2 aO (ak 0) (ak 1)) aq))) X_)
def yI:G:=fH 6 NZ
abbrev HS:Stmt:=top 60
def Z9:FnScope ["_law_text","_law_found","e"] ["_law_text"] (aY HS):=gh
theorem Mu:LV HS "e":=by kernel_rfl
def MJ:S:=(wj (xZ tW (au (ak 0) aq)))
noncomputable def Gs:S:=(ao (aM 1 (aW (au (aj (.str "text")) (au (wW Kh 2) (au (n6 2 (Di Mp DG)) aq))))) aC)
noncomputable def JG:S:=(ao (aM 1 (aW (au (aj (.str "name")) (au (wW Kh 2) (au (n6 2 (Di Mq DG)) aq))))) aC)
noncomputable def N5:S:=(ao (aM 1 (aW (au (aj (.str "read")) (au (s1 yS (aj (.int 1))) (au (aj (.bl true)) aq))))) (ao (Hy MJ (yJ 2 Ak Gs (yJ 2 EY JG Bd))) (ao (aK (ak 1)) aC)))
def Gb:G:=fH 3 N5
abbrev HD:Stmt:=top 61
def ZQ:FnScope ["_law_text","_law_refused","e"] ["_law_text"] (aY HD):=gh
theorem zay:LV HD "e":=by kernel_rfl
def zaw:S:=(wj (xZ tW (au (ak 0) aq)))
def Wr:S:=(ao (aM 1 (n6 2 Mr)) aC)
noncomputable def Np:S:=(ao (aM 1 (aj (.bl false))) (ao (zf 2 Jp zaw Wr) (ao (aK (ak 1)) aC)))
def FJ:G:=fH 3 Np
abbrev wZ:Stmt:=top 62
def zd4:FnScope ["_law_script","_law_rows_here","_law_lines","_law_good","_law_xs","_law_at","_law_spoiled_here","_law_due","_law_other","_law_text","_law_found"] ["_law_script"] (aY wZ):=gh
def Yg:S:=(ao (aK (s2 (aF .eq) (fu tW (au (ak 3) aq)) (ak 1))) aC)
noncomputable def Ye:S:=(ao (fB (nM (s2 (aF .ne) (ak 10) (ak 7)) (nM (gQ (yX nj "bool" (s2 aO (ak 10) (aj (.int 1))))) (lq (gQ (fu FJ (au (ak 9) aq)))))) (ao (aK (aj (.bl false))) aC) aC) Yg)
def Yd:S:=(ao (aM 10 (fu Gb (au (ak 9) aq))) Ye)
def Qz:S:=(ao (aM 9 (n_ tL (aj (.str "\n")) (au (ak 2) aq))) Yd)
noncomputable def Yn:S:=(ao (fB (fL (s2 (aF .eq) (s2 oMod (s2 aO (ak 4) (aj (.int 1))) (aj (.int 2))) (aj (.int 1))) (s2 (aF .gt) (sN eU (au (ak 1) aq)) (aj (.int 1)))) (ao (aM 8 (s2 oMod (s2 aN (s2 aN (ak 5) (aj (.int 1))) (s2 oMod (s2 lR (s2 aO (ak 4) (aj (.int 1))) (aj (.int 2))) (s2 lH (sN eU (au (ak 1) aq)) (aj (.int 1))))) (sN eU (au (ak 1) aq)))) (ao (aM 6 (fu yI (au (ak 1) (au (ak 8) (au (su (ak 4) (nJ (aj (.int 4))) t_) aq))))) (ao (BP (ak 2) (ak 8) (s2 aO (ak 6) (aj (.int 0)))) (ao (fB (s2 (aF .lt) (ak 8) (ak 5)) (ao (aM 7 (aW (au (s2 aO (ak 6) (aj (.int 1))) (au (ak 8) (au (aj (.bl false)) aq))))) aC) aC) aC)))) aC) Qz)
noncomputable def Ym:S:=(ao (aM 7 (aW (au (s2 aO (ak 6) (aj (.int 1))) (au (ak 5) (au (aj (.bl false)) aq))))) Yn)
def Yl:S:=(ao (BP (ak 2) (ak 5) (s2 aO (ak 6) (aj (.int 0)))) Ym)
noncomputable def Yk:S:=(ao (aM 6 (fu yI (au (ak 1) (au (ak 5) (au (su (ak 4) (nJ (aj (.int 2))) t_) aq))))) Yl)
noncomputable def Yj:S:=(ao (aM 5 (s2 oMod (s2 aO (ak 4) (aj (.int 0))) (sN eU (au (ak 1) aq)))) Yk)
noncomputable def Yi:S:=(ao (aM 4 (fu xR (au (s2 aN (s2 aN (fu wK (au (ak 0) (au (aj (.int 12)) aq))) (s2 fY (aj (.int 31)) (fu wK (au (ak 0) (au (aj (.int 1)) aq))))) (fu wK (au (ak 0) (au (aj (.int 0)) aq)))) (au (aj (.int 8)) aq)))) Yj)
def Yh:S:=(ao (aM 3 (n_ tL (aj (.str "\n")) (au (ak 2) aq))) Yi)
def V4:E:=(fu zQ (au (ak 0) aq))
noncomputable def Yc:S:=(ao (u_ 2 (rm [] (tX (ak 1)) (aj (.bl true)) V4)) (ao (wX 2) Yh))
def Jj:S:=(ao (aM 1 (fu Ga (au (fu CN (au (ak 0) aq)) aq))) Yc)
def Wj:G:=fH 11 Jj
section
variable {P:Program}{w:World}{K:Fgx}{mg:Mgx}{C:Ad}{base:Heap}{k k0:Nat}{f:Addr}
theorem zba (T:Txt K mg C w):RT P w K mg base k f ["text"] "is_figures" K9 Ob:=fun cdv A outer s H E hr=>by
 refine f9 hr fun hu=>?_;have nd:=(zam).nd;have B_any:=T.blt "any" (by x_go);obtain⟨t_FIGURES,m_FIGURES⟩:=T.k_FIGURES;refine aD (fJ (SW.st (wz (Ct hu Sv Es) (xu (vh (gU (zdE rfl) rfl B_any boot_any zg8 (aA (SN.sem (Dv "sign" [] rfl (by x_go) (zgp Sv) (fun _ _ _ _ _ _=>B_) (fun _ _ _ _ _ _=>(HW (wJ (X:=kW _ _ _ _ _ _ _ _ _) hu .notin) Br (o_ rfl (.inl (by kernel_rfl))) (vd (sX (v:=(.str "0123456789")) rfl m_FIGURES ⟨t_FIGURES,rfl⟩))))) zO) aG Ia)))))) (aD (eF Eb) aL) aL) ?_;exact aD (eF (Ss (Cm hu Sv Es) (yh (Cm hu (Ek Sv Ei) Es)))) aL
def zak (T:Txt K mg C w)(a_is_figures:aR P w K mg base k "is_figures" 1 Ay):RT P w K mg base k f ["text","figures"] "is_signed_figures" Lh Oj:=fun cdv A outer s H E hr=>by
 refine f9 hr fun hu=>?_;have nd:=(zaa).nd;refine aD (eO (i:=1) nd rfl Lv (zgC (vh (wu PySem.F.slot_str_startswith PySem.F.type_str_startswith zcl zcn Sv (aA Es aG eE))) (vf Sv (pR (Wx:=W0) Ei) w6) Sv)) ?_;exact aD (eF (z8 (Cm hu Sv Es) (yh (fD a_is_figures hr rfl (aA Sv aG aP) (cnt_cons cnt_nil))))) aL
def zbP (T:Txt K mg C w)(a_is_figures:aR P w K mg base k "is_figures" 1 Ay):RT P w K mg base k f ["text"] "is_count" K6 N_:=fun cdv A outer s H E hr=>by
 refine f9 hr fun hu=>?_;have nd:=(zaB).nd;have B_len:=T.blt "len" (by x_go);obtain⟨t_MOST_FIGURES,m_MOST_FIGURES⟩:=T.k_MOST_FIGURES;exact aD (eF (z8 (Cm hu (gU kO rfl B_len xaG k_ (aA Sv aG aP)) (pN (sX (v:=(.int 20)) rfl m_MOST_FIGURES ⟨t_MOST_FIGURES,rfl⟩))) (yh (fD a_is_figures hr rfl (aA Sv aG aP) (cnt_cons cnt_nil))))) aL
def zbl (T:Txt K mg C w)(a_is_signed_figures:aR P w K mg base k "is_signed_figures" 1 Gp):RT P w K mg base k f ["text"] "is_number" Ld Og:=fun cdv A outer s H E hr=>by
 refine f9 hr fun hu=>?_;have nd:=(zar).nd;have B_len:=T.blt "len" (by x_go);obtain⟨t_MOST_FIGURES,m_MOST_FIGURES⟩:=T.k_MOST_FIGURES;exact aD (eF (z8 (fD a_is_signed_figures hr rfl (aA Sv aG aP) (cnt_cons cnt_nil)) (yh (Cm hu (gU kO rfl B_len xaG k_ (aA (wu PySem.F.slot_str_lstrip PySem.F.type_str_lstrip zcw zb8 Sv (aA Es aG eE)) aG lu)) (pN (sX (v:=(.int 20)) rfl m_MOST_FIGURES ⟨t_MOST_FIGURES,rfl⟩)))))) aL
def zb6 (T:Txt K mg C w)(a_is_number:aR P w K mg base k "is_number" 1 Gk):RT P w K mg base k f ["word","letters"] "is_leaf" La Od:=fun cdv A outer s H E hr=>by
 refine f9 hr fun hu=>?_;have nd:=(zaT).nd;obtain⟨t_ALL_LETTERS,m_ALL_LETTERS⟩:=T.k_ALL_LETTERS;exact aD (eF (Ss (fD a_is_number hr rfl (aA Sv aG aP) (cnt_cons cnt_nil)) (yh (z8 (Cm hu Sv (ziI rfl m_ALL_LETTERS.1 m_ALL_LETTERS.2)) (yh (Cm hu Sv Sv)))))) aL
def za2 (T:Txt K mg C w):Cu P w K mg base k f ["word","kinds","needed","place"] "take_needed" Ls Ot:=fun cdv A outer s H E Wx hr XF XP=>by
 refine f9 hr fun hu=>?_;have nd:=(zai).nd;have B_range:=T.blt "range" (by x_go);obtain⟨t_NEEDS,m_NEEDS⟩:=T.k_NEEDS;refine aD (eO (i:=2) nd rfl Lw (Lz Sw rfl m_NEEDS.1 m_NEEDS.2)) ?_;exact aD (L_ xdL rfl nd rfl Lw (LC rfl B_range (aA (Ek Sw Ei) aG fQ)) (aD (fJ (SW.st (wz (yp (vh Sw)) (xu (Ct hu (zdQ Sw) (Ek Sw Ei))))) (aD (S9 XF rfl T.xm_NoExpr T.xc_NoExpr T.xn_NoExpr T.xk_NoExpr rfl (zdR (zgY Sw (zdT zdZ)))) aL) aL) aL)) aL
def zaX (T:Txt K mg C w)(a_is_leaf:aR P w K mg base k "is_leaf" 2 Gi)(x_take_needed:lV P w K mg base k "take_needed" 2 CV):Cu P w K mg base k f ["words","letters","wanted","kinds","word"] "check_words" KY N6:=fun cdv A outer s H E Wx hr XF XP=>by
 refine f9 hr fun hu=>?_;have nd:=(Z_).nd;have B_reversed:=T.blt "reversed" (by x_go);obtain⟨t_NEEDS,m_NEEDS⟩:=T.k_NEEDS;refine aD (eO (i:=3) nd rfl Lw (BR (kj aG))) ?_;refine aD (L_ xdL rfl nd rfl Lw (zih rfl B_reversed (aA Sw aG aP)) (aD (fJ (ziw Sw rfl m_NEEDS.1 m_NEEDS.2) (aD (S8 (SX.se XP (Cd x_take_needed hr rfl (aA Sw (aA Sw aG aP) aP) (cnt_cons (cnt_cons cnt_nil))))) (aD (LR Sw (Ek (Lz Sw rfl m_NEEDS.1 m_NEEDS.2) Ei)) aL)) (aD (fJ (vh (fD a_is_leaf hr rfl (aA Sw (aA Sw aG aP) aP) (cnt_cons (cnt_cons cnt_nil)))) (aD (LR Sw Es) aL) (aD (S9 XF rfl T.xm_NoExpr T.xc_NoExpr T.xn_NoExpr T.xk_NoExpr rfl (zdR (zfU Sw (zdT zdZ)))) aL)) aL)) aL)) ?_;exact aD (fJ (Ct hu Sw (SN.sem (kj (aA Sw aG aP)) lst_is)) (aD (S9 XF rfl T.xm_NoExpr T.xc_NoExpr T.xn_NoExpr T.xk_NoExpr rfl Es) aL) aL) aL
def zaI (T:Txt K mg C w):RT P w K mg base k f ["self","words"] "Expr.__init__" z7 Jd:=fun cdv A outer s H E hr=>by
 refine f9 hr fun hu=>?_;have nd:=(ZP).nd;have B_tuple:=T.blt "tuple" (by x_go);exact aD (zcD T.cl_Expr T.na_Expr_parts Sv (lX zN rfl B_tuple xcz zY (aA Sv aG aP))) aL
def zbs (T:Txt K mg C w)(hk0:k0 + 1=k)(a_Expr___init__:vo P w K mg base k0 C.Expr 2 Fz)(x_check_words:lV P w K mg base k "check_words" 3 zR):Cu P w K mg base k f ["words","letters"] "read_expr" Lp Jl:=fun cdv A outer s H E Wx hr XF XP=>by
 refine f9 hr fun hu=>?_;have hr1:=hr;rw[<-hk0]at hr1;have nd:=(zau).nd;refine aD (S8 (SX.se XP (Cd x_check_words hr rfl (aA Sw (aA Sw (aA Es aG eE) aP) aP) (cnt_cons (cnt_cons (cnt_cons cnt_nil)))))) ?_;exact aD (eF (zcQ T.cl_Expr a_Expr___init__ hr1 rfl (aA Sw aG aP) (cnt_cons cnt_nil))) aL
def zaG (T:Txt K mg C w):RT P w K mg base k f ["self","words"] "Cond.__init__" z6 Jc:=fun cdv A outer s H E hr=>by
 refine f9 hr fun hu=>?_;have nd:=(ZM).nd;have B_tuple:=T.blt "tuple" (by x_go);exact aD (zcD T.cl_Cond T.na_Cond_parts Sv (lX zN rfl B_tuple xcz zY (aA Sv aG aP))) aL
def zbt (T:Txt K mg C w)(hk0:k0 + 1=k)(a_Cond___init__:vo P w K mg base k0 C.Cond 2 Fy)(x_check_words:lV P w K mg base k "check_words" 3 zR):Cu P w K mg base k f ["words"] "read_cond" Lk Jk:=fun cdv A outer s H E Wx hr XF XP=>by
 refine f9 hr fun hu=>?_;have hr1:=hr;rw[<-hk0]at hr1;have nd:=(zat).nd;obtain⟨t_COND_LETTERS,m_COND_LETTERS⟩:=T.k_COND_LETTERS;refine aD (S8 (SX.se XP (Cd x_check_words hr rfl (aA Sw (aA (vd (sX (v:=(.str "tv")) rfl m_COND_LETTERS ⟨t_COND_LETTERS,rfl⟩)) (aA Es aG eE) aP) aP) (cnt_cons (cnt_cons (cnt_cons cnt_nil)))))) ?_;exact aD (eF (zcQ T.cl_Cond a_Cond___init__ hr1 rfl (aA Sw aG aP) (cnt_cons cnt_nil))) aL
theorem zb3 (T:Txt K mg C w):RT P w K mg base k f ["text"] "is_name" Lb Oe:=fun cdv A outer s H E hr=>by
 refine f9 hr fun hu=>?_;have nd:=(zaQ).nd;have B_all:=T.blt "all" (by x_go);have B_len:=T.blt "len" (by x_go);obtain⟨t_FIGURES,m_FIGURES⟩:=T.k_FIGURES;obtain⟨t_LETTERS,m_LETTERS⟩:=T.k_LETTERS;obtain⟨t_MOST_SIGNS,m_MOST_SIGNS⟩:=T.k_MOST_SIGNS;refine aD (fJ (SW.st (wz (yp (ziQ (c1:=.le) (c2:=.le) hu Ei (gU kO rfl B_len xaG k_ (aA Sv aG aP)) (pN (sX (v:=(.int 12)) rfl m_MOST_SIGNS ⟨t_MOST_SIGNS,rfl⟩)))) (xu (Ct hu (Ek Sv Ei) (vd (sX (v:=(.str "abcdefghijklmnopqrstuvwxyz")) rfl m_LETTERS ⟨t_LETTERS,rfl⟩)))))) (aD (eF Eb) aL) aL) ?_;exact aD (eF (gU (Ow rfl) rfl B_all boot_all Rj (aA (SN.sem (Dv "sign" [] rfl (by x_go) (zgp Sv) (fun _ _ _ _ _ _=>B_) (fun _ _ _ _ _ _=>(Ss (HW (wJ (X:=kW _ _ _ _ _ _ _ _ _) hu .isin) Br (o_ rfl (.inl (by kernel_rfl))) (vd (sX (v:=(.str "abcdefghijklmnopqrstuvwxyz")) rfl m_LETTERS ⟨t_LETTERS,rfl⟩))) (yh (HW (wJ (X:=kW _ _ _ _ _ _ _ _ _) hu .isin) Br (o_ rfl (.inl (by kernel_rfl))) (vd (sX (v:=(.str "0123456789")) rfl m_FIGURES ⟨t_FIGURES,rfl⟩))))))) zO) aG Ia))) aL
def zaq (T:Txt K mg C w)(a_is_count:aR P w K mg base k "is_count" 1 Gg):RT P w K mg base k f ["text","least","most"] "is_count_within" K7 Oa:=fun cdv A outer s H E hr=>by
 refine f9 hr fun hu=>?_;have nd:=(zab).nd;have B_int:=T.blt "int" (by x_go);exact aD (eF (z8 (fD a_is_count hr rfl (aA Sv aG aP) (cnt_cons cnt_nil)) (yh (zhk (c1:=.le) (c2:=.le) hu Sv (lX Jo rfl B_int boot_int Kr (aA Sv aG aP)) Sv)))) aL
def zct (T:Txt K mg C w)(x_read_expr:lV P w K mg base k "read_expr" 2 Ba):RT P w K mg base k f ["words","letters"] "is_expr" K8 Jh:=fun cdv A outer s H E hr=>by
 refine f9 hr fun hu=>?_;have nd:=(zaS).nd;refine aD (zcg rfl rfl rfl rfl T.xm_NoExpr T.xc_NoExpr (fun c h=>Vj T c h) (fun pins E'=>(Jm (Ma (Cd x_read_expr hr rfl (aA Su (aA Su aG aP) aP) (cnt_cons (cnt_cons cnt_nil)))))) (fun e'=>(aD (eF Eb) aL))) ?_;exact aD (eF Eb) aL
def zcf (T:Txt K mg C w)(x_read_cond:lV P w K mg base k "read_cond" 1 A_):RT P w K mg base k f ["words"] "is_cond" K5 Jg:=fun cdv A outer s H E hr=>by
 refine f9 hr fun hu=>?_;have nd:=(zaR).nd;refine aD (zcg rfl rfl rfl rfl T.xm_NoExpr T.xc_NoExpr (fun c h=>Vj T c h) (fun pins E'=>(Jm (Ma (Cd x_read_cond hr rfl (aA Su aG aP) (cnt_cons cnt_nil))))) (fun e'=>(aD (eF Eb) aL))) ?_;exact aD (eF Eb) aL
def zaK (T:Txt K mg C w)(a_is_count_within:aR P w K mg base k "is_count_within" 3 vp):RT P w K mg base k f ["rest"] "is_share_rest" Lg Oi:=fun cdv A outer s H E hr=>by
 refine f9 hr fun hu=>?_;have nd:=(zag).nd;have B_int:=T.blt "int" (by x_go);have B_len:=T.blt "len" (by x_go);obtain⟨t_MOST_SHARES,m_MOST_SHARES⟩:=T.k_MOST_SHARES;refine aD (fJ (SW.st (wz (Ct hu (gU kO rfl B_len xaG k_ (aA Sv aG aP)) Ei) (xu (yp (vh (fD a_is_count_within hr rfl (aA (Ek Sv Ei) (aA Ei (aA (pN (sX (v:=(.int 8)) rfl m_MOST_SHARES ⟨t_MOST_SHARES,rfl⟩)) aG aP) eE) fQ) (cnt_cons (cnt_cons (cnt_cons cnt_nil))))))))) (aD (eF Eb) aL) aL) ?_;exact aD (eF (fD a_is_count_within hr rfl (aA (Ek Sv Ei) (aA Ei (aA (aJ xW xY (lX Jo rfl B_int boot_int Kr (aA (Ek Sv Ei) aG fQ)) Ei) aG i_) eE) fQ) (cnt_cons (cnt_cons (cnt_cons cnt_nil))))) aL
def zaJ (T:Txt K mg C w)(a_is_count_within:aR P w K mg base k "is_count_within" 3 vp):RT P w K mg base k f ["rest"] "is_width_rest" Lj Om:=fun cdv A outer s H E hr=>by
 refine f9 hr fun hu=>?_;have nd:=(zad).nd;have B_len:=T.blt "len" (by x_go);obtain⟨t_FOLDS,m_FOLDS⟩:=T.k_FOLDS;obtain⟨t_MOST_SPAN,m_MOST_SPAN⟩:=T.k_MOST_SPAN;exact aD (eF (z8 (Cm hu (gU kO rfl B_len xaG k_ (aA Sv aG aP)) Ei) (z8 (fD a_is_count_within hr rfl (aA (Ek Sv Ei) (aA Ei (aA (pN (sX (v:=(.int 1000000000000)) rfl m_MOST_SPAN ⟨t_MOST_SPAN,rfl⟩)) aG aP) eE) fQ) (cnt_cons (cnt_cons (cnt_cons cnt_nil)))) (yh (Cm hu (Ek Sv Ei) (ziI rfl m_FOLDS.1 m_FOLDS.2)))))) aL
def zaD (T:Txt K mg C w)(a_is_count_within:aR P w K mg base k "is_count_within" 3 vp)(a_is_width_rest:aR P w K mg base k "is_width_rest" 1 Az):RT P w K mg base k f ["rest","width"] "is_slide_rest" Li Ol:=fun cdv A outer s H E hr=>by
 refine f9 hr fun hu=>?_;have nd:=(zaf).nd;have B_int:=T.blt "int" (by x_go);have B_len:=T.blt "len" (by x_go);obtain⟨t_MOST_SPREAD,m_MOST_SPREAD⟩:=T.k_MOST_SPREAD;refine aD (fJ (SW.st (wz (Ct hu (gU kO rfl B_len xaG k_ (aA Sv aG aP)) Ei) (xu (yp (vh (fD a_is_width_rest hr rfl (aA (gk (aA (Ek Sv Ei) (aA (Ek Sv Ei) aG fQ) fQ)) aG pU) (cnt_cons cnt_nil))))))) (aD (eF Eb) aL) aL) ?_;refine aD (eO (i:=1) nd rfl Lv (lX Jo rfl B_int boot_int Kr (aA (Ek Sv Ei) aG fQ))) ?_;exact aD (eF (z8 (fD a_is_count_within hr rfl (aA (Ek Sv Ei) (aA Ei (aA Sv aG aP) eE) fQ) (cnt_cons (cnt_cons (cnt_cons cnt_nil)))) (yh (Cm hu Sv (aJ nY nZ (pN (sX (v:=(.int 8)) rfl m_MOST_SPREAD ⟨t_MOST_SPREAD,rfl⟩)) (lX Jo rfl B_int boot_int Kr (aA (Ek Sv Ei) aG fQ))))))) aL
def zaN (T:Txt K mg C w)(a_is_count_within:aR P w K mg base k "is_count_within" 3 vp)(a_is_expr:aR P w K mg base k "is_expr" 2 zT):RT P w K mg base k f ["rest"] "is_join_rest" K_ Oc:=fun cdv A outer s H E hr=>by
 refine f9 hr fun hu=>?_;have nd:=(zah).nd;have B_len:=T.blt "len" (by x_go);obtain⟨t_MOST_SPAN,m_MOST_SPAN⟩:=T.k_MOST_SPAN;refine aD (fJ (SW.st (wz (Ct hu (gU kO rfl B_len xaG k_ (aA Sv aG aP)) Ei) (xu (yp (vh (fD a_is_count_within hr rfl (aA (Ek Sv Ei) (aA Ei (aA (pN (sX (v:=(.int 1000000000000)) rfl m_MOST_SPAN ⟨t_MOST_SPAN,rfl⟩)) aG aP) eE) fQ) (cnt_cons (cnt_cons (cnt_cons cnt_nil))))))))) (aD (eF Eb) aL) aL) ?_;exact aD (eF (fD a_is_expr hr rfl (aA (zhe Sv (pR (Wx:=W0) Ei) w6) (aA Es aG eE) fQ) (cnt_cons (cnt_cons cnt_nil)))) aL
def zbe (T:Txt K mg C w)(a_is_expr:aR P w K mg base k "is_expr" 2 zT)(a_is_cond:aR P w K mg base k "is_cond" 1 CQ)(a_is_share_rest:aR P w K mg base k "is_share_rest" 1 Gn)(a_is_width_rest:aR P w K mg base k "is_width_rest" 1 Az)(a_is_slide_rest:aR P w K mg base k "is_slide_rest" 1 Gq)(a_is_join_rest:aR P w K mg base k "is_join_rest" 1 Gh):RT P w K mg base k f ["word","rest"] "is_rest_of" Le Oh:=fun cdv A outer s H E hr=>by
 refine f9 hr fun hu=>?_;have nd:=(zao).nd;refine aD (fJ (Ct hu Sv Es) (aD (eF (fD a_is_cond hr rfl (aA Sv aG aP) (cnt_cons cnt_nil))) aL) aL) ?_;refine aD (fJ (Ct hu Sv Es) (aD (eF (fD a_is_expr hr rfl (aA Sv (aA Es aG eE) aP) (cnt_cons (cnt_cons cnt_nil)))) aL) aL) ?_;refine aD (fJ (Ct hu Sv Es) (aD (eF (fD a_is_share_rest hr rfl (aA Sv aG aP) (cnt_cons cnt_nil))) aL) aL) ?_;refine aD (fJ (Ct hu Sv Es) (aD (eF (fD a_is_slide_rest hr rfl (aA Sv aG aP) (cnt_cons cnt_nil))) aL) aL) ?_;refine aD (fJ (Ct hu Sv (gk (aA Es (aA Es aG eE) eE))) (aD (eF (fD a_is_width_rest hr rfl (aA Sv aG aP) (cnt_cons cnt_nil))) aL) aL) ?_;refine aD (fJ (Ct hu Sv Es) (aD (eF (fD a_is_join_rest hr rfl (aA Sv aG aP) (cnt_cons cnt_nil))) aL) aL) ?_;exact aD (eF (Cm hu Sv (gk aG))) aL
def zdK (T:Txt K mg C w):RT P w K mg base k f ["words","behind"] "row_of" Lr Oq:=fun cdv A outer s H E hr=>by
 refine f9 hr fun hu=>?_;have nd:=(za7).nd;have B_tuple:=T.blt "tuple" (by x_go);obtain⟨t_FROMS,m_FROMS⟩:=T.k_FROMS;refine aD (eO (i:=1) nd rfl Lv (aJ eX eY Ei (Lz (Ek Sv Ei) rfl m_FROMS.1 m_FROMS.2))) ?_;exact aD (eF (gk (aA (Ek Sv Ei) (aA (Ek Sv Ei) (aA (lX zN rfl B_tuple xcz zY (aA (vf Sv (pR (Wx:=W0) Ei) (pR (Wx:=W0) Sv)) aG fQ)) (aA (lX zN rfl B_tuple xcz zY (aA (vf Sv (pR (Wx:=W0) Sv) w6) aG fQ)) aG lu) lu) fQ) fQ))) aL
def zaH (T:Txt K mg C w):RT P w K mg base k f ["row"] "has_its_froms" KZ N7:=fun cdv A outer s H E hr=>by
 refine f9 hr fun hu=>?_;have nd:=(zae).nd;have B_len:=T.blt "len" (by x_go);obtain⟨t_FROMS,m_FROMS⟩:=T.k_FROMS;refine aD (fJ (Ct hu (Ek Sv Ei) Es) (aD (eF (Cm hu (gU kO rfl B_len xaG k_ (aA (Ek Sv Ei) aG fQ)) Ei)) aL) aL) ?_;exact aD (eF (Cm hu (gU kO rfl B_len xaG k_ (aA (Ek Sv Ei) aG fQ)) (Lz (Ek Sv Ei) rfl m_FROMS.1 m_FROMS.2))) aL
theorem zdc (T:Txt K mg C w)(a_is_name:aR P w K mg base k "is_name" 1 Gj)(a_is_rest_of:aR P w K mg base k "is_rest_of" 2 Gm)(a_row_of:aR P w K mg base k "row_of" 1 Bb)(a_has_its_froms:aR P w K mg base k "has_its_froms" 1 Gd):RT P w K mg base k f ["words","row"] "is_row" Lf Ji:=fun cdv A outer s H E hr=>by
 refine f9 hr fun hu=>?_;have nd:=(za5).nd;have B_all:=T.blt "all" (by x_go);have B_len:=T.blt "len" (by x_go);obtain⟨t_FROMS,m_FROMS⟩:=T.k_FROMS;refine aD (fJ (SW.st (wz (Ct hu (gU kO rfl B_len xaG k_ (aA Sv aG aP)) Ei) (xu (zcp (Ek Sv Ei) rfl m_FROMS.1 m_FROMS.2)))) (aD (eF Eb) aL) aL) ?_;refine aD (eO (i:=1) nd rfl Lv (fD a_row_of hr rfl (aA Sv aG aP) (cnt_cons cnt_nil))) ?_;refine aD (fJ (SW.st (wz (yp (vh (fD a_has_its_froms hr rfl (aA Sv aG aP) (cnt_cons cnt_nil)))) (xu (yp (vh (gU (Ow rfl) rfl B_all boot_all Rj (aA (SN.sem (Dv "name" [] rfl (by x_go) (zhc (aJ zfm zfB (gk (aA (Ek Sv Ei) aG fQ)) (Ek Sv Ei))) (fun _ _ _ _ _ _=>B_) (fun _ _ _ _ _ _=>(fD a_is_name hr rfl (aA (o_ rfl (.inl (by kernel_rfl))) aG aP) (cnt_cons cnt_nil)))) zO) aG Ia))))))) (aD (eF Eb) aL) aL) ?_;exact aD (eF (fD a_is_rest_of hr rfl (aA (Ek Sv Ei) (aA (Ek Sv Ei) aG fQ) fQ) (cnt_cons (cnt_cons cnt_nil)))) aL
theorem zaC (T:Txt K mg C w):RT P w K mg base k f ["row","words_above"] "has_its_names" K4 N8:=fun cdv A outer s H E hr=>by
 refine f9 hr fun hu=>?_;have nd:=(zac).nd;have B_all:=T.blt "all" (by x_go);refine aD (fJ (zgQ hu (Ek Sv Ei) (o_ rfl (.inr Lu))) (aD (eF Eb) aL) aL) ?_;exact aD (eF (gU (Ow rfl) rfl B_all boot_all Rj (aA (SN.sem (Dv "name" [("words_above",1)] rfl (by x_go) (zhc (Ek Sv Ei)) (fun _ _ _ _ _ _=>B_) (fun _ _ _ _ _ _=>(HW (wJ (X:=kW _ _ _ _ _ _ _ _ _) hu .ne) Br (zcV hu (o_ rfl (.inr (.inl (by kernel_rfl)))) (o_ rfl (.inl (by kernel_rfl))) Es) Es))) zO) aG Ia))) aL
def zbc (T:Txt K mg C w)(hR:2<=k)(a_row_of:aR P w K mg base k "row_of" 1 Bb)(a_is_row:aR P w K mg base k "is_row" 1 CT)(a_has_its_names:aR P w K mg base k "has_its_names" 2 Ge):Cu P w K mg base k f ["text","works","words_above","at","line","words","row"] "read_works" Lq Oo:=fun cdv A outer s H E Wx hr XF XP=>by
 refine f9 hr fun hu=>?_;have nd:=(zan).nd;have B_enumerate:=T.blt "enumerate" (by x_go);obtain⟨fI_NoName,fdI_NoName,xi_NoName,FI_NoName,bI_NoName⟩:=T.o_NoName;have FO_NoName:=WD (P:=P) (w:=w) (mg:=mg) (base:=base) (k:=0) FI_NoName zaO T.xm_DamError T.xb_DamError (by first |exact Gw (by x_go) |exact Gx (by x_go))
 obtain⟨fI_NoText,fdI_NoText,xi_NoText,FI_NoText,bI_NoText⟩:=T.o_NoText;have FO_NoText:=WD (P:=P) (w:=w) (mg:=mg) (base:=base) (k:=0) FI_NoText zaM T.xm_DamError T.xb_DamError (by first |exact Gw (by x_go) |exact Gx (by x_go))
 refine aD (Ca (i:=1) nd rfl Lw (kj aG)) ?_;refine aD (eO (i:=2) nd rfl Lw zfr) ?_;refine aD (zeb xdL rfl (zcd (i:=3) nd rfl Lw (zcd (i:=4) nd rfl Lw zgl)) rfl B_enumerate (aA (wu xcn xco JV Rk Sw (aA Es aG eE)) aG lu) (aD (eO (i:=5) nd rfl Lw (wu xcn xco JV Rk Sw (aA Es aG eE))) (aD (fJ (yp (vh (fD a_is_row hr rfl (aA Sw aG aP) (cnt_cons cnt_nil)))) (aD (zbb XF rfl T.xm_NoText T.xc_NoText xi_NoText T.xa_NoText T.xk_NoText FO_NoText (hr.mono hR) bI_NoText rfl Sw) aL) aL) (aD (eO (i:=6) nd rfl Lw (fD a_row_of hr rfl (aA Sw aG aP) (cnt_cons cnt_nil))) (aD (fJ (yp (vh (fD a_has_its_names hr rfl (aA Sw (aA Sw aG aP) aP) (cnt_cons (cnt_cons cnt_nil))))) (aD (zbb XF rfl T.xm_NoName T.xc_NoName xi_NoName T.xa_NoName T.xk_NoName FO_NoName (hr.mono hR) bI_NoName rfl Sw) aL) aL) (aD (zfE hu Sw (Ek Sw Ei) (Ek Sw Ei)) (aD (xg rfl Lu Sw) aL))))))) ?_;refine ZL ?_;exact aD (eF Sw) aL
def zbQ (T:Txt K mg C w):RT P w K mg base k f ["_law_script","_law_k"] "_law_cell_at" Kw Nq:=fun cdv A outer s H E hr=>by
 refine f9 hr fun hu=>?_;have nd:=(ZR).nd;have B_len:=T.blt "len" (by x_go);refine aD (fJ (Ct hu Sv (gU kO rfl B_len xaG k_ (aA Sv aG aP))) (aD (eF (Ek Sv Sv)) aL) aL) ?_;exact aD (eF Ei) aL
def zc6 (T:Txt K mg C w):RT P w K mg base k f ["_law_number","_law_many","_law_found","_law_x","_law_k"] "_law_drawn" Kz Nt:=fun cdv A outer s H E hr=>by
 refine f9 hr fun hu=>?_;have nd:=(ZW).nd;have B_range:=T.blt "range" (by x_go);refine aD (Ca (i:=2) nd rfl Lv (kj aG)) ?_;refine aD (eO (i:=3) nd rfl Lv (aJ fM fO Sv Ei)) ?_;refine aD (L_ xdh rfl nd rfl Lv (LC rfl B_range (aA Sv aG aP)) (aD (eO (i:=3) nd rfl Lv (aJ fM fO (aJ eX eY (aJ eX eY (aJ eX eY (aJ nY nZ Sv Sv) (aJ nY nZ Ei Sv)) (aJ nY nZ Ei Sv)) Ei) Ei)) (aD (xg rfl Lu (aJ nq nA Sv Ei)) aL))) ?_;refine Lx ?_;exact aD (eF Sv) aL
def zdg (T:Txt K mg C w)(a__cell_at:aR P w K mg base k "_law_cell_at" 2 wK)(a__drawn:aR P w K mg base k "_law_drawn" 2 xR):RT P w K mg base k f ["_law_script","_law_first"] "_law_cells" Ky Je:=fun cdv A outer s H E hr=>by
 refine f9 hr fun hu=>?_;have nd:=(ZS).nd;refine aD (eO (i:=1) nd rfl Lv (fD a__cell_at hr rfl (aA Sv (aA Ei aG eE) aP) (cnt_cons (cnt_cons cnt_nil)))) ?_;refine aD (fJ (Ct hu (aJ fM fO Sv Ei) Ei) (aD (eF (fD a__drawn hr rfl (aA (aJ nq nA Sv Ei) (aA (aJ eX eY Ei (aJ fM fO (aJ nq nA Sv Ei) Ei)) aG i_) i_) (cnt_cons (cnt_cons cnt_nil)))) aL) aL) ?_;exact aD (eF (aJ eX eY (SN.sem (kj (aA (aJ nq nA Sv Ei) aG i_)) lst_is) (vf Sv (pR (Wx:=W0) Ei) (pR (Wx:=W0) Ei)))) aL
def zfO (T:Txt K mg C w):RT P w K mg base k f ["_law_x","_law_letters","_law_number"] "_law_leaf" KD Jf:=fun cdv A outer s H E hr=>by
 refine f9 hr fun hu=>?_;have nd:=(Z1).nd;have B_len:=T.blt "len" (by x_go);have B_str:=T.blt "str" (by x_go);refine aD (fJ (SW.st (xq (Ct hu (aJ fM fO Sv Ei) Ei) (zx (Ct hu Sv Es)))) (aD (eF (Ek Sv (aJ fM fO (aJ nq nA Sv Ei) (gU kO rfl B_len xaG k_ (aA Sv aG aP))))) aL) aL) ?_;refine aD (eO (i:=2) nd rfl Lv (aJ fM fO (aJ nY nZ (aJ nY nZ (aJ nY nZ Sv Ei) Ei) Ei) (Ek (SN.sem (kj (aA Ei (aA Ei (aA (aJ Dh Dk Ei Ei) (aA (aJ Dh Dk Ei Ei) (aA (aJ Dh Dk Ei Ei) aG i_) i_) i_) eE) eE)) lst_is) (aJ fM fO (aJ nq nA Sv Ei) Ei)))) ?_;refine aD (fJ (SW.st (xq (Ct hu (aJ fM fO (aJ nq nA Sv Ei) Ei) Ei) (zx (Ct hu Sv Ei)))) (aD (eF (aJ eX eY Es (lX xM rfl B_str xcA xX (aA Sv aG aP)))) aL) aL) ?_;exact aD (eF (lX xM rfl B_str xcA xX (aA Sv aG aP))) aL
def zed (T:Txt K mg C w)(a__leaf:aR P w K mg base k "_law_leaf" 2 yH):RT P w K mg base k f ["_law_number","_law_letters","_law_most","_law_words","_law_need","_law_x","_law_pick"] "_law_expr" HJ Nu:=fun cdv A outer s H E hr=>by
 refine f9 hr fun hu=>?_;have nd:=(ZX).nd;have B_len:=T.blt "len" (by x_go);refine aD (Ca (i:=3) nd rfl Lv (kj aG)) ?_;refine aD (eO (i:=4) nd rfl Lv Ei) ?_;refine aD (eO (i:=5) nd rfl Lv (aJ fM fO Sv Ei)) ?_;refine aD (zbw 1000 xdh (Ct hu Sv Ei) (aD (eO (i:=5) nd rfl Lv (aJ fM fO (aJ eX eY (aJ eX eY (aJ eX eY (aJ nY nZ Sv Sv) (aJ nY nZ Ei Sv)) (gU kO rfl B_len xaG k_ (aA (Ds rfl (zaj)) aG aP))) Ei) Ei)) (aD (eO (i:=6) nd rfl Lv (aJ nq nA Sv Ei)) (aD (fJ (SW.st (xq (Ct hu (aJ fM fO Sv Ei) Ei) (zx (Ct hu (aJ eX eY (aJ eX eY (gU kO rfl B_len xaG k_ (aA (Ds rfl (zaj)) aG aP)) Sv) Ei) Sv)))) (aD (xg rfl Lu (Ek (SN.sem (kj (aA Es (aA Es (aA Es (aA Es (aA Es aG eE) eE) eE) eE) eE)) lst_is) (aJ fM fO (aJ nq nA Sv Ei) Ei))) (aD (eO (i:=4) nd rfl Lv (aJ eX eY Sv Ei)) aL)) (aD (xg rfl Lu (fD a__leaf hr rfl (aA (aJ nq nA Sv Ei) (aA Sv aG aP) i_) (cnt_cons (cnt_cons cnt_nil)))) (aD (eO (i:=4) nd rfl Lv (aJ xW xY Sv Ei)) aL))) aL)))) ?_;refine Lx ?_;exact aD (eF Sv) aL
def zeB (T:Txt K mg C w)(a__leaf:aR P w K mg base k "_law_leaf" 2 yH):RT P w K mg base k f ["_law_number","_law_most","_law_words","_law_pending","_law_room","_law_x","_law_pick","_law_kind"] "_law_cond" HF Nr:=fun cdv A outer s H E hr=>by
 refine f9 hr fun hu=>?_;have nd:=(ZV).nd;have B_len:=T.blt "len" (by x_go);refine aD (Ca (i:=2) nd rfl Lv (kj aG)) ?_;refine aD (eO (i:=3) nd rfl Lv (BR (kj (aA Es aG eE)))) ?_;refine aD (eO (i:=4) nd rfl Lv (aJ xW xY Sv Ei)) ?_;refine aD (eO (i:=5) nd rfl Lv (aJ fM fO Sv Ei)) ?_;refine aD (zbw 1000 xdh (Ct hu Sv (SN.sem (kj aG) lst_is)) (aD (eO (i:=5) nd rfl Lv (aJ fM fO (aJ eX eY (aJ eX eY (aJ eX eY (aJ nY nZ Sv Sv) (aJ nY nZ Ei Sv)) (gU kO rfl B_len xaG k_ (aA (Ds rfl (zaP)) aG aP))) Ei) Ei)) (aD (eO (i:=6) nd rfl Lv (aJ nq nA Sv Ei)) (aD (eO (i:=7) nd rfl Lv (zdQ Sv)) (aD (fJ (SW.st (xq (Ct hu Sv Es) (xq (Ct hu Sv Ei) (zx (Ct hu (aJ fM fO Sv Ei) Ei))))) (aD (xg rfl Lu (Ek (SN.sem (kj (aA Es (aA Es aG eE) eE)) lst_is) (aJ fM fO (aJ nq nA Sv Ei) Ei))) (aD (eO (i:=3) nd rfl Lv (BR (LK Sv (SN.sem (kj (aA Es (aA Es aG eE) eE)) lst_is)))) (aD (eO (i:=4) nd rfl Lv (aJ xW xY Sv Ei)) aL))) (aD (fJ (SW.st (xq (Ct hu Sv Es) (xq (Ct hu Sv Ei) (zx (Ct hu (aJ fM fO Sv Ei) Ei))))) (aD (xg rfl Lu Es) (aD (LR Sv Es) (aD (eO (i:=4) nd rfl Lv (aJ xW xY Sv Ei)) aL))) (aD (fJ (Ct hu Sv Es) (aD (xg rfl Lu (Ek (SN.sem (kj (aA Es (aA Es aG eE) eE)) lst_is) (aJ fM fO (aJ nq nA Sv Ei) Ei))) (aD (eO (i:=3) nd rfl Lv (BR (LK Sv (SN.sem (kj (aA Es (aA Es aG eE) eE)) lst_is)))) aL)) (aD (fJ (SW.st (xq (Ct hu Sv Ei) (zx (Ct hu (aJ fM fO Sv Ei) Ei)))) (aD (xg rfl Lu (Ek (SN.sem (kj (aA Es (aA Es (aA Es (aA Es (aA Es aG eE) eE) eE) eE) eE)) lst_is) (aJ fM fO (aJ nq nA Sv Ei) Ei))) (aD (eO (i:=3) nd rfl Lv (BR (LK Sv (SN.sem (kj (aA Es (aA Es aG eE) eE)) lst_is)))) (aD (eO (i:=4) nd rfl Lv (aJ xW xY Sv Ei)) aL))) (aD (xg rfl Lu (fD a__leaf hr rfl (aA (aJ nq nA Sv Ei) (aA Es aG eE) i_) (cnt_cons (cnt_cons cnt_nil)))) aL)) aL)) aL)) aL)) aL))))) ?_;refine Lx ?_;exact aD (eF Sv) aL
theorem zft (T:Txt K mg C w):RT P w K mg base k f ["_law_x","_law_k","_law_word","_law_at"] "_law_name" KJ Nz:=fun cdv A outer s H E hr=>by
 refine f9 hr fun hu=>?_;have nd:=(Z5).nd;have B_len:=T.blt "len" (by x_go);have B_range:=T.blt "range" (by x_go);have B_str:=T.blt "str" (by x_go);refine aD (eO (i:=2) nd rfl Lv (wu xbx xby Bm Bs Es (aA (SN.sem (Dv "_law_j" [("_law_x",0)] rfl (by x_go) (LC rfl B_range (aA (aJ eX eY Ei (aJ fM fO (o_ rfl (.inr Lu)) Ei)) aG i_)) (fun _ _ _ _ _ _=>B_) (fun _ _ _ _ _ _=>(Ek Es (aJ fM fO (aJ nq nA (o_ rfl (.inr (.inl (by kernel_rfl)))) (aJ eX eY Ei (aJ nY nZ Ei (o_ rfl (.inl (by kernel_rfl)))))) Ei)))) zO) aG Ia))) ?_;refine aD (eO (i:=3) nd rfl Lv (aJ eX eY Ei (aJ fM fO (aJ nq nA (o_ rfl (.inr Lu)) Ei) (gU kO rfl B_len xaG k_ (aA Sv aG aP))))) ?_;exact aD (eF (aJ eX eY (aJ eX eY (vf Sv w6 (pR (Wx:=W0) Sv)) (lX xM rfl B_str xcA xX (aA Sv aG aP))) (vf Sv (pR (Wx:=W0) Sv) w6))) aL
theorem zhQ (T:Txt K mg C w)(a__expr:aR P w K mg base k "_law_expr" 3 CP)(a__cond:aR P w K mg base k "_law_cond" 2 FN)(a__name:aR P w K mg base k "_law_name" 2 FW):RT P w K mg base k f ["_law_k","_law_xs","_law_above","_law_name_here","_law_pick","_law_froms","_law_fold","_law_wide","_law_width","_law_words"] "_law_row" KN NK:=fun cdv A outer s H E hr=>by
 refine f9 hr fun hu=>?_;have nd:=(Z6).nd;have B_len:=T.blt "len" (by x_go);have B_min:=T.blt "min" (by x_go);have B_str:=T.blt "str" (by x_go);have B_tuple:=T.blt "tuple" (by x_go);refine aD (eO (i:=3) nd rfl Lv (fD a__name hr rfl (aA (Ek Sv Ei) (aA Sv aG aP) fQ) (cnt_cons (cnt_cons cnt_nil)))) ?_;refine aD (eO (i:=4) nd rfl Lv (aJ fM fO (Ek Sv Ei) Ei)) ?_;refine aD (fJ (SW.st (wz (Ct hu (o_ rfl (.inr Lu)) (SN.sem (kj aG) lst_is)) (xu (Ct hu Sv Ei)))) (aD (eF (gk (aA Es (aA Sv (aA (gk aG) (aA (gk aG) aG pU) pU) aP) eE))) aL) aL) ?_;refine aD (zfp "_law_x" [("_law_above",2)] (i:=5) nd rfl Lv rfl (by x_go) (SM (vf Sv (pR (Wx:=W0) Ei) (pR (Wx:=W0) Ei))) (fun _ _ _ _ _ _=>B_) (fun _ _ _ _ _ _=>(Ek (o_ rfl (.inr (.inl (by kernel_rfl)))) (aJ fM fO (o_ rfl (.inl (by kernel_rfl))) (gU kO rfl B_len xaG k_ (aA (o_ rfl (.inr (.inl (by kernel_rfl)))) aG aP)))))) ?_;refine aD (eO (i:=6) nd rfl Lv (Ek (SN.sem (kj (aA Es (aA Es (aA Es (aA Es aG eE) eE) eE) eE)) lst_is) (aJ fM fO (Ek Sv Ei) Ei))) ?_;refine aD (eO (i:=7) nd rfl Lv (aJ eX eY Ei (aJ fM fO (aJ nY nZ (aJ nY nZ (Ek Sv Ei) Ei) Ei) (Ek (SN.sem (kj (aA Ei (aA (aJ Dh Dk Ei Ei) (aA (aJ Dh Dk Ei Ei) aG i_) i_) eE)) lst_is) (aJ fM fO (Ek Sv Ei) Ei))))) ?_;refine aD (fJ (Ct hu Sv Ei) (aD (eF (gk (aA Es (aA Sv (aA (gk (aA (Ek Sv Ei) aG fQ)) (aA (lX zN rfl B_tuple xcz zY (aA (fD a__cond hr rfl (aA (Ek Sv Ei) (aA (aJ eX eY Ei (aJ fM fO (Ek Sv Ei) Ei)) aG i_) fQ) (cnt_cons (cnt_cons cnt_nil))) aG lu)) aG lu) pU) aP) eE))) aL) aL) ?_;refine aD (fJ (Ct hu Sv Ei) (aD (eF (gk (aA Es (aA Sv (aA (gk (aA (Ek Sv Ei) aG fQ)) (aA (lX zN rfl B_tuple xcz zY (aA (fD a__expr hr rfl (aA (Ek Sv Ei) (aA Es (aA (aJ eX eY Ei (aJ fM fO (Ek Sv Ei) Ei)) aG i_) eE) fQ) (cnt_cons (cnt_cons (cnt_cons cnt_nil)))) aG lu)) aG lu) pU) aP) eE))) aL) aL) ?_;refine aD (fJ (Ct hu Sv Ei) (aD (eF (gk (aA Es (aA Sv (aA (gk (aA (Ek Sv Ei) aG fQ)) (aA (gk (aA (lX xM rfl B_str xcA xX (aA (aJ fM fO (Ek Sv Ei) (aJ eX eY Ei (aJ fM fO (Ek Sv Ei) Ei))) aG i_)) (aA (lX xM rfl B_str xcA xX (aA (aJ eX eY Ei (aJ fM fO (Ek Sv Ei) Ei)) aG i_)) aG lu) lu)) aG pU) pU) aP) eE))) aL) aL) ?_;refine aD (fJ (SW.st (wz (Ct hu Sv Ei) (xu (Ct hu Sv Ei)))) (aD (eF (gk (aA Es (aA Sv (aA (lX zN rfl B_tuple xcz zY (aA (vf Sv w6 (pR (Wx:=W0) (aJ eX eY Ei (aJ fM fO (Ek Sv Ei) Ei)))) aG fQ)) (aA (gk aG) aG pU) lu) aP) eE))) aL) aL) ?_;refine aD (fJ (Ct hu Sv Ei) (aD (eF (gk (aA Es (aA Sv (aA (gk (aA (Ek Sv Ei) aG fQ)) (aA (gk (aA (lX xM rfl B_str xcA xX (aA Sv aG aP)) (aA Sv aG aP) lu)) aG pU) pU) aP) eE))) aL) aL) ?_;refine aD (fJ (Ct hu Sv Ei) (aD (eO (i:=8) nd rfl Lv (gU (zcm rfl) rfl B_min boot_min zfT (aA (aJ Dh Dk Ei Ei) (aA (aJ eX eY Sv (aJ fM fO (aJ nY nZ (aJ nY nZ (Ek Sv Ei) Ei) Ei) (aJ eX eY (aJ nY nZ Ei Sv) Ei))) aG i_) i_))) (aD (eF (gk (aA Es (aA Sv (aA (gk (aA (Ek Sv Ei) aG fQ)) (aA (gk (aA (lX xM rfl B_str xcA xX (aA Sv aG aP)) (aA (lX xM rfl B_str xcA xX (aA Sv aG aP)) (aA Sv aG aP) lu) lu)) aG pU) pU) aP) eE))) aL)) aL) ?_;refine aD (fJ (Ct hu Sv Ei) (aD (eF (gk (aA Es (aA Sv (aA (gk (aA (Ek Sv Ei) aG fQ)) (aA (gk (aA (lX xM rfl B_str xcA xX (aA Sv aG aP)) (aA Sv aG aP) lu)) aG pU) pU) aP) eE))) aL) aL) ?_;refine aD (fJ (Ct hu Sv Ei) (aD (eO (i:=9) nd rfl Lv (fD a__expr hr rfl (aA (Ek Sv Ei) (aA Es (aA (aJ eX eY Ei (aJ fM fO (Ek Sv Ei) Ei)) aG i_) eE) fQ) (cnt_cons (cnt_cons (cnt_cons cnt_nil))))) (aD (eF (gk (aA Es (aA Sv (aA (gk (aA (Ek Sv Ei) (aA (Ek Sv Ei) aG fQ) fQ)) (aA (lX zN rfl B_tuple xcz zY (aA (aJ eX eY (SN.sem (kj (aA (lX xM rfl B_str xcA xX (aA (aJ xW xY Sv Ei) aG i_)) aG lu)) lst_is) Sv) aG i_)) aG lu) pU) aP) eE))) aL)) aL) ?_;exact aD (eF (gk (aA Es (aA Sv (aA (gk (aA (Ek Sv Ei) aG fQ)) (aA (gk aG) aG pU) pU) aP) eE))) aL
def zfz (T:Txt K mg C w)(a__drawn:aR P w K mg base k "_law_drawn" 2 xR)(a__row:aR P w K mg base k "_law_row" 3 FZ):RT P w K mg base k f ["_law_cells_here","_law_rows_here","_law_above","_law_k","_law_row_here"] "_law_rows" KQ NP:=fun cdv A outer s H E hr=>by
 refine f9 hr fun hu=>?_;have nd:=(Z7).nd;have B_len:=T.blt "len" (by x_go);have B_range:=T.blt "range" (by x_go);refine aD (Ca (i:=1) nd rfl Lv (kj aG)) ?_;refine aD (eO (i:=2) nd rfl Lv (BR (kj aG))) ?_;refine aD (L_ xdh rfl nd rfl Lv (LC rfl B_range (aA (gU kO rfl B_len xaG k_ (aA Sv aG aP)) aG lu)) (aD (eO (i:=4) nd rfl Lv (fD a__row hr rfl (aA Sv (aA (fD a__drawn hr rfl (aA (aJ eX eY (Ek Sv Sv) (aJ nY nZ Ei Sv)) (aA Ei aG eE) i_) (cnt_cons (cnt_cons cnt_nil))) (aA Sv aG aP) lu) aP) (cnt_cons (cnt_cons (cnt_cons cnt_nil))))) (aD (xg rfl Lu Sv) (aD (fJ (Ct hu (Ek Sv Ei) Es) (aD (LR Sv (Ek Sv Ei)) aL) aL) aL)))) ?_;refine Lx ?_;exact aD (eF Sv) aL
def zeD (T:Txt K mg C w):RT P w K mg base k f ["_law_row_here"] "_law_line" KH Nx:=fun cdv A outer s H E hr=>by
 refine f9 hr fun hu=>?_;have nd:=(Z2).nd;have B_list:=T.blt "list" (by x_go);exact aD (eF (wu xbx xby Bm Bs Es (aA (aJ eX eY (aJ eX eY (SN.sem (kj (aA (Ek Sv Ei) (aA (Ek Sv Ei) aG fQ) fQ)) lst_is) (SN.sem (zcv rfl B_list (Ek Sv Ei)) Xf)) (SN.sem (zcv rfl B_list (Ek Sv Ei)) Xf)) aG i_))) aL
def zbm (T:Txt K mg C w):RT P w K mg base k f ["_law_line_here","_law_way","_law_x","_law_words","_law_bad","_law_named","_law_sift","_law_some"] "_law_formless" KC Nv:=fun cdv A outer s H E hr=>by
 refine f9 hr fun hu=>?_;have nd:=(Z0).nd;have B_len:=T.blt "len" (by x_go);refine aD (eO (i:=3) nd rfl Lv (wu xcn xco JV Rk Sv (aA Es aG eE))) ?_;refine aD (eO (i:=4) nd rfl Lv (Ek (SN.sem (kj (aA Es (aA Es (aA Es (aA Es (aA Es (aA Es aG eE) eE) eE) eE) eE) eE)) lst_is) (aJ fM fO Sv Ei))) ?_;refine aD (eO (i:=5) nd rfl Lv (aJ eX eY (aJ eX eY (Ek Sv Ei) Es) Sv)) ?_;refine aD (fJ (Ct hu (gU kO rfl B_len xaG k_ (aA Sv aG aP)) Ei) (aD (eO (i:=5) nd rfl Lv (aJ eX eY (aJ eX eY Sv Es) (wu xbx xby Bm Bs Es (aA (vf Sv (pR (Wx:=W0) Ei) w6) aG fQ)))) aL) aL) ?_;refine aD (eO (i:=6) nd rfl Lv (aJ eX eY Es (vf Sv (pR (Wx:=W0) (gU kO rfl B_len xaG k_ (aA (Ek Sv Ei) aG fQ))) w6))) ?_;refine aD (eO (i:=7) nd rfl Lv (SN.sem (kj (zc0 (ziq eX eY Sv) (ZK (aJ eX eY Es Sv) (ZK (aJ eX eY Sv Es) (zc3 (zfy Sv) (aA Es (aA (zda Sv) (aA (Ek Sv Ei) (aA Sv (aA Sv aG aP) aP) fQ) lu) eE) lu) i_) i_) i_)) lst_is)) ?_;exact aD (eF (Ek (aJ eX eY Sv (SN.sem (kj (aA (aJ eX eY Sv Es) aG i_)) lst_is)) Sv)) aL
theorem zbu (T:Txt K mg C w):RT P w K mg base k f ["_law_rows_here","_law_at","_law_x","_law_name_here","_law_froms","_law_one"] "_law_misnamed" HN Ny:=fun cdv A outer s H E hr=>by
 refine f9 hr fun hu=>?_;have nd:=(Z4).nd;have B_len:=T.blt "len" (by x_go);refine aD (eO (i:=3) nd rfl Lv (Ek (Ek Sv Sv) Ei)) ?_;refine aD (Ca (i:=4) nd rfl Lv (kj (aA Sv (aA Es aG eE) aP))) ?_;refine aD (fJ (Ct hu (aJ eX eY Sv Ei) (gU kO rfl B_len xaG k_ (aA Sv aG aP))) (aD (xg rfl Lu (Ek (Ek Sv (aJ eX eY (aJ eX eY Sv Ei) (aJ fM fO Sv (aJ xW xY (aJ xW xY (gU kO rfl B_len xaG k_ (aA Sv aG aP)) Sv) Ei)))) Ei)) aL) aL) ?_;refine aD (Ca (i:=4) nd rfl Lv (LK (Ds rfl (Ue)) (SN.sem (Dv "_law_row_here" [] rfl (by x_go) (SM (vf Sv w6 (pR (Wx:=W0) Sv))) (fun _ _ _ _ _ _=>(zhG (zd6 (wJ (X:=kW _ _ _ _ _ _ _ _ _) hu .eq) Br (Ek (o_ rfl (.inl (by kernel_rfl))) Ei) Es))) (fun _ _ _ _ _ _=>(Ek (o_ rfl (.inl (by kernel_rfl))) Ei))) zO))) ?_;refine aD (eO (i:=5) nd rfl Lv (Ek (Ds rfl (Ue)) (aJ fM fO (aJ nq nA Sv Ei) (gU kO rfl B_len xaG k_ (aA (Ds rfl (Ue)) aG aP))))) ?_;refine aD (fJ (SW.st (xq (Ct hu Sv Ei) (zx (Ct hu (aJ fM fO (aJ nq nA Sv Ei) Ei) Ei)))) (aD (eF (aJ eX eY (aJ eX eY (aJ eX eY (aJ eX eY (aJ eX eY Es Sv) Es) (Ek (Ek Sv Ei) Ei)) Es) Sv)) aL) aL) ?_;refine aD (fJ (Ct hu (aJ fM fO (aJ nq nA Sv Ei) Ei) Ei) (aD (eF (aJ eX eY (aJ eX eY (aJ eX eY Es Sv) Es) Sv)) aL) aL) ?_;exact aD (eF (aJ eX eY (aJ eX eY (aJ eX eY (aJ eX eY Es Sv) Es) Sv) Es)) aL
def zbS (T:Txt K mg C w)(a__line:aR P w K mg base k "_law_line" 1 zQ)(a__formless:aR P w K mg base k "_law_formless" 3 FP)(a__misnamed:aR P w K mg base k "_law_misnamed" 3 FQ):RT P w K mg base k f ["_law_rows_here","_law_at","_law_xs","_law_line_here","_law_way","_law_words"] "_law_spoiled" KR NZ:=fun cdv A outer s H E hr=>by
 refine f9 hr fun hu=>?_;have nd:=(Z8).nd;refine aD (eO (i:=3) nd rfl Lv (fD a__line hr rfl (aA (Ek Sv Sv) aG fQ) (cnt_cons cnt_nil))) ?_;refine aD (eO (i:=4) nd rfl Lv (aJ fM fO (Ek Sv Ei) Ei)) ?_;refine aD (fJ (Ct hu Sv Ei) (aD (eF (gk (aA (fD a__formless hr rfl (aA Sv (aA Sv (aA (Ek Sv Ei) aG fQ) aP) aP) (cnt_cons (cnt_cons (cnt_cons cnt_nil)))) (aA Es aG eE) lu))) aL) aL) ?_;refine aD (fJ (SW.st (xq (Ct hu Sv Ei) (zx (Ct hu Sv Ei)))) (aD (eO (i:=5) nd rfl Lv (BR (zcU Sv (aA Es aG eE)))) (aD (S_ Sv Ei (Ek (Ek Sv (aJ fM fO (Ek Sv Ei) Sv)) Ei)) (aD (fJ (Ct hu Sv Ei) (aD (eF (gk (aA (aJ eX eY (wu xbx xby Bm Bs Es (aA Sv aG aP)) Es) (aA Es aG eE) i_))) aL) aL) (aD (eF (gk (aA (wu xbx xby Bm Bs Es (aA Sv aG aP)) (aA Es aG eE) lu))) aL)))) aL) ?_;exact aD (eF (gk (aA (fD a__misnamed hr rfl (aA Sv (aA Sv (aA (Ek Sv Ei) aG fQ) aP) aP) (cnt_cons (cnt_cons (cnt_cons cnt_nil)))) (aA Es aG eE) lu))) aL
def zfJ (T:Txt K mg C w)(x_read_works:lV P w K mg base k "read_works" 1 tW):RT P w K mg base k f ["_law_text","_law_found","e"] "_law_told" HS N5:=fun cdv A outer s H E hr=>by
 refine f9 hr fun hu=>?_;have nd:=(Z9).nd;have B_isinstance:=T.blt "isinstance" (by x_go);refine aD (eO (i:=1) nd rfl Lu (gk (aA Es (aA (zkA zhN ziu Ei) (aA Eb aG eE) zbX) eE))) ?_;refine aD (zfi rfl rfl rfl (fun pins E'=>(Jm (Ma (Cd x_read_works hr rfl (aA Su aG aP) (cnt_cons cnt_nil))))) (zii (i:=2) nd rfl Mu rfl T.xm_NoText T.xc_NoText (za1 T) (fun e'=>(aD (eO (i:=1) nd rfl Lu (gk (aA Es (aA (zdY rfl Lu (fun c C h m=>YC T c C h m)) (aA (zcC rfl Mu (fun c b h=>zbj T c b h) (fun c b h=>zax T c b h) rfl B_isinstance rfl T.xm_NoName rfl T.xm_NoExpr) aG lu) zas) eE))) aL)) (zii (i:=2) nd rfl Mu rfl T.xm_NoName T.xc_NoName (za0 T) (fun e'=>(aD (eO (i:=1) nd rfl Lu (gk (aA Es (aA (zdY rfl Lu (fun c C h m=>YC T c C h m)) (aA (zcC rfl Mu (fun c b h=>zbd T c b h) (fun c b h=>zax T c b h) rfl B_isinstance rfl T.xm_NoText rfl T.xm_NoExpr) aG lu) zas) eE))) aL)) zge))) ?_;exact aD (eF Su) aL
def zb2 (T:Txt K mg C w)(x_read_works:lV P w K mg base k "read_works" 1 tW):RT P w K mg base k f ["_law_text","_law_refused","e"] "_law_by_base" HD Np:=fun cdv A outer s H E hr=>by
 refine f9 hr fun hu=>?_;have nd:=(ZQ).nd;have B_ValueError:=T.blt "ValueError" (by x_go);have B_isinstance:=T.blt "isinstance" (by x_go);refine aD (eO (i:=1) nd rfl Lu Eb) ?_;refine aD (ziG (i:=2) rfl rfl rfl nd rfl zay rfl T.xm_DamError T.xc_DamError (fun c h=>zaE T c h) (fun pins E'=>(Jm (Ma (Cd x_read_works hr rfl (aA Su aG aP) (cnt_cons cnt_nil))))) (fun e'=>(aD (eO (i:=1) nd rfl Lu (zeu (T:="ValueError") rfl zay (fun c b h=>zaA T c b h) rfl B_isinstance rfl B_ValueError PyProof.Rows.Boot.«ValueError»)) aL))) ?_;exact aD (eF Su) aL
theorem zkV (T:Txt K mg C w)(a_read_works:aR P w K mg base k "read_works" 1 tW)(a__cell_at:aR P w K mg base k "_law_cell_at" 2 wK)(a__cells:aR P w K mg base k "_law_cells" 1 CN)(a__drawn:aR P w K mg base k "_law_drawn" 2 xR)(a__rows:aR P w K mg base k "_law_rows" 1 Ga)(a__line:aR P w K mg base k "_law_line" 1 zQ)(a__spoiled:aR P w K mg base k "_law_spoiled" 3 yI)(a__told:aR P w K mg base k "_law_told" 1 Gb)(a__by_base:aR P w K mg base k "_law_by_base" 1 FJ):RT P w K mg base k f ["_law_script","_law_rows_here","_law_lines","_law_good","_law_xs","_law_at","_law_spoiled_here","_law_due","_law_other","_law_text","_law_found"] "law" wZ Jj:=fun cdv A outer s H E hr=>by
 refine f9 hr fun hu=>?_;have nd:=(zd4).nd;have B_bool:=T.blt "bool" (by x_go);have B_isinstance:=T.blt "isinstance" (by x_go);have B_len:=T.blt "len" (by x_go);refine aD (eO (i:=1) nd rfl Lv (fD a__rows hr rfl (aA (fD a__cells hr rfl (aA Sv aG aP) (cnt_cons cnt_nil)) aG lu) (cnt_cons cnt_nil))) ?_;refine aD (zdb "_law_row_here" [] (i:=2) nd rfl Lv rfl (by x_go) (SM Sv) (fun _ _ _ _ _ _=>B_) (fun _ _ _ _ _ _=>(fD a__line hr rfl (aA (o_ rfl (.inl (by kernel_rfl))) aG aP) (cnt_cons cnt_nil)))) ?_;refine ZL ?_;refine aD (eO (i:=3) nd rfl Lv (wu xbx xby Bm Bs Es (aA Sv aG aP))) ?_;refine aD (eO (i:=4) nd rfl Lv (fD a__drawn hr rfl (aA (aJ eX eY (aJ eX eY (fD a__cell_at hr rfl (aA Sv (aA Ei aG eE) aP) (cnt_cons (cnt_cons cnt_nil))) (aJ nY nZ Ei (fD a__cell_at hr rfl (aA Sv (aA Ei aG eE) aP) (cnt_cons (cnt_cons cnt_nil))))) (fD a__cell_at hr rfl (aA Sv (aA Ei aG eE) aP) (cnt_cons (cnt_cons cnt_nil)))) (aA Ei aG eE) i_) (cnt_cons (cnt_cons cnt_nil)))) ?_;refine aD (eO (i:=5) nd rfl Lv (aJ fM fO (Ek Sv Ei) (gU kO rfl B_len xaG k_ (aA Sv aG aP)))) ?_;refine aD (eO (i:=6) nd rfl Lv (fD a__spoiled hr rfl (aA Sv (aA Sv (aA (vf Sv (pR (Wx:=W0) Ei) w6) aG fQ) aP) aP) (cnt_cons (cnt_cons (cnt_cons cnt_nil))))) ?_;refine aD (S_ Sv Sv (Ek Sv Ei)) ?_;refine aD (eO (i:=7) nd rfl Lv (gk (aA (Ek Sv Ei) (aA Sv (aA Eb aG eE) aP) fQ))) ?_;refine aD (fJ (SW.st (xq (Ct hu (aJ fM fO (Ek Sv Ei) Ei) Ei) (zx (Ct hu (gU kO rfl B_len xaG k_ (aA Sv aG aP)) Ei)))) (aD (eO (i:=8) nd rfl Lv (aJ fM fO (aJ eX eY (aJ eX eY Sv Ei) (aJ fM fO (aJ nq nA (Ek Sv Ei) Ei) (aJ xW xY (gU kO rfl B_len xaG k_ (aA Sv aG aP)) Ei))) (gU kO rfl B_len xaG k_ (aA Sv aG aP)))) (aD (eO (i:=6) nd rfl Lv (fD a__spoiled hr rfl (aA Sv (aA Sv (aA (vf Sv (pR (Wx:=W0) Ei) w6) aG fQ) aP) aP) (cnt_cons (cnt_cons (cnt_cons cnt_nil))))) (aD (S_ Sv Sv (Ek Sv Ei)) (aD (fJ (Ct hu Sv Sv) (aD (eO (i:=7) nd rfl Lv (gk (aA (Ek Sv Ei) (aA Sv (aA Eb aG eE) aP) fQ))) aL) aL) aL)))) aL) ?_;refine aD (eO (i:=9) nd rfl Lv (wu xbx xby Bm Bs Es (aA Sv aG aP))) ?_;refine aD (eO (i:=10) nd rfl Lv (fD a__told hr rfl (aA Sv aG aP) (cnt_cons cnt_nil))) ?_;refine aD (fJ (SW.st (wz (Ct hu Sv Sv) (wz (vh (zfP (T:="bool") (fun t b h=>zeJ t "bool" b h) (Ek Sv Ei) rfl B_isinstance rfl B_bool boot_bool)) (xu (yp (vh (fD a__by_base hr rfl (aA Sv aG aP) (cnt_cons cnt_nil)))))))) (aD (eF Eb) aL) aL) ?_;exact aD (eF (Cm hu (fD a_read_works hr rfl (aA Sv aG aP) (cnt_cons cnt_nil)) Sv)) aL
end
noncomputable def Bl:Nat:=13
def wQ:G:=Wj
abbrev wNs:String:="Y6 R3 R4 RN RV RX zjm Rx Ry R5 R6 R7 zkm zkg q_1 r_1 q_2 r_2 RM zi0 zjo Uj zkB zjh zj6 zkR zln zlC zjz Ru zjT zjU zkF zhg zhV ziB q_n r_n zgt ziY ziU zej zf6 RP zeo zhu zeH zgS Rw zkU zkT zkN zjd zke zgd zkM ziA zhn zjp zhd RZ Rp zk1 zj1 zkv zlj zi8 zjj zf5 zhT zg9 Rn zgx zh6 zhh zis zk6 zfV zjs zjk zjx QZ QX QV QT zi1 zjM zk9 QW zij zfS zja zg5 zf4 zld zlf sizeLine_eq Option.map_some Option.map_none List.getElem?_cons_zero List.getElem?_cons_succ List.set_cons_zero List.set_cons_succ List.map_cons List.map_nil List.length_cons List.length_nil List.length_map List.replicate List.cons_append List.nil_append List.append_nil reduceCtorEq if_true if_false reduceIte Bool.not_true Bool.not_false Nat.reduceSub Nat.reduceAdd Nat.reduceLeDiff Nat.reduceLT Int.reduceLT Int.reduceLE Int.reduceAdd Int.reduceSub Int.reduceMul Int.reduceNeg Int.reduceAbs Int.reduceEq Int.reducePow Int.reduceMod Int.reduceDiv Int.reduceToNat Nat.zero_le and_true true_and and_self or_true true_or Bool.false_eq_true decide_eq_true_eq decide_true decide_false Bool.not_eq_true' decide_eq_false_iff_not not_true_eq_false not_false_eq_true eq_self zhP zh9 zfG zgr zhJ Option.getD_some zkz zjc ty_int ty_str zjt zit zil zhy zjZ zkX Ug zkZ zjJ zlD zjA zep zeA zlt zlc zhI zlM List.isEmpty_cons List.isEmpty_nil Bool.true_eq_false Bool.and_self Bool.and_true Bool.true_and Bool.and_false Bool.false_and zfg zfM ze9 zff ze8 zko Zd zhb zjN zkp zgB zhx zhH zeh zje zeG zfd zgj zeI zh1 zi6 zkn zjI zjY zjr zgO zir zkD zk8 zhK zhC R0 Rt T8 Ro Rr Rq Hl Y5 Hj Y4 zkQ ziF zlm zhl zlg zkr zla zgW ziT zhR zkW zlA zgX zhj ziz T6 zh5 zjK Bool.true_or Bool.false_or Bool.or_true Bool.or_false at0 at1 at2 Jb JF s_end w_end zd8 zfH zjX zjn ziV zkd zlu zgG zjR ziN zhO zcY zjO zlE zga zk0 zj0"
local macro_rules | `(tactic| z_go)=>do
 let l <-(wNs.splitOn " ").toArray.mapM fun n=> `(Lean.Parser.Tactic.simpLemma| $(Lean.mkIdent n.toName):term)
 `(tactic| try simp only[$l,*])
variable {M:Mm}
def zll (c:Nat):O8 [.val (.str ⟨#[c]⟩)] M=some (.v (.bl (!nR c)),M):=by
 unfold O8;z_go;rw[Wy]
def Py (x:Str)(hx:x.length<=100000):Ay [.str x] M=some (.v (.bl (ni (cd x))),M):=by
 unfold Ay Ob;z_go;rw[show x.cps.toList=cd x from rfl];simp only[Av,eq_0];have hl:(cd x).length<=100000:=by rw[<-fZ];exact hx
 by_cases h:cd x=[]
 ·simp only[h];z_go;rfl
 ·simp only[h];rw[zP (fun c=>D.str ⟨#[c]⟩) (fun c=>D.bl (!nR c)) (cd x) [] (fun c _=>zll c) (by rw[xav];simp;omega)];z_go;rw[show((cd x).map fun c=>D.bl (!nR c))=((cd x).map fun c=> !nR c).map D.bl by rw[xa9];rfl,Ey];z_go;simp only[zeO];obtain⟨c,r,e⟩:=xbZ h;unfold ni;cases hd:(cd x).all nR
  ·z_go
  ·z_go;rw[tG (show x.length<=16777216 by omega),show x.cps.toList=cd x from rfl];simp only[h,eq_0];rw[e,show eG (c::r) 0=some c by simp[eG,sS]]
   by_cases h0:(c::r)=[48]
   ·simp only[h0];z_go
   ·simp only[h0];z_go;simp only[eq_0,Vn,List.head?_cons,xeO,xbV];z_go
def ziZ (x:Str)(hx:x.length<=10000):Gp [.str x] M=some (.v (.bl (good (cd x))),M):=by
 unfold Gp Oj;z_go;rw[zjG];have hl:=fZ x
 by_cases h:(cd x).head? =some 45
 ·obtain⟨r,e⟩:∃r,cd x=45::r:=by
   cases hc:cd x with
   |nil=>rw[hc]at h;cases h
   |cons c r=>rw[hc]at h;simp at h;exact⟨r,by rw[h]⟩
  have hs:=zcT e;have hr:(Txt.slice x (some 1) none).length<=10000:=by
   rw[fZ,hs];rw[e]at hl
   simp at hl
   omega
  simp only[h];z_go;rw[tG (show x.length<=16777216 by omega)];z_go;simp only[V7,Py _ (show(Txt.slice x (some 1) none).length<=100000 by omega),hs];unfold good pZ;rw[tG h];simp only[e,xcO]
  by_cases h2:45::r=[45,48]
  ·simp only[h2];z_go
  ·simp only[h2];z_go
 ·simp only[h];z_go;simp only[V7,Py _ (show x.length<=100000 by omega)];unfold good pZ;rw[xab h]
  by_cases h2:cd x=[45,48]
  ·simp only[h2];z_go
  ·simp only[h2];z_go
def sO (x:Str):Bool:=good (cd x) && decide ((pZ (cd x)).length<=20)
def g_num (x:Str)(hx:x.length<=10000):Gk [.str x] M=some (.v (.bl (sO x)),M):=by
 unfold Gk Og sO;z_go;simp only[ziZ x hx];z_go;rw[tG (show x.length<=16777216 by omega)];z_go;cases hg:good (cd x)
 ·z_go
 ·have hl:=zfD hg;have:=PyProof.Rows.len_lstripChars x (Str.ofString "-");z_go;rw[tG (by omega),hl];z_go;congr 4;rw[xaQ];simp only[xaB];omega
noncomputable def tvw (x:Str):Bool:=decide (x="t") || decide (x="v") || decide (x="w")
def lf (x L:Str):Bool:=sO x || (tvw x && vq x L)
def zjQ {x:Str}:aF .isin (.str x) (.tup [.str "t",.str "v",.str "w"])=some (.bl (tvw x)):=by
 have q:∀y:Str,D.eq (.str y) (.str x)=decide (x=y):=fun y=>by
  simp only[D.eq];rw[xaQ]
  simp
  exact eq_comm
 unfold aF fV wG tvw;simp only[D.flat,xbs,xeG,xbY,xbb,xbm,xeH,xdC,q,xaV];rw[xes]
def Wl (x L:Str)(hx:x.length<=10000):Gi [.str x,.str L] M=some (.v (.bl (lf x L)),M):=by
 unfold Gi Od lf;z_go;simp only[g_num x hx];cases sO x
 ·z_go;rw[zjQ];cases tvw x
  ·z_go
  ·z_go
 ·z_go
theorem zlw {x z c:Str}{env:E3.Env}{k:Nat}(he:env[k]? =some (.val (.str x)))(hx:x.length<=100000)(hz:z.length<=1000):za c (pL (tY (ak k) (pD z pF))) env M=some (.ex c 0,M):=by
 rw[Rv,Ro,Y5,Rx,he,R5,RP,zh5,xav,tG (show x.length<=16777216 by omega),Hl,xav];have e:(Str.empty ++ x).length=x.length:=by rw[xb0,show Str.empty.length=0 from rfl];omega
 rw[tG (by omega),Rq,xav,tG (by rw[xb0];omega),Rr,xav,tG (by rw[xb0];omega)];rfl
theorem zlv {x z c:Str}{env:E3.Env}{k:Nat}(he:env[k]? =some (.val (.str x)))(hx:(reprText x).length<=100000)(hz:z.length<=1000):za c (pL (wO (ak k) (pD z pF))) env M=some (.ex c 0,M):=by
 rw[Rv,Ro,Y4,Rx,he,R5,RP];have e:(Str.empty ++ reprText x).length=(reprText x).length:=by rw[xb0,show Str.empty.length=0 from rfl];omega
 rw[Hj,xav,tG ⟨by omega,by omega⟩,Rq,xav,tG (by rw[xb0];omega),Rr,xav,tG (by rw[xb0];omega)];rfl
def sm (x:Str):Prop:=x.length<=9000/\∀c∈cd x,c<4294967296
def sm.rp {x:Str}(h:sm x):(reprText x).length<=100000:=by
 have:=StrLaws.reprText_len x (fun c hc=>h.2 c hc);have:=h.1;omega
noncomputable def NT:List (Str×(Str×Str×Nat)):=[("+","number","number",2),("-","number","number",2),("*","number","number",2),("least","number","number",2),("most","number","number",2),("<","truth","number",2),("=","truth","number",2),("not","truth","truth",1),("and","truth","truth",2),("or","truth","truth",2)]
def lQ (x:Str):Option (Str×Str×Nat):=(NT.find? fun p=>decide (p.1=x)).map (·.2)
noncomputable def sV (q:Str×Str×Nat):D:=.tup [.str q.1,.str q.2.1,.int q.2.2]
theorem zh4:DN=NT.map fun p=>(p.1,sV p.2):=rfl
theorem Df {x:Str}:lB DN x=(lQ x).map sV:=by
 rw[zh4];unfold lB lQ;rw[List.find?_map];show Option.map _ (Option.map _ (NT.find? fun p=>decide (p.1=x)))=_;cases NT.find? fun p=>decide (p.1=x)<;>rfl
def QB {x:Str}{q:Str×Str×Nat}(h:lQ x=some q):(x,q)∈NT:=by
 unfold lQ at h;rw[xae]at h;obtain⟨p,hp,rfl⟩:=h;have h1:=xcl hp;have h2:=xbi hp;rw[<-xbc h1];exact h2
def zf9:NT.all (fun p=>(decide (p.2.2.2=1) || decide (p.2.2.2=2)) && (!sO p.1 && (!tvw p.1 && decide (p.1.length<=5))))=true:=by x_go
def Yv {x:Str}{q:Str×Str×Nat}(h:lQ x=some q):(q.2.2=1\/q.2.2=2)/\sO x=false/\tvw x=false/\x.length<=5:=by
 have:=xaO.mp zf9 _ (QB h);simp only[xac,xbp,xaB,xcp]at this;exact this
def zfI {x:Str}(h:sO x=true\/tvw x=true):lQ x=none:=by
  cases hn:lQ x with
  |none=>rfl
  |some d=>
    obtain⟨_,h1,h2,_⟩:=Yv hn;rw[h1,h2]at h;rcases h with h |h<;>cases h
def Qo {x L:Str}(h:lf x L=true):lQ x=none:=by
 unfold lf at h;rw[xbp,xac]at h;exact zfI (h.imp id (·.1))
noncomputable def nP (a:Str):Nat->List Str->Option (List Str)
 |0,ks=>some ks
 |_ + 1,[]=>none
 |n + 1,b::ks=>if b=a then nP a n ks else none
noncomputable def stepK (L x:Str) (ks:List Str):Option (List Str):=match lQ x with
 |some q=>(nP q.2.1 q.2.2 ks).map (q.1:: ·)
 |none=>if lf x L=true then some ("number"::ks) else none
noncomputable def runK (L:Str):List Str->List Str->Option (List Str)
 | [],ks=>some ks
 |x::xs,ks=>(stepK L x ks).bind (runK L xs)
theorem R9 {L:Str}:∀{xs ys ks:List Str},runK L (xs ++ ys) ks=(runK L xs ks).bind (runK L ys)
  | [],_,_=>rfl
  |x::xs,ys,ks=>by
    rw[xbf,runK,runK]
    cases stepK L x ks with
    |none=>rfl
    |some k=>exact R9
abbrev kc (ks:List Str):E3.Cl:=.lst (ks.map D.str).reverse
def Rm {k:Nat}{d:D}{ds:List D}:yV M k (d::ds).reverse (d::ds).reverse[(d::ds).reverse.length - 1]? =some (.v d,M.set k (.lst ds.reverse)):=by
 have e1:(d::ds).reverse[(d::ds).reverse.length - 1]? =some d:=by simp
 have e2:(d::ds).reverse.dropLast=ds.reverse:=by simp
 rw[e1,Zd,e2]
theorem Ua {x:Str}{q:Str×Str×Nat}{i:Int}{ks:List Str}(hl:x.length<=5):Qm [.val (.str x),.val (.ref M.length),.val (sV q),.val (.int i)] (M ++ [kc ks])=match ks with
    | []=>some (.ex "NoExpr" 0,M ++ [kc []])
    |b::ks=>if b=q.2.1 then some (.nx [.val (.str x),.val (.ref M.length),.val (sV q),.val (.int i)],M ++ [kc ks]) else some (.ex "NoExpr" 0,M ++ [kc ks]):=by
  have mg:∀N:Mm,za "NoExpr" (pL (tY (ak 0) (pD " needs other words behind it" pF))) [.val (.str x),.val (.ref M.length),.val (sV q),.val (.int i)] N=some (.ex "NoExpr" 0,N):=fun N=>zlw (M:=N) (k:=0) rfl (show x.length<=100000 by omega) (by x_go);unfold Qm kc sV;unfold sV at mg
  cases ks with
  |nil=>
    z_go;rw[show([]:List D).reverse=[] from rfl];z_go;rw[mg];rfl
  |cons b ks=>
    z_go;rw[xem];z_go;rw[Rm];z_go
    by_cases h:b=q.2.1
    · simp only[h];z_go
    · simp only[h];z_go;rw[mg];rfl
def zlb {x:Str}{q:Str×Str×Nat}(h:lQ x=some q)(ks:List Str):(∃ks',nP q.2.1 q.2.2 ks=some ks'/\CV [.str x,.ref M.length] (M ++ [kc ks])=some (.v .non,M ++ [kc ks']))\/(nP q.2.1 q.2.2 ks=none/\∃ks',CV [.str x,.ref M.length] (M ++ [kc ks])=some (.x "NoExpr" 0,M ++ [kc ks'])):=by
  obtain⟨hn,_,_,hl⟩:=Yv h;unfold CV Ot;z_go;rw[Df,h];z_go;have i2:∀N:Mm,mapR N (aO (sV q) (.int 2))=some (.v (.int q.2.2),N):=fun N=>by
    unfold sV;z_go
  have w0:∀N:Mm,vw N (sV q)=sV q:=fun N=>rfl;simp only[w0,i2];z_go;rcases hn with hn |hn
  · rw[hn,Ho (by omega),show((List.range ((1:Nat):Int).toNat).map fun(k:Nat)=>D.int (0 + k))=[.int 0] from rfl];z_go;rw[Ua hl]
    cases ks with
    |nil=>exact .inr ⟨rfl,[],rfl⟩
    |cons b ks=>
      dsimp only;unfold nP
      by_cases hb:b=q.2.1
      · rw[tG hb,tG hb];exact .inl ⟨ks,rfl,rfl⟩
      · rw[xab hb,xab hb];exact .inr ⟨rfl,ks,rfl⟩
  · rw[hn,Ho (by omega),show((List.range ((2:Nat):Int).toNat).map fun(k:Nat)=>D.int (0 + k))=[.int 0,.int 1] from rfl];z_go;rw[Ua hl]
    cases ks with
    |nil=>exact .inr ⟨rfl,[],rfl⟩
    |cons b ks=>
      dsimp only;unfold nP
      by_cases hb:b=q.2.1
      · rw[tG hb,tG hb];z_go;rw[Ua hl]
        cases ks with
        |nil=>exact .inr ⟨rfl,[],rfl⟩
        |cons b ks=>
          dsimp only;unfold nP
          by_cases hb:b=q.2.1
          · rw[tG hb,tG hb];exact .inl ⟨ks,rfl,rfl⟩
          · rw[xab hb,xab hb];exact .inr ⟨rfl,ks,rfl⟩
      · rw[xab hb,xab hb];exact .inr ⟨rfl,ks,rfl⟩
def W8 {ks:List Str}{y:Str}:(ks.map D.str).reverse ++ [D.str y]=((y::ks).map D.str).reverse:=by rw[xak,List.reverse_cons]
def zfc {d0:D}{x L wt:Str}{ks:List Str}(hx:sm x)(hk:ks.length<1000):(∃ks',stepK L x ks=some ks'/\zU [.val d0,.val (.str L),.val (.str wt),.val (.ref M.length),.val (.str x)] (M ++ [kc ks])=some (.nx [.val d0,.val (.str L),.val (.str wt),.val (.ref M.length),.val (.str x)],M ++ [kc ks']))\/(stepK L x ks=none/\∃ks',zU [.val d0,.val (.str L),.val (.str wt),.val (.ref M.length),.val (.str x)] (M ++ [kc ks])=some (.ex "NoExpr" 0,M ++ [kc ks'])):=by
  have mg:=zlv (M:=M ++ [kc ks]) (c:="NoExpr") (z:=" may not stand here") (k:=4) (env:=[.val d0,.val (.str L),.val (.str wt),.val (.ref M.length),.val (.str x)]) rfl hx.rp (by x_go);unfold zU stepK
  cases hn:lQ x with
  |some q=>
    have i0:∀N:Mm,mapR N (aO (sV q) (.int 0))=some (.v (.str q.1),N):=fun N=>by
      unfold sV;z_go
    have w0:∀N:Mm,vw N (sV q)=sV q:=fun N=>rfl;dsimp only;rcases zlb (M:=M) hn ks with⟨ks',e1,e2⟩ |⟨e1,ks',e2⟩
    · have hk':ks'.length<=ks.length:=by
        have:∀(n:Nat) (ks ks':List Str),nP q.2.1 n ks=some ks'->ks'.length<=ks.length:=fun n=>by
          induction n with
          |zero=>intro ks ks' h;cases h;exact xad _
          |succ n ih=>
            intro ks ks' h
            cases ks with
            |nil=>cases h
            |cons b ks=>
              unfold nP at h;split at h
              · have:=ih ks ks' h;rw[xal];omega
              · cases h
        exact this _ _ _ e1
      refine .inl ⟨q.1::ks',by rw[e1];rfl,?_⟩;z_go;rw[Df,hn];simp only[xaV,xcj];z_go;rw[e2];z_go;rw[Df,hn];z_go;simp only[w0,i0];unfold kc;z_go;rw[xba,xap,tG (by omega),W8];z_go
    · refine .inr ⟨by rw[e1];rfl,ks',?_⟩;z_go;rw[Df,hn];simp only[xaV,xcj];z_go;rw[e2];rfl
  |none=>
    dsimp only;cases hf:lf x L
    · refine .inr ⟨rfl,ks,?_⟩;z_go;rw[Df,hn];simp only[xdi,xcK];z_go;rw[Wl x L (by have:=hx.1;omega),hf];z_go;rw[mg];rfl
    · refine .inl ⟨"number"::ks,rfl,?_⟩;z_go;rw[Df,hn];simp only[xdi,xcK];z_go;rw[Wl x L (by have:=hx.1;omega),hf];unfold kc;z_go;rw[xba,xap,tG (by omega),W8];z_go
def zcr {L x:Str}{ks ks':List Str}(h:stepK L x ks=some ks'):ks'.length<=ks.length + 1:=by
  have tk:∀(a:Str) (n:Nat) (ks ks':List Str),nP a n ks=some ks'->ks'.length<=ks.length:=fun a n=>by
    induction n with
    |zero=>intro ks ks' h;cases h;exact xad _
    |succ n ih=>
      intro ks ks' h
      cases ks with
      |nil=>cases h
      |cons b ks=>
        unfold nP at h;split at h
        · have:=ih ks ks' h;rw[xal];omega
        · cases h
  unfold stepK at h;split at h
  · rw[xae]at h;obtain⟨k1,h1,rfl⟩:=h;have:=tk _ _ _ _ h1;rw[xal];omega
  · split at h
    · cases h;rw[xal];omega
    · cases h
theorem Zy {L:Str}:∀{xs ks ks':List Str},runK L xs ks=some ks'->ks'.length<=ks.length + xs.length
  | [],_,_,h=>by cases h;exact Nat.le_add_right _ _
  |x::xs,ks,ks',h=>by
    unfold runK at h;rw[xce]at h;obtain⟨k1,h1,h2⟩:=h;have:=zcr h1;have:=Zy h2;rw[xal];omega
theorem Ib:∀ys:List Str,D.deps (ys.map D.str)=0
 | []=>by simp[D.deps]
 |y::ys=>by simp[D.deps,D.dep,Ib ys]
theorem zd5:∀(as bs:List Str),D.eqs (as.map D.str) (bs.map D.str)=decide (as=bs)
  | [],[]=>by simp[D.eqs]
  | [],b::bs=>by simp[D.eqs]
  |a::as,[]=>by simp[D.eqs]
  |a::as,b::bs=>by
    simp only[xak,D.eqs,D.eq,zd5 as bs];rw[xaQ]
    simp
def zhf {as bs:List Str}:aF .ne (.lst (as.map D.str)) (.lst (bs.map D.str))=some (.bl (!decide (as=bs))):=by
 unfold aF fV wH;rw[tG ⟨by simp[gY,D.flat,D.dep,Ib],by simp[D.dep,Ib]⟩];simp only[D.eq,zd5,xaV]
def zjE {ks:List Str}{wt:Str}:aF .ne (.lst (ks.map D.str).reverse) (.lst [.str wt])=some (.bl (!decide (ks=[wt]))):=by
 rw[<-List.map_reverse,show [D.str wt]=[wt].map D.str from rfl,zhf];have:(ks.reverse=[wt])=(ks=[wt]):=propext ⟨fun h=>by rw[<-List.reverse_reverse ks,h];rfl,fun h=>by rw[h];rfl⟩;simp only[this]
def Fp (xs:List Int):Prop:=∀x∈xs,0<=x/\x<715827877
def Ax {n:Int}{m:Nat}(hm:m<=1000):∃xs:List Int,xs.length=m/\Fp xs/\∀M:Mm,xR [.int n,.int m] M=some (.v (.lst (xs.map .int)),M):=by
  let P:E3.OS->Mm->List Int->Prop:=fun o M xs=>∃s3 s4,o=some (.nx [.val (.int n),.val (.int m),.own (xs.map .int),s3,s4],M)
  have key:∃xs:List Int,xs.length=m/\Fp xs/\∀M:Mm,P (loopS 4 JN ((List.range m).map fun(k:Nat)=>D.int (0 + k)) [.val (.int n),.val (.int m),.own [],.val (.int (n % 2147483629)),.un] M) M xs:=by
    -- the numbers by themselves
    let st:Int×List Int->Nat->Int×List Int:=fun p k=>let x:=(p.1 * p.1 + 40692 * p.1 + 2 * (0 + (k:Int)) + 1) % 2147483629;(x,p.2 ++ [x / 3])
    let at_:Nat->Int×List Int:=fun k=>(List.range k).foldl st (n % 2147483629,[])
    have hst:∀k,at_ (k + 1)=st (at_ k) k:=fun k=>by simp only[at_,List.range_succ,List.foldl_append,xdc,List.foldl_nil]
    have hb:∀k,0<=(at_ k).1/\(at_ k).1<2147483629/\(at_ k).2.length=k/\Fp (at_ k).2:=fun k=>by
      induction k with
      |zero=>exact⟨xaN _ (by decide),xaA _ (by decide),rfl,fun x hx=>by cases hx⟩
      |succ k ih=>
        rw[hst];refine⟨xaN _ (by decide),xaA _ (by decide),by simp only[st,xam,ih.2.2.1,xaE],fun x hx=>?_⟩;simp only[st,xay,xaF]at hx;rcases hx with hx |hx
        · exact ih.2.2.2 x hx
        · have h1:=xaN ((at_ k).1 * (at_ k).1 + 40692 * (at_ k).1 + 2 * (0 + (k:Int)) + 1) (show(2147483629:Int)≠0 by decide);have h2:=xaA ((at_ k).1 * (at_ k).1 + 40692 * (at_ k).1 + 2 * (0 + (k:Int)) + 1) (show(0:Int)<2147483629 by decide);subst hx;omega
    refine⟨(at_ m).2,(hb m).2.2.1,(hb m).2.2.2,fun M=>?_⟩;refine Qq (fun o=>P o M (at_ m).2) (fun k env M'=>M'=M/\∃s4,env=[.val (.int n),.val (.int m),.own ((at_ k).2.map .int),.val (.int (at_ k).1),s4]) ⟨rfl,.un,rfl⟩ ?_ ?_
    · rintro k d env M' hd ⟨rfl,s4,rfl⟩;have hk:k<m:=by
        have:=(xag.mp hd).1
        simpa using this
      rw[xax,xdl hk,xaV]at hd;cases hd;refine⟨by show 4<5;decide,?_⟩;have hx:=hb k;have hq:=hb (k + 1);rw[hst]at hq;show Step _ _ (JN [.val (.int n),.val (.int m),.own ((at_ k).2.map .int),.val (.int (at_ k).1),.val (.int (0 + k))] M');generalize e1:(at_ k).1=x at *;generalize e2:(at_ k).2=xs at *;unfold JN;z_go;rw[tG (.inl (by omega))];z_go;rw[tG (show xs.length<16777216 by omega)];refine⟨rfl,.val (.int (0 + k)),?_⟩;rw[hst];simp only[st,e1,e2,xaP,xak,xcI]
    · rintro env M' ⟨rfl,s4,rfl⟩;rw[xap,xcq];exact⟨_,_,rfl⟩
  obtain⟨xs,h1,h2,h3⟩:=key;refine⟨xs,h1,h2,fun M=>?_⟩;obtain⟨s3,s4,h3⟩:=h3 M;unfold xR Nt;z_go;rw[Ho (by omega),xbw];z_go;rw[h3];z_go
def zgv {x y:Str}(hx:x.length<=4000)(hy:y.length<=4000)(h1:∀c∈cd x,c<4294967296)(h2:∀c∈cd y,c<4294967296):sm (x ++ y):=by
 refine⟨by rw[xb0];omega,fun c hc=>?_⟩;rw[gW,xay]at hc;exact hc.elim (h1 c) (h2 c)
def V3 {i:Int}(h0:0<=i)(h1:i<1000000000000000000000):(b_ i).length<=22/\∀c∈cd (b_ i),c<4294967296:=by
 refine⟨Sy (k:=21) (by decide) (by rw[show(10:Nat) ^ 21=1000000000000000000000 by decide];omega),fun c hc=>?_⟩;unfold cd at hc;rw[w5 h0]at hc;have:=Cy i.toNat c hc;omega
def JC {n:Nat}:ni (dg n)=true:=by
 have hall:(dg n).all nR=true:=xaO.mpr fun c hc=>by
  have:=Cy n c hc;unfold nR;rw[xaC this.1,xaC this.2];rfl
 unfold ni;rw[hall,xat (Ju n)]
 by_cases h0:n=0
 ·subst h0;rw[zec];rfl
 ·obtain⟨c,r,e,hc⟩:=V1 n h0;rw[e,List.head?_cons,xat (show ¬ (some c=some 48) from fun z=>by have:=xaw z;omega)]
  simp
def VR {n:Int}(h0:0<=n)(h1:n<100000000000000000000):(dg n.toNat).length<=20:=Fo (by decide) (by rw[show(10:Nat) ^ 20=100000000000000000000 by decide];omega)
def V0 {n:Nat}:(dg n).head? ≠some 45:=fun h=>by
  cases e:dg n with
  |nil=>exact Ju n e
  |cons c r=>
    rw[e]at h;have:=Cy n c (by rw[e];exact xaD)
    simp at h
    omega
theorem zfF {n:Int}(h0:0<=n)(h1:n<100000000000000000000):sO (b_ n)=true:=by
 have e:cd (b_ n)=dg n.toNat:=w5 h0;have ef:pZ (dg n.toNat)=dg n.toNat:=by unfold pZ;rw[xab V0]
 unfold sO good;rw[e,ef,JC,xaC (VR h0 h1),xat (fun z=>V0 (n:=n.toNat) (by rw[z];rfl))];rfl
theorem zfa {n:Int}(h0:0<n)(h1:n<100000000000000000000):sO (Str.ofString "-" ++ b_ n)=true:=by
 have e:cd (Str.ofString "-" ++ b_ n)=45::dg n.toNat:=by
  rw[gW,show cd (Str.ofString "-")=[45] by x_go,show cd (b_ n)=dg n.toNat from w5 (by omega)];rfl
 have ef:pZ (45::dg n.toNat)=dg n.toNat:=by unfold pZ;rw[tG (show(45::dg n.toNat).head? =some 45 from rfl)];rfl
 unfold sO good;rw [e, ef, JC, xaC (VR (by omega) h1), xat (fun z=>by
  have z2:dg n.toNat=[48]:=by simpa using z
  obtain⟨c,r,e2,hc⟩:=V1 n.toNat (by omega);rw[e2]at z2
  simp at z2
  omega)]
 rfl
def LG (L:Str):Prop:=L.length<=10/\∀c∈cd L,c=116\/c=118\/c=119
theorem zhB {c:Nat}{L:Str}:vq ⟨#[c]⟩ L=decide (c∈cd L):=by
 unfold vq;rw[xdK];rfl
def zhM {c:Nat}{L:Str}(hL:LG L)(hc:c∈cd L):lf ⟨#[c]⟩ L=true:=by
 unfold lf;rw[zhB,xaC hc];have:tvw ⟨#[c]⟩=true:=by
  rcases hL.2 c hc with rfl |rfl |rfl<;>decide +kernel
 rw[this]
 simp
def zfW {c:Nat}(h:c<4294967296):sm ⟨#[c]⟩:=⟨by show 1<=9000;decide,fun d hd=>by rw[Vn,xaF]at hd;rw[hd];exact h⟩
theorem Xc {x:Int}{L:Str}(hL:LG L):∃w,lf w L=true/\sm w/\∀M:Mm,yH [.int x,.str L] M=some (.v (.str w),M):=by
 have hll:=hL.1
 by_cases h:0<x % 3/\L≠Str.ofString ""
 ·have hp:0<L.length:=by
   rcases Nat.eq_zero_or_pos L.length with z |z
   ·exfalso
    apply h.2;rw[Av];exact xcf.mp (by rw[<-fZ];exact z)
   ·exact z
  have p0:=xaN (x / 3) (show(L.length:Int)≠0 by omega);have p1:=xaA (x / 3) (show(0:Int)<(L.length:Int) by omega);have hl:=fZ L;have hx:=xah (show((x / 3) % (L.length:Int)).toNat<(cd L).length by omega);generalize (cd L)[((x / 3) % (L.length:Int)).toNat]=c at hx;have hc:=xaW hx;have ha:=gR hx;rw[xca p0]at ha;refine⟨⟨#[c]⟩,zhM hL hc,zfW (by rcases hL.2 c hc with z |z |z<;>omega),fun M=>?_⟩
  have hL6:L.length<=16777216:=by clear p0 p1 hx h ha hl;omega
  unfold yH Jf;z_go;simp only[h.1,h.2];z_go;rw[tG hL6];z_go;rw[tG (show(0:Int)<(L.length:Int) from Int.ofNat_lt.mpr hp)];z_go;rw[tG hL6,show L.cps.toList=cd L from rfl,ha];z_go
 ·have hm:∃q:Int,0<q/\q<=100000000000000000000/\eG [D.int 10,.int 100,.int 1000000,.int 1000000000000,.int 100000000000000000000] (x / 9 % 5)=some (.int q):=by
   have:x / 9 % 5=0\/x / 9 % 5=1\/x / 9 % 5=2\/x / 9 % 5=3\/x / 9 % 5=4:=by omega
   rcases this with e |e |e |e |e<;>rw[e]
   ·exact⟨_,by decide,by decide,at0⟩
   ·exact⟨_,by decide,by decide,at1⟩
   ·exact⟨_,by decide,by decide,at2⟩
   ·exact⟨_,by decide,by decide,Jb⟩
   ·exact⟨_,by decide,by decide,gR (j:=4) rfl⟩
  obtain⟨q,q0,q1,eq⟩:=hm;have n0:=xaN (x * 1000003 * 104729 * 7919) (show q≠0 by omega);have n1:=xaA (x * 1000003 * 104729 * 7919) q0;generalize en:(x * 1000003 * 104729 * 7919) % q=n at n0 n1;obtain⟨wl,ws⟩:=V3 (i:=n) n0 (by omega);have lg:n.natAbs.log2<1920:=Xj (by omega);have go:∀M:Mm,yH [.int x,.str L] M=kZ (JW [.val (.int x),.val (.str L),.val (.int n)] M):=fun M=>by
   unfold yH Jf;z_go;have st:(if 0<x % 3 then some (Res.v (D.bl (!decide (L=Str.ofString ""))),M) else some (Res.v (D.bl false),M))=some (Res.v (D.bl false),M):=by
    by_cases z:0<x % 3
    ·have z2:L=Str.ofString "":=Classical.byContradiction fun z2=>h ⟨z,z2⟩;rw[tG z,xaC z2];rfl
    ·rw[xab z]
   rw[st];z_go;unfold XR;z_go;rw[eq];z_go;rw[tG q0,en];z_go
  simp only[go]
  by_cases h2:x / 2 % 2=1/\0<n
  ·refine⟨Str.ofString "-" ++ b_ n,?_,zgv (by x_go) (by omega) (fun c hc=>by revert c;decide +kernel) ws,fun M=>?_⟩
   ·unfold lf;rw[zfa h2.2 (by omega)];rfl
   ·unfold JW;z_go;simp only[h2.1,h2.2];z_go;rw[tG lg];z_go;rw[show(Str.ofString "-").length=1 by x_go,tG (show 1 + (Str.ofString (toString n)).length<=16777216 from by have:(Str.ofString (toString n)).length<=22:=wl;omega)];rfl
  ·refine⟨b_ n,?_,⟨by omega,ws⟩,fun M=>?_⟩
   ·unfold lf;rw[zfF n0 (by omega)];rfl
   ·unfold JW;z_go;have st:(if x / 2 % 2=1 then some (Res.v (D.bl (decide (0<n))),M) else some (Res.v (D.bl false),M))=some (Res.v (D.bl false),M):=by
     by_cases z:x / 2 % 2=1
     ·rw[tG z,xat (fun z2=>h2 ⟨z,z2⟩)]
     ·rw[xab z]
    rw[st];unfold XS;z_go;rw[tG lg];z_go;rfl
def NW (L x:Str):Prop:=(lQ x=some (Str.ofString "number",Str.ofString "number",2)\/(lQ x=none/\lf x L=true))/\sm x
noncomputable def nums (n:Nat):List Str:=List.replicate n "number"
def zd3 {x:Str}(h:(decide (x.length<=9000) && (cd x).all fun c=>decide (c<4294967296))=true):sm x:=by
 rw[xac,xaB,xaO]at h;exact⟨h.1,fun c hc=>xbc (h.2 c hc)⟩
def V9 {L:Str}{k:Int}:∃x:Str,NW L x/\lQ x=some (Str.ofString "number",Str.ofString "number",2)/\eG [D.str "+",.str "-",.str "*",.str "least",.str "most"] (k % 5)=some (.str x):=by
 have mk:∀x:Str,lQ x=some (Str.ofString "number",Str.ofString "number",2)->(decide (x.length<=9000) && (cd x).all fun c=>decide (c<4294967296))=true->NW L x/\lQ x=some (Str.ofString "number",Str.ofString "number",2):=fun x h s=>⟨⟨.inl h,zd3 s⟩,h⟩;have:k % 5=0\/k % 5=1\/k % 5=2\/k % 5=3\/k % 5=4:=by omega
 rcases this with e |e |e |e |e<;>rw[e]
 ·obtain⟨a,b⟩:=mk "+" (by x_go) (by x_go);exact⟨_,a,b,at0⟩
 ·obtain⟨a,b⟩:=mk "-" (by x_go) (by x_go);exact⟨_,a,b,at1⟩
 ·obtain⟨a,b⟩:=mk "*" (by x_go) (by x_go);exact⟨_,a,b,at2⟩
 ·obtain⟨a,b⟩:=mk "least" (by x_go) (by x_go);exact⟨_,a,b,Jb⟩
 ·obtain⟨a,b⟩:=mk "most" (by x_go) (by x_go);exact⟨_,a,b,gR (j:=4) rfl⟩
def zjD {L x:Str}{n:Nat}(h:lQ x=some (Str.ofString "number",Str.ofString "number",2))(hn:1<=n):stepK L x (nums (n + 1))=some (nums n):=by
 obtain⟨m,rfl⟩:∃m,n=m + 1:=⟨n - 1,by omega⟩;unfold stepK;rw[h];unfold nums;simp only[xew,nP,xbb,xaV]
def zkc {L x:Str}{n:Nat}(h:lf x L=true)(hn:1<=n):stepK L x (nums (n - 1))=some (nums n):=by
 obtain⟨m,rfl⟩:∃m,n=m + 1:=⟨n - 1,by omega⟩;unfold stepK;rw[Qo h];dsimp only;rw[tG h];unfold nums;rw[xdz,xew]
def Wo {L:Str}{num:Int}{most:Nat}(hL:LG L)(hm:1<=most/\most<=45):∃ws:List Str,runK L ws.reverse []=some [Str.ofString "number"]/\(∀w∈ws,NW L w)/\1<=ws.length/\ws.length<=most/\CP [.int num,.str L,.int most] M=some (.v (.lst (ws.map D.str)),M):=by
  have lp:∃ws:List Str,∃s5 s6,runK L ws.reverse []=some [Str.ofString "number"]/\(∀w∈ws,NW L w)/\1<=ws.length/\ws.length<=most/\Dp 1000 T4 Dc [.val (.int num),.val (.str L),.val (.int most),.own [],.val (.int 1),.val (.int (num % 2147483629)),.un] M=some (.nx [.val (.int num),.val (.str L),.val (.int most),.own (ws.map D.str),.val (.int 0),s5,s6],M):=by
    refine Um (Q:=fun o=>∃ws:List Str,∃s5 s6,runK L ws.reverse []=some [Str.ofString "number"]/\(∀w∈ws,NW L w)/\1<=ws.length/\ws.length<=most/\o=some (.nx [.val (.int num),.val (.str L),.val (.int most),.own (ws.map D.str),.val (.int 0),s5,s6],M)) (fun m env N=>N=M/\∃(ws:List Str) (need:Nat) (x:Int) (s6:E3.Slot),env=[.val (.int num),.val (.str L),.val (.int most),.own (ws.map D.str),.val (.int need),.val (.int x),s6]/\m=most - ws.length/\ws.length + need<=most/\runK L ws.reverse (nums need)=some [Str.ofString "number"]/\(∀w∈ws,NW L w)/\0<=x/\x<2147483629) ⟨most,by omega,rfl,[],1,_,.un,rfl,rfl,by simpa using hm.1,rfl,(fun w hw=>by cases hw),xaN _ (by decide),xaA _ (by decide)⟩ ?_;rintro m env N ⟨rfl,ws,need,x,s6,rfl,rfl,hb,hr,hw,x0,x1⟩;refine⟨decide (0<(need:Int)),N,?_,?_⟩
    · unfold T4;z_go
    · by_cases hn:0<(need:Int)
      · rw[xaC hn,tG rfl];have y0:=xaN (x * x + 40692 * x + ((ws.length:Nat):Int) + 1) (show(2147483629:Int)≠0 by decide);have y1:=xaA (x * x + 40692 * x + ((ws.length:Nat):Int) + 1) (show(0:Int)<2147483629 by decide);generalize ey:(x * x + 40692 * x + ((ws.length:Nat):Int) + 1) % 2147483629=y at y0 y1
        replace ey:id (_=_):=ey
        obtain⟨op,nwo,ndo,eo⟩:=V9 (L:=L) (k:=y / 7 / 2);obtain⟨w,lw,sw,ew⟩:=Xc (x:=y / 7 / 2) hL;have hx64:x.natAbs<18446744073709551616:=by omega
        by_cases c:y / 7 % 2=1/\((ws.length:Nat):Int) + (need:Int) + 2<=(most:Int)
        · have e:Dc [.val (.int num),.val (.str L),.val (.int most),.own (ws.map D.str),.val (.int need),.val (.int x),s6] N=some (.nx [.val (.int num),.val (.str L),.val (.int most),.own ((ws ++ [op]).map D.str),.val (.int ((need + 1:Nat):Int)),.val (.int y),.val (.int (y / 7))],N):=by
            unfold Dc;z_go;rw[tG (.inl hx64)];z_go;rw[show _=y from ey];z_go;simp only[c.1,c.2];z_go;rw[eo];z_go;rw[tG (by omega)];z_go;rw[xaP];rfl
          rw[e];refine⟨most - (ws ++ [op]).length,by rw[xam,xaE];omega,rfl,ws ++ [op],need + 1,y,_,rfl,rfl,by rw[xam,xaE];omega,?_,fun u hu=>?_,y0,y1⟩
          · rw[xcG,show [op].reverse=[op] from rfl,xcu];show(stepK L op (nums (need + 1))).bind (runK L ws.reverse)=_;rw[zjD ndo (by omega)];exact hr
          · rw[xay,xaF]at hu;rcases hu with hu |rfl
            · exact hw u hu
            · exact nwo
        · have e:Dc [.val (.int num),.val (.str L),.val (.int most),.own (ws.map D.str),.val (.int need),.val (.int x),s6] N=some (.nx [.val (.int num),.val (.str L),.val (.int most),.own ((ws ++ [w]).map D.str),.val (.int ((need - 1:Nat):Int)),.val (.int y),.val (.int (y / 7))],N):=by
            have st:(if y / 7 % 2=1 then some (Res.v (D.bl (decide (((ws.length:Nat):Int) + (need:Int) + 2<=(most:Int)))),N) else some (Res.v (D.bl false),N))=some (Res.v (D.bl false),N):=by
              by_cases z:y / 7 % 2=1
              · rw[tG z,xat (fun z2=>c ⟨z,z2⟩)]
              · rw[xab z]
            unfold Dc;z_go;rw[tG (.inl hx64)];z_go;rw[show _=y from ey];z_go;rw[st];z_go;rw[ew];z_go;rw[tG (by omega)];z_go;rw[xaP,show(need:Int) - 1=((need - 1:Nat):Int) by omega];rfl
          rw[e];refine⟨most - (ws ++ [w]).length,by rw[xam,xaE];omega,rfl,ws ++ [w],need - 1,y,_,rfl,rfl,by rw[xam,xaE];omega,?_,fun u hu=>?_,y0,y1⟩
          · rw[xcG,show [w].reverse=[w] from rfl,xcu];show(stepK L w (nums (need - 1))).bind (runK L ws.reverse)=_;rw[zkc lw (by omega)];exact hr
          · rw[xay,xaF]at hu;rcases hu with hu |rfl
            · exact hw u hu
            · exact⟨.inr ⟨Qo lw,lw⟩,sw⟩
      · rw[xat hn,xab (by decide)];have hz:need=0:=by omega
        subst hz;refine⟨ws,_,_,hr,hw,?_,by omega,rfl⟩
        cases ws with
        |nil=>cases hr
        |cons a b=>simp
  obtain⟨ws,s5,s6,h1,h2,h3,h4,lp⟩:=lp;refine⟨ws,h1,h2,h3,h4,?_⟩;unfold CP Nu;z_go;rw[lp];z_go
def zkG {a b:Str}(h:decide (a=b)=false):(a=b)=False:=eq_false (of_decide_eq_false h)
def ziE:lQ "not"=some (Str.ofString "truth",Str.ofString "truth",1):=by x_go
noncomputable def wV (p:Bool):D:=.str (if p then "cond" else "expr")
noncomputable def G8 (p:Bool):Str:=if p then "truth" else "number"
def pc (pd:List Bool):E3.Cl:=.lst (pd.map wV).reverse
noncomputable def pw (pd:List Bool):Nat:=(pd.map fun p=>if p then 3 else 1).sum
def zd7 {a b:Str}{k:Int}:∃x:Str,(x=a\/x=b)/\eG [D.str a,.str b] (k % 2)=some (.str x):=by
 have:k % 2=0\/k % 2=1:=by omega
 rcases this with e |e<;>rw[e]
 ·exact⟨a,.inl rfl,at0⟩
 ·exact⟨b,.inr rfl,at1⟩
def zkO {L x:Str}{ks:List Str}(h:x="and"\/x="or"):stepK L x ((("truth":Str)::("truth":Str)::ks):List Str)=some (("truth":Str)::ks):=by
 have:lQ x=some (Str.ofString "truth",Str.ofString "truth",2):=by rcases h with rfl |rfl<;>decide +kernel
 unfold stepK;rw[this];simp only[nP,xbb,xaV]
def zlL {L:Str}{ks:List Str}:stepK L "not" (("truth":Str)::ks)=some (("truth":Str)::ks):=by
 unfold stepK;rw[ziE];simp only[nP,xbb,xaV]
def zjS {L x:Str}{ks:List Str}(h:x="<"\/x="="):stepK L x (("number":Str)::("number":Str)::ks)=some (("truth":Str)::ks):=by
 have:lQ x=some (Str.ofString "truth",Str.ofString "number",2):=by rcases h with rfl |rfl<;>decide +kernel
 unfold stepK;rw[this];simp only[nP,xbb,xaV]
def zlH {L x:Str}{ks:List Str}(h:lQ x=some (Str.ofString "number",Str.ofString "number",2)):stepK L x (("number":Str)::("number":Str)::ks)=some (("number":Str)::ks):=by
 unfold stepK;rw[h];simp only[nP,xbb,xaV]
def Tc {L x:Str}{ks:List Str}(h:lf x L=true):stepK L x ks=some (("number":Str)::ks):=by
 unfold stepK;rw[Qo h];dsimp only;rw[tG h]
theorem zlQ:(Str.ofString "cond"=Str.ofString "cond")=True:=eq_true rfl
def Cz:(Str.ofString "expr"=Str.ofString "cond")=False:=zkG (by x_go)
def Q8 {ds:List D}:ds.reverse ++ [D.str "cond",.str "cond"]=(wV true::wV true::ds).reverse:=by simp[wV]
def G7 {ds:List D}:ds.reverse ++ [D.str "expr",.str "expr"]=(wV false::wV false::ds).reverse:=by simp[wV]
def Q7 {ds:List D}:ds.reverse ++ [D.str "cond"]=(wV true::ds).reverse:=by simp[wV]
def Io {ws:List Str}{w:Str}:ws.map D.str ++ [D.str w]=(ws ++ [w]).map D.str:=by simp
theorem Q_ {pd:List Bool}:pc (true::pd)=.lst (D.str "cond"::pd.map wV).reverse:=rfl
theorem Q9 {pd:List Bool}:pc (false::pd)=.lst (D.str "expr"::pd.map wV).reverse:=rfl
def zfk {num most x:Int}{ws:List Str}{p:Bool}{pd:List Bool}{room:Nat}{s6 s7:E3.Slot}(hw:ws.length<=100)(hp:pd.length<=100)(x0:0<=x)(x1:x<2147483629):∃(y:Int) (w:Str) (pd':List Bool) (room':Nat) (t6 t7:E3.Slot) (E:Mm),GD [.val (.int num),.val (.int most),.own (ws.map D.str),.val (.ref M.length),.val (.int room),.val (.int x),s6,s7] (M ++ [pc (p::pd)])=some (.nx [.val (.int num),.val (.int most),.own ((ws ++ [w]).map D.str),.val (.ref (M ++ E).length),.val (.int room'),.val (.int y),t6,t7],M ++ E ++ [pc pd'])/\0<=y/\y<2147483629/\sm w/\stepK "tv" w (pd'.map G8)=some (G8 p::pd.map G8)/\pw pd' + room' + 1=pw (p::pd) + room:=by
  have y0:=xaN (x * x + 40692 * x + ((ws.length:Nat):Int) + 1) (show(2147483629:Int)≠0 by decide);have y1:=xaA (x * x + 40692 * x + ((ws.length:Nat):Int) + 1) (show(0:Int)<2147483629 by decide);generalize ey:(x * x + 40692 * x + ((ws.length:Nat):Int) + 1) % 2147483629=y at y0 y1;have hx64:x.natAbs<18446744073709551616:=by omega
  have go:∀N:Mm,GD [.val (.int num),.val (.int most),.own (ws.map D.str),.val (.ref M.length),.val (.int room),.val (.int x),s6,s7] N=Dg [.val (.int num),.val (.int most),.own (ws.map D.str),.val (.ref M.length),.val (.int room),.val (.int y),.val (.int (y / 7)),s7] N:=fun N=>by
    unfold GD;z_go;rw[tG (.inl hx64)];z_go;rw[ey];unfold Xn;z_go
  rw[go];generalize y / 7=z;have wl:(ws.map D.str).length<16777216:=by rw[xap];omega
  have smw:∀w:Str,(decide (w.length<=9000) && (cd w).all fun c=>decide (c<4294967296))=true->sm w:=fun w h=>zd3 h
  cases p with
  |true=>
    have go2:Dg [.val (.int num),.val (.int most),.own (ws.map D.str),.val (.ref M.length),.val (.int room),.val (.int y),.val (.int z),s7] (M ++ [pc (true::pd)])=zW [.val (.int num),.val (.int most),.own (ws.map D.str),.val (.ref M.length),.val (.int room),.val (.int y),.val (.int z),.val (.str "cond")] (M ++ [pc pd]):=by
      rw[Q_];unfold Dg;z_go;rw[Rm];z_go;rfl
    rw[go2]
    by_cases c1:(4:Int)<=room/\z % 4=1
    · obtain⟨w,hw2,ew⟩:=zd7 (a:="and") (b:="or") (k:=z / 4);refine⟨y,w,true::true::pd,room - 4,.val (.int z),.val (.str "cond"),[pc pd],?_,y0,y1,?_,?_,?_⟩
      · unfold zW;z_go;simp only[c1.1,c1.2];z_go;rw[ew];z_go;rw[tG (by omega)];unfold pc;z_go;rw[xba,xap,tG (by omega)];z_go;rw[Q8,Io,show(room:Int) - 4=((room - 4:Nat):Int) by omega]
        try rfl
      · rcases hw2 with rfl |rfl<;>exact smw _ (by x_go)
      · exact zkO hw2
      · simp only[pw,xak,xbF,xbb];omega
    · have s1:(if (4:Int)<=(room:Int) then some (Res.v (D.bl (decide (z % 4=1))),M ++ [pc pd]) else some (Res.v (D.bl false),M ++ [pc pd]))=some (Res.v (D.bl false),M ++ [pc pd]):=by
        by_cases q:(4:Int)<=room
        · rw[tG q,xat (fun q2=>c1 ⟨q,q2⟩)]
        · rw[xab q]
      by_cases c2:(1:Int)<=room/\z % 4=2
      · refine⟨y,"not",true::pd,room - 1,.val (.int z),.val (.str "cond"),[],?_,y0,y1,smw _ (by x_go),zlL,?_⟩
        · unfold zW;z_go;rw[s1];z_go;simp only[c2.1,c2.2];z_go;rw[tG (by omega)];unfold pc;z_go;rw[xba,xap,tG (by omega)];z_go;rw[Q7,Io,show(room:Int) - 1=((room - 1:Nat):Int) by omega]
          try rfl
        · simp only[pw,xak,xbF,xbb];omega
      · have s2:(if (1:Int)<=(room:Int) then some (Res.v (D.bl (decide (z % 4=2))),M ++ [pc pd]) else some (Res.v (D.bl false),M ++ [pc pd]))=some (Res.v (D.bl false),M ++ [pc pd]):=by
          by_cases q:(1:Int)<=room
          · rw[tG q,xat (fun q2=>c2 ⟨q,q2⟩)]
          · rw[xab q]
        obtain⟨w,hw2,ew⟩:=zd7 (a:="<") (b:="=") (k:=z / 4);refine⟨y,w,false::false::pd,room,.val (.int z),.val (.str "cond"),[pc pd],?_,y0,y1,?_,?_,?_⟩
        · unfold zW;z_go;rw[s1];z_go;rw[s2];z_go;rw[ew];z_go;rw[tG (by omega)];unfold pc;z_go;rw[xba,xap,tG (by omega)];z_go;rw[G7,Io]
          try rfl
        · rcases hw2 with rfl |rfl<;>exact smw _ (by x_go)
        · exact zjS hw2
        · simp only[pw,xak,xbF,xbb]
          simp
          omega
  |false=>
    have go2:Dg [.val (.int num),.val (.int most),.own (ws.map D.str),.val (.ref M.length),.val (.int room),.val (.int y),.val (.int z),s7] (M ++ [pc (false::pd)])=zW [.val (.int num),.val (.int most),.own (ws.map D.str),.val (.ref M.length),.val (.int room),.val (.int y),.val (.int z),.val (.str "expr")] (M ++ [pc pd]):=by
      rw[Q9];unfold Dg;z_go;rw[Rm];z_go;rfl
    rw[go2]
    by_cases c1:(2:Int)<=room/\z % 3=1
    · obtain⟨w,nw,nd,ew⟩:=V9 (L:="tv") (k:=z / 3);refine⟨y,w,false::false::pd,room - 2,.val (.int z),.val (.str "expr"),[pc pd],?_,y0,y1,nw.2,zlH nd,?_⟩
      · unfold zW;z_go;simp only[Cz];z_go;simp only[Cz];z_go;simp only[Cz];z_go;simp only[c1.1,c1.2];z_go;rw[ew];z_go;rw[tG (by omega)];unfold pc;z_go;rw[xba,xap,tG (by omega)];z_go;rw[G7,Io,show(room:Int) - 2=((room - 2:Nat):Int) by omega]
        try rfl
      · simp only[pw,xak,xbF]
        simp
        omega
    · have s1:(if (2:Int)<=(room:Int) then some (Res.v (D.bl (decide (z % 3=1))),M ++ [pc pd]) else some (Res.v (D.bl false),M ++ [pc pd]))=some (Res.v (D.bl false),M ++ [pc pd]):=by
        by_cases q:(2:Int)<=room
        · rw[tG q,xat (fun q2=>c1 ⟨q,q2⟩)]
        · rw[xab q]
      obtain⟨w,lw,sw,ew⟩:=Xc (x:=z / 3) (L:="tv") ⟨by x_go,fun c hc=>by revert c;decide +kernel⟩;refine⟨y,w,pd,room,.val (.int z),.val (.str "expr"),[],?_,y0,y1,sw,Tc lw,?_⟩
      · unfold zW;z_go;simp only[Cz];z_go;simp only[Cz];z_go;simp only[Cz];z_go;rw[s1];z_go;rw[ew];z_go;rw[tG (by omega),Io];z_go
      · simp only[pw,xak,xbF]
        simp
        omega
def zjb {num:Int}{most:Nat}(hm:3<=most/\most<=40):∃(ws:List Str) (E:Mm),runK "tv" ws.reverse []=some [Str.ofString "truth"]/\(∀w∈ws,sm w)/\1<=ws.length/\ws.length<=most/\FN [.int num,.int most] M=some (.v (.lst (ws.map D.str)),M ++ E):=by
  have lp:∃(ws:List Str) (E:Mm) (s3 s4 s5 s6 s7:E3.Slot),runK "tv" ws.reverse []=some [Str.ofString "truth"]/\(∀w∈ws,sm w)/\1<=ws.length/\ws.length<=most/\Dp 1000 T3 GD [.val (.int num),.val (.int most),.own [],.val (.ref M.length),.val (.int ((most - 3:Nat):Int)),.val (.int (num % 2147483629)),.un,.un] (M ++ [pc [true]])=some (.nx [.val (.int num),.val (.int most),.own (ws.map D.str),s3,s4,s5,s6,s7],M ++ E):=by
    refine Um (Q:=fun o=>∃(ws:List Str) (E:Mm) (s3 s4 s5 s6 s7:E3.Slot),runK "tv" ws.reverse []=some [Str.ofString "truth"]/\(∀w∈ws,sm w)/\1<=ws.length/\ws.length<=most/\o=some (.nx [.val (.int num),.val (.int most),.own (ws.map D.str),s3,s4,s5,s6,s7],M ++ E)) (fun m env N=>∃(ws:List Str) (E:Mm) (pd:List Bool) (room:Nat) (x:Int) (s6 s7:E3.Slot),env=[.val (.int num),.val (.int most),.own (ws.map D.str),.val (.ref (M ++ E).length),.val (.int room),.val (.int x),s6,s7]/\N=M ++ E ++ [pc pd]/\m=pw pd + room/\ws.length + pw pd + room=most/\runK "tv" ws.reverse (pd.map G8)=some [Str.ofString "truth"]/\(∀w∈ws,sm w)/\0<=x/\x<2147483629) ⟨pw [true] + (most - 3),by simp only[pw,xak,xcI,xbF,List.sum_nil,xbb];omega,[],[],[true],most - 3,_,.un,.un,by rw[xaH];rfl,by rw[xaH],rfl,by simp only[pw,xak,xcI,xbF,List.sum_nil,xbb,xbM];omega,rfl,(fun w hw=>by cases hw),xaN _ (by decide),xaA _ (by decide)⟩ ?_;rintro m env N ⟨ws,E,pd,room,x,s6,s7,rfl,rfl,rfl,hb,hr,hw,x0,x1⟩;have hlp:pd.length<=pw pd:=by
      clear hr hb
      induction pd with
      |nil=>exact xad _
      |cons p pd ih=>
        simp only[pw,xak,xbF,xal]at *;cases p<;>simp<;>omega
    refine⟨!pd.isEmpty,M ++ E ++ [pc pd],?_,?_⟩
    · unfold T3 pc;z_go;rw[zle]
      · z_go;rw[xem,List.isEmpty_map]
      · have:∀ds:List D,(∀d∈ds,d.dep=0)->D.deps ds=0:=fun ds=>by
          induction ds with
          |nil=>intro _;rfl
          |cons d ds ih=>intro h;simp only[D.deps,h d xaD,ih (fun e he=>h e (xan _ he))];rfl
        rw [this _ (fun d hd=>by
          rw[xd3,xaK]at hd;obtain⟨p,_,rfl⟩:=hd;rfl)]
        omega
    · cases pd with
      |nil=>
        rw[xab (by simp)];refine⟨ws,E ++ [pc []],_,_,_,_,_,hr,hw,?_,by omega,by rw[xas]⟩
        cases ws with
        |nil=>cases hr
        |cons a b=>simp
      |cons p pd=>
        rw[tG (by simp)];obtain⟨y,w,pd',room',t6,t7,E2,e,y0,y1,sw,st,hpw⟩:=zfk (M:=M ++ E) (num:=num) (most:=most) (s6:=s6) (s7:=s7) (ws:=ws) (p:=p) (pd:=pd) (room:=room) (by omega) (by rw[xal]at hlp;omega) x0 x1;rw[e];refine⟨pw pd' + room',by omega,ws ++ [w],E ++ E2,pd',room',y,t6,t7,by rw[xas],by rw[xas M E E2],rfl,by rw[xam,xaE];omega,?_,fun u hu=>?_,y0,y1⟩
        · rw[xcG,show [w].reverse=[w] from rfl,xcu];show(stepK "tv" w (pd'.map G8)).bind (runK "tv" ws.reverse)=_;rw[st];exact hr
        · rw[xay,xaF]at hu;rcases hu with hu |rfl
          · exact hw u hu
          · exact sw
  obtain⟨ws,E,s3,s4,s5,s6,s7,h1,h2,h3,h4,lp⟩:=lp;refine⟨ws,E,h1,h2,h3,h4,?_⟩;have e0:M ++ [Cl.lst [.str "cond"]]=M ++ [pc [true]]:=rfl;unfold FN Nr;z_go;unfold Xv;z_go;unfold Xw;z_go;unfold Xx;z_go;unfold Xy;rw[Y6,e0,show(most:Int) - 3=((most - 3:Nat):Int) by omega,lp];unfold Xz;z_go
def Uu (M:Mm)(d0:D)(L wt:Str)(ws:List Str)(o:E3.OS):Prop:=(∃ks s4,o=some (.nx [.val d0,.val (.str L),.val (.str wt),.val (.ref M.length),s4],M ++ [kc ks])/\runK L ws.reverse []=some ks)\/(runK L ws.reverse []=none/\∃ks,o=some (.ex "NoExpr" 0,M ++ [kc ks]))
theorem take_snoc {ws:List Str}{k:Nat}{x:Str}(h:ws[k]? =some x):ws.take (k + 1)=ws.take k ++ [x]:=by
 rw[List.take_add_one,h];rfl
def zei {d0:D}{L wt:Str}{ws:List Str}(hs:∀x∈ws,sm x)(hl:ws.length<=900):Uu M d0 L wt ws (loopS 4 zU (ws.map D.str).reverse [.val d0,.val (.str L),.val (.str wt),.val (.ref M.length),.un] (M ++ [kc []])):=by
 refine Qq (Uu M _ L wt ws) (fun k env N=>∃ks s4,env=[.val d0,.val (.str L),.val (.str wt),.val (.ref M.length),s4]/\N=M ++ [kc ks]/\runK L (ws.reverse.take k) []=some ks) ⟨[],.un,rfl,rfl,by rw[List.take_zero];rfl⟩ ?_ ?_
 ·rintro k d env N hd ⟨ks,s4,rfl,rfl,hk⟩;rw[<-List.map_reverse,xax,xae]at hd;obtain⟨x,hx,rfl⟩:=hd;refine⟨by show 4<5;decide,?_⟩;have hlen:=Zy hk;have hkl:(ws.reverse.take k).length<=ws.length:=by rw[xaU,xba];exact xdS _ _
  rw[xbM]at hlen;show Step _ _ (zU [.val d0,.val (.str L),.val (.str wt),.val (.ref M.length),.val (.str x)] (M ++ [kc ks]));rcases zfc (M:=M) (d0:=d0) (L:=L) (wt:=wt) (ks:=ks) (hs x (by have:=xaW hx;simpa using this)) (by omega) with⟨ks',e1,e2⟩ |⟨e1,ks',e2⟩
  ·rw[e2];refine⟨ks',_,rfl,rfl,?_⟩;rw[take_snoc hx,R9,hk];show(stepK L x ks).bind _=_;rw[e1];rfl
  ·rw[e2];refine .inr ⟨?_,ks',rfl⟩;have:ws.reverse=ws.reverse.take k ++ x::ws.reverse.drop (k + 1):=by
    have hlt:=(xag.mp hx).1;have hxe:=(xag.mp hx).2;rw[<-hxe, <-xbh hlt,xbJ]
   rw[this,R9,hk];show(stepK L x ks).bind _=_;rw[e1];rfl
 ·rintro env N ⟨ks,s4,rfl,rfl,hk⟩;rw[xba,xap, <-xba,List.take_length]at hk;exact .inl ⟨ks,s4,rfl,hk⟩
def Vs {L wt:Str}{ws:List Str}(hs:∀x∈ws,sm x)(hl:ws.length<=900):(runK L ws.reverse []=some [wt]/\zR [.tup (ws.map D.str),.str L,.str wt] M=some (.v .non,M ++ [kc [wt]]))\/(runK L ws.reverse []≠some [wt]/\∃ks,zR [.tup (ws.map D.str),.str L,.str wt] M=some (.x "NoExpr" 0,M ++ [kc ks])):=by
 have lp:=zei (M:=M) (d0:=.tup (ws.map D.str)) (L:=L) (wt:=wt) hs hl;unfold zR N6;z_go;have e0:loopS 4 zU (ws.map D.str).reverse [.val (.tup (ws.map D.str)),.val (.str L),.val (.str wt),.val (.ref M.length),.un] (M ++ [.lst []])=loopS 4 zU (ws.map D.str).reverse [.val (.tup (ws.map D.str)),.val (.str L),.val (.str wt),.val (.ref M.length),.un] (M ++ [kc []]):=rfl;rw[e0];rcases lp with⟨ks,s4,e,hk⟩ |⟨hk,ks,e⟩
 ·rw[e];unfold kc;z_go;rw[zjE]
  by_cases h:ks=[wt]
  ·subst h;refine .inl ⟨hk,?_⟩;z_go
  ·refine .inr ⟨fun z=>h (by rw[hk]at z;exact xaw z),ks,?_⟩;simp only[h];z_go;rw[Rv];z_go
 ·rw[e];refine .inr ⟨by rw[hk];exact nofun,ks,rfl⟩
def pY (L wt:Str)(ws:List Str):Bool:=decide (runK L ws.reverse []=some [wt])
def zks {ws:List Str}:Fz [.ref M.length,.tup (ws.map D.str)] (M ++ [.obj "Expr" []])=some (.v .non,M ++ [.obj "Expr" [("parts",.tup (ws.map D.str))]]):=by
 unfold Fz Jd;z_go;rw[V8 (k:=M.length) (fs:=[]) (M1:=M ++ [.obj "Expr" []]) (M2:=M ++ [.obj "Expr" []]) (x:=.tup (ws.map D.str)) ?_ ?_ JF (by decide),s_end]
 ·rfl
 ·z_go
 ·z_go
def zgJ {ws:List Str}:Fy [.ref M.length,.tup (ws.map D.str)] (M ++ [.obj "Cond" []])=some (.v .non,M ++ [.obj "Cond" [("parts",.tup (ws.map D.str))]]):=by
 unfold Fy Jc;z_go;rw[V8 (k:=M.length) (fs:=[]) (M1:=M ++ [.obj "Cond" []]) (M2:=M ++ [.obj "Cond" []]) (x:=.tup (ws.map D.str)) ?_ ?_ JF (by decide),s_end]
 ·rfl
 ·z_go
 ·z_go
def Gf {L:Str}{ws:List Str}(hs:∀x∈ws,sm x)(hl:ws.length<=900):∃E,zT [.tup (ws.map D.str),.str L] M=some (.v (.bl (pY L "number" ws)),M ++ E):=by
 rcases Vs (M:=M) (L:=L) (wt:="number") hs hl with⟨z,e⟩ |⟨z,ks,e⟩
 ·refine⟨[kc ["number"]] ++ [.obj "Expr" [("parts",.tup (ws.map D.str))]],?_⟩;have e1:Ba [.tup (ws.map D.str),.str L] M=some (.v (.ref (M ++ [kc ["number"]]).length),M ++ [kc ["number"]] ++ [.obj "Expr" [("parts",.tup (ws.map D.str))]]):=by
   unfold Ba Jl;z_go;rw[e];z_go;rw[Xo (ds:=[.tup (ws.map D.str)]) (M1:=M ++ [kc ["number"]]) (by z_go) zks];rfl
  unfold zT Jh pY;rw[show decide (runK L ws.reverse []=some [Str.ofString "number"])=true from xaC z];z_go;rw[Iw (M1:=M ++ [kc ["number"]] ++ [.obj "Expr" [("parts",.tup (ws.map D.str))]]) (env':=[.val (.tup (ws.map D.str)),.val (.str L)])]
  ·z_go;rw[xas];rfl
  ·unfold Ut;z_go;rw[e1];z_go
 ·refine⟨[kc ks],?_⟩;have e1:Ba [.tup (ws.map D.str),.str L] M=some (.x "NoExpr" 0,M ++ [kc ks]):=by
   unfold Ba Jl;z_go;rw[e];rfl
  unfold zT Jh pY;rw[show decide (runK L ws.reverse []=some [Str.ofString "number"])=false from xat z];z_go;rw[Iz (c:="NoExpr") (a:=0) (M1:=M ++ [kc ks]) (d:=.bl false) (M2:=M ++ [kc ks]) ?_ (by x_go) ?_]
  ·z_go
  ·unfold Ut;z_go;rw[e1];z_go
  ·unfold Wt;z_go
def PK {ws:List Str}(hs:∀x∈ws,sm x)(hl:ws.length<=900):∃E,CQ [.tup (ws.map D.str)] M=some (.v (.bl (pY "tv" "truth" ws)),M ++ E):=by
 rcases Vs (M:=M) (L:="tv") (wt:="truth") hs hl with⟨z,e⟩ |⟨z,ks,e⟩
 ·refine⟨[kc ["truth"]] ++ [.obj "Cond" [("parts",.tup (ws.map D.str))]],?_⟩;have e1:A_ [.tup (ws.map D.str)] M=some (.v (.ref (M ++ [kc ["truth"]]).length),M ++ [kc ["truth"]] ++ [.obj "Cond" [("parts",.tup (ws.map D.str))]]):=by
   unfold A_ Jk;z_go;rw[e];z_go;rw[Xo (ds:=[.tup (ws.map D.str)]) (M1:=M ++ [kc ["truth"]]) (by z_go) zgJ];rfl
  unfold CQ Jg pY;rw[show decide (runK "tv" ws.reverse []=some [Str.ofString "truth"])=true from xaC z];z_go;rw[Iw (M1:=M ++ [kc ["truth"]] ++ [.obj "Cond" [("parts",.tup (ws.map D.str))]]) (env':=[.val (.tup (ws.map D.str))])]
  ·z_go;rw[xas];rfl
  ·unfold Us;z_go;rw[e1];z_go
 ·refine⟨[kc ks],?_⟩;have e1:A_ [.tup (ws.map D.str)] M=some (.x "NoExpr" 0,M ++ [kc ks]):=by
   unfold A_ Jk;z_go;rw[e];rfl
  unfold CQ Jg pY;rw[show decide (runK "tv" ws.reverse []=some [Str.ofString "truth"])=false from xat z];z_go;rw[Iz (c:="NoExpr") (a:=0) (M1:=M ++ [kc ks]) (d:=.bl false) (M2:=M ++ [kc ks]) ?_ (by x_go) ?_]
  ·z_go
  ·unfold Us;z_go;rw[e1];z_go
  ·unfold Ws;z_go
def Vq {i j k:Int}{f g h:E}{env:E3.Env}(hf:f env M=some (.v (.int i),M))(hg:g env M=some (.v (.int j),M))(hh:h env M=some (.v (.int k),M)):lU .le .le f g h env M=some (.v (.bl (decide (i<=j) && decide (j<=k))),M):=by
 unfold lU;simp only[bnd,hf,hg,hh,vw,fV,kJ]
 by_cases h1:i<=j
 ·simp only[h1,xeS,xdD,xaV]
 ·simp only[h1,xeI,xb2]
def zlP {i j k:Int}{f g h:E}{env:E3.Env}(hf:f env M=some (.v (.int i),M))(hg:g env M=some (.v (.int j),M))(hh:h env M=some (.v (.int k),M)):lU .le .lt f g h env M=some (.v (.bl (decide (i<=j) && decide (j<k))),M):=by
 unfold lU;simp only[bnd,hf,hg,hh,vw,fV,kJ]
 by_cases h1:i<=j
 ·simp only[h1,xeS,xdD,xaV]
 ·simp only[h1,xeI,xb2]
def lO (x:Str):Bool:=decide (x.length<=20) && ni (cd x)
def vl (x:Str):Int:=Mz (cd x)
def OJ {x:Str}(h:lO x=true):intText? x=some (vl x)/\0<=vl x/\x.length<=20:=by
  unfold lO at h;rw[xac,xaB]at h;obtain⟨h1,h2⟩:=h;obtain⟨n0,ad,_⟩:=CG h2;have hd:(cd x).head? ≠some 45:=fun z=>by
    cases hc:cd x with
    |nil=>exact n0 hc
    |cons c r=>
      rw[hc]at z ad;cases z;have:=ad 45 (xaD ..);revert this
      decide
  refine⟨zc5 (by unfold pZ;rw[xab hd];exact h2) (by omega),?_,h1⟩;unfold vl Mz;rw[xab hd];omega
def zlB (x:Str)(hx:x.length<=10000):Gg [.str x] M=some (.v (.bl (lO x)),M):=by
 unfold Gg N_ lO;z_go;rw[tG (show x.length<=16777216 by omega)];z_go
 by_cases h:x.length<=20
 ·rw[tG (show(x.length:Int)<=20 by omega)];z_go;rw[Py x (by omega)];simp only[h];z_go
 ·rw[xab (show ¬ (x.length:Int)<=20 by omega)];simp only[h];z_go
def lM (x:Str)(a b:Int):Bool:=lO x && (decide (a<=vl x) && decide (vl x<=b))
def wL (x:Str)(a b:Int)(hx:x.length<=10000):vp [.str x,.int a,.int b] M=some (.v (.bl (lM x a b)),M):=by
 unfold vp Oa lM;z_go;rw[zlB x hx];z_go;cases h:lO x
 ·z_go
 ·obtain⟨h1,h2,h3⟩:=OJ h;z_go;rw[Vq (i:=a) (j:=vl x) (k:=b)]
  ·z_go
  ·z_go
  ·z_go;rw[tG (show x.length<=640 by omega),h1];z_go
  ·z_go
noncomputable def pG (c:Nat):Bool:=decide (97<=c) && decide (c<=122)
def Wz (c:Nat):vq ⟨#[c]⟩ (Str.ofString "abcdefghijklmnopqrstuvwxyz")=pG c:=by
 unfold vq pG;rw[xdK,show(Str.ofString "abcdefghijklmnopqrstuvwxyz").cps.toList=(List.range 26).map (· + 97) by x_go,xaQ];simp only[xaK,xbz,xac,xaB];exact⟨fun⟨a,h,e⟩=>by omega,fun h=>⟨c - 97,by omega,by omega⟩⟩
def wg (c:Nat):Bool:=pG c || nR c
noncomputable def gJ (x:Str):Bool:=match cd x with
 | []=>false
 |c::r=>decide (r.length<12) && (pG c && (c::r).all wg)
def T7 (c:Nat):O9 [.val (.str ⟨#[c]⟩)] M=some (.v (.bl (wg c)),M):=by
 unfold O9 wg;z_go;rw[Wz];cases pG c
 ·z_go;rw[Wy]
 ·z_go
def PN (x:Str)(hx:x.length<=10000):Gj [.str x] M=some (.v (.bl (gJ x)),M):=by
  unfold Gj Oe gJ;have hl:=fZ x;have c1:lU .le .le (aj (.int 1)) (sN eU (au (ak 0) aq)) (aj (.int 12)) [.val (.str x)] M=some (.v (.bl (decide ((1:Int)<=x.length) && decide ((x.length:Int)<=12))),M):=by
    refine Vq (by z_go) ?_ (by z_go);z_go;rw[tG (show x.length<=16777216 by omega)];z_go
  z_go;rw[c1]
  cases hc:cd x with
  |nil=>
    rw[hc]at hl;rw[show decide ((1:Int)<=x.length)=false from xat (by rw[hl];decide)];z_go
  |cons c r=>
    rw[hc,xal]at hl;rw[show decide ((1:Int)<=x.length)=true from xaC (by omega)]
    by_cases h:r.length<12
    · rw[show decide ((x.length:Int)<=12)=true from xaC (by omega)];z_go;rw[tG (show x.length<=16777216 by omega),show x.cps.toList=cd x from rfl,hc];z_go;rw[Wz];simp only[h];cases pG c
      · z_go
      · z_go;rw[show x.cps.toList=cd x from rfl,hc,zP (fun c=>D.str ⟨#[c]⟩) (fun c=>D.bl (wg c)) (c::r) [] (fun c _=>T7 c) (by rw[xav];simp;omega)];z_go;rw[show(D.bl (wg c)::r.map fun c=>D.bl (wg c))=((c::r).map wg).map D.bl by rw[xa9];rfl,Ey];z_go;rw[show wg c::List.map wg r=(c::r).map wg from rfl,xdY];rfl
    · rw[show decide ((x.length:Int)<=12)=false from xat (by omega)];simp only[h];z_go
def il {n:Nat}{k:Int}(b:Bool)(h:(n:Int)=k ↔ b=true):decide ((n:Int)=k)=b:=by
 cases b
 ·exact xat fun z=>by cases h.mp z
 ·exact xaC (h.mpr rfl)
def pP:List Str->Bool
 | [a,b]=>lM b 1 8 && lM a 0 (vl b - 1)
 |_=>false
noncomputable def fX (x:Str):Bool:=decide (x="sum") || decide (x="count") || decide (x="most") || decide (x="least")
def lA:List Str->Bool
 | [a,f]=>lM a 1 1000000000000 && fX f
 |_=>false
noncomputable def pQ:List Str->Bool
 | [a,b,f]=>lA [a,f] && (lM b 1 (vl a) && decide (vl a<=8 * vl b))
 |_=>false
def Bh:List Str->Bool
 |a::r=>lM a 0 1000000000000 && pY "tvw" "number" r
 |_=>false
def O4 {x:Str}{a b:Int}(h:lM x a b=true):intText? x=some (vl x)/\0<=vl x/\x.length<=20:=by
 unfold lM at h;rw[xac]at h;exact OJ h.1
def zi7 (ws:List Str)(hs:∀x∈ws,sm x)(hl:ws.length<=900):Gn [.tup (ws.map D.str)] M=some (.v (.bl (pP ws)),M):=by
  unfold Gn Oi
  match ws,hs,hl with
  | [],_,_=>rfl
  | [a],_,_=>rfl
  |a::b::c::r,_,_=>
    unfold pP;z_go;rw[tG (by omega)];z_go
  | [a,b],hs,_=>
    have ha:=hs a (by simp);have hb:=hs b (by simp);unfold pP;z_go;rw[xab (fun z=>z rfl)];z_go;rw[wL b 1 8 (by have:=hb.1;omega)];cases h:lM b 1 8
    · z_go
    · obtain⟨h1,h2,h3⟩:=O4 h;z_go;rw[tG (show b.length<=640 by omega),h1];z_go;rw[wL a 0 _ (by have:=ha.1;omega)];z_go
def zj8 {x:Str}:aF .isin (.str x) (.tup [.str "sum",.str "count",.str "most",.str "least"])=some (.bl (fX x)):=by
 have q:∀y:Str,D.eq (.str y) (.str x)=decide (x=y):=fun y=>by
  simp only[D.eq];rw[xaQ]
  simp
  exact eq_comm
 unfold aF fV wG fX;simp only[D.flat,xbs,xeG,xbY,xbb,xbm,xeH,xdC,q,xaV];rw[xes,xes]
def Wn (ws:List Str)(hs:∀x∈ws,sm x)(hl:ws.length<=900):Az [.tup (ws.map D.str)] M=some (.v (.bl (lA ws)),M):=by
  unfold Az Om
  match ws,hs,hl with
  | [],_,_=>rfl
  | [a],_,_=>rfl
  |a::b::c::r,_,_=>
    unfold lA;z_go;rw[xab (by omega)];z_go
  | [a,b],hs,_=>
    have ha:=hs a (by simp);have hb:=hs b (by simp);unfold lA;z_go;rw[tG (show((2:Nat):Int)=2 from rfl)];rw[wL a 1 _ (by have:=ha.1;omega)];cases h:lM a 1 1000000000000
    · z_go
    · z_go;rw[zj8];z_go
def zkf (ws:List Str)(hs:∀x∈ws,sm x)(hl:ws.length<=900):Gq [.tup (ws.map D.str)] M=some (.v (.bl (pQ ws)),M):=by
  unfold Gq Ol
  match ws,hs,hl with
  | [],_,_=>rfl
  | [a],_,_=>rfl
  | [a,b],_,_=>rfl
  |a::b::c::d::r,_,_=>
    unfold pQ;z_go;rw[tG (by omega)];z_go
  | [a,b,f],hs,_=>
    have ha:=hs a (by simp);have hb:=hs b (by simp);have hf:=hs f (by simp);unfold pQ;z_go;rw[xab (fun z=>z rfl),show [D.str a,D.str f]=[a,f].map D.str from rfl,Wn [a,f] (fun x hx=>by simp at hx;rcases hx with rfl |rfl<;>assumption) (by simp)]
    cases h:lA [a,f]
    · z_go
    · have h0:lM a 1 1000000000000=true:=by
        unfold lA at h;rw[xac]at h;exact h.1
      obtain⟨h1,h2,h3⟩:=O4 h0;z_go;rw[tG (show a.length<=640 by omega),h1];z_go;rw[wL b 1 _ (by have:=hb.1;omega)];cases h':lM b 1 (vl a)
      · z_go
      · obtain⟨k1,k2,k3⟩:=O4 h';z_go;rw[tG (show b.length<=640 by omega),k1];z_go
def PL (ws:List Str)(hs:∀x∈ws,sm x)(hl:ws.length<=900):∃E,Gh [.tup (ws.map D.str)] M=some (.v (.bl (Bh ws)),M ++ E):=by
  match ws,hs,hl with
  | [],_,_=>exact⟨[],by rw[xaH];rfl⟩
  |a::r,hs,hl=>
    have ha:=hs a (by simp);rw[xal]at hl;unfold Gh Oc Bh;z_go;rw[xab (by omega),wL a 0 _ (by have:=ha.1;omega)];cases h:lM a 0 1000000000000
    · refine⟨[],?_⟩;z_go
    · obtain⟨E,e⟩:=Gf (M:=M) (L:="tvw") (ws:=r) (fun x hx=>hs x (by simp[hx])) (by omega);refine⟨E,?_⟩;have es:Du (.tup (D.str a::r.map D.str)) (some 1) none=some (.tup (r.map D.str)):=by
        unfold Du;dsimp only;rw[Fd _ (by decide)];rw[xab (fun z=>by have:=z.1;revert this;unfold HT.fj;simp)];rfl
      z_go;rw[es];z_go;rw[e];z_go
noncomputable def eZ (w:Str) (ws:List Str):Bool:=
 if w="keep" then pY "tv" "truth" ws else if w="turn" then pY "tv" "number" ws else if w="share" then pP ws else if w="slide" then pQ ws
 else if w="fixed"\/w="gap" then lA ws else if w="join" then Bh ws else ws.isEmpty
def Yx {x:Str}:aF .isin (.str x) (.tup [.str "fixed",.str "gap"])=some (.bl (decide (x="fixed"\/x="gap"))):=by
 have q:∀y:Str,D.eq (.str y) (.str x)=decide (x=y):=fun y=>by
  simp only[D.eq];rw[xaQ]
  simp
  exact eq_comm
 unfold aF fV wG;simp only[D.flat,xbs,xeG,xbY,xbb,xbm,xeH,xdC,q,xaV];congr 2;rw[xaQ]
 simp
theorem zik {ws:List Str}:aF .eq (.tup (ws.map D.str)) (.tup [])=some (.bl ws.isEmpty):=by
 unfold aF fV wF;rw[tG ⟨by simp[gY,D.flat,D.dep,D.deps],by simp[D.dep,Ib]⟩];cases ws<;>rfl
def zkj (w:Str)(ws:List Str)(hs:∀x∈ws,sm x)(hl:ws.length<=900):∃E,Gm [.str w,.tup (ws.map D.str)] M=some (.v (.bl (eZ w ws)),M ++ E):=by
 unfold Gm Oh eZ
 by_cases h1:w="keep"
 ·obtain⟨E,e⟩:=PK (M:=M) hs hl;refine⟨E,?_⟩;simp only[h1];z_go;rw[e];z_go
 by_cases h2:w="turn"
 ·obtain⟨E,e⟩:=Gf (M:=M) (L:="tv") hs hl;refine⟨E,?_⟩;rw[xab h1,tG h2];z_go;rw[xab h1];z_go;rw[tG h2,e];z_go
 by_cases h3:w="share"
 ·refine⟨[],?_⟩;rw[xab h1,xab h2,tG h3];z_go;rw[xab h1];z_go;rw[xab h2];z_go;rw[tG h3,zi7 ws hs hl];z_go
 by_cases h4:w="slide"
 ·refine⟨[],?_⟩;rw[xab h1,xab h2,xab h3,tG h4];z_go;rw[xab h1];z_go;rw[xab h2];z_go;rw[xab h3];z_go;rw[tG h4,zkf ws hs hl];z_go
 by_cases h5:w="fixed"\/w="gap"
 ·refine⟨[],?_⟩;rw[xab h1,xab h2,xab h3,xab h4,tG h5];z_go;rw[xab h1];z_go;rw[xab h2];z_go;rw[xab h3];z_go;rw[xab h4];z_go;rw[Yx];z_go;rw[tG h5,Wn ws hs hl];z_go
 rw[xab h1,xab h2,xab h3,xab h4,xab h5];z_go;rw[xab h1];z_go;rw[xab h2];z_go;rw[xab h3];z_go;rw[xab h4];z_go;rw[Yx];z_go;rw[xab h5];z_go
 by_cases h6:w="join"
 ·obtain⟨E,e⟩:=PL (M:=M) ws hs hl;refine⟨E,?_⟩;rw[tG h6,tG h6,e];z_go
 ·refine⟨[],?_⟩;rw[xab h6,xab h6];z_go;rw[zik];z_go
noncomputable def FT:List (Str×Nat):=[("in",0),("keep",1),("turn",1),("share",1),("pour",8),("fixed",1),("slide",1),("gap",1),("join",2),("out",1)]
def frm (x:Str):Option Nat:=(FT.find? fun p=>decide (p.1=x)).map (·.2)
theorem JR {x:Str}:lB DK x=(frm x).map (fun(n:Nat)=>D.int (n:Int)):=by
 rw[show DK=FT.map fun p=>(p.1,D.int (p.2:Int)) from rfl];unfold lB frm;rw[List.find?_map];show Option.map _ (Option.map _ (FT.find? fun p=>decide (p.1=x)))=_;cases FT.find? fun p=>decide (p.1=x)<;>rfl
def zgM {x:Str}{n:Nat}(h:frm x=some n):n<=8:=by
 unfold frm at h;rw[xae]at h;obtain⟨p,hp,rfl⟩:=h;have:=xbi hp;revert this;generalize p=q;revert q;unfold FT
 simp
noncomputable def u5 (w nm:Str) (fr rs:List Str):D:=.tup [.str w,.str nm,.tup (fr.map D.str),.tup (rs.map D.str)]
def g_row {w nm:Str}{r:List Str}{f:Nat}(h:frm w=some f):Bb [.lst ((w::nm::r).map D.str)] M=some (.v (u5 w nm (r.take f) (r.drop f)),M):=by
 have c1:gO ((w::nm::r).map D.str) (some 2) (some (2 + (f:Int)))=(r.take f).map D.str:=by
  rw[O3 _ (by decide) (by omega), <-xeq, <-xer];congr 1;show List.take ((2 + (f:Int)).toNat - 2) r=_;congr 1;omega
 have c2:gO ((w::nm::r).map D.str) (some (2 + (f:Int))) none=(r.drop f).map D.str:=by
  rw[Fd _ (by omega), <-xeq];congr 1;rw[show(2 + (f:Int)).toNat=f + 2 by omega];rfl
 unfold Bb Oq u5;rw[xak,xak]at c1 c2;z_go;rw[JR,h];z_go;rw[c1];z_go;rw[c2];z_go
noncomputable def Bf (w:Str) (f n:Nat):Bool:=if w="pour" then decide (2<=n) else decide (n=f)
def Pz {w nm:Str}{fr rs:List Str}{f:Nat}(h:frm w=some f):Gd [u5 w nm fr rs] M=some (.v (.bl (Bf w f fr.length)),M):=by
 unfold Gd N7 u5 Bf
 by_cases hp:w="pour"
 ·rw[tG hp];z_go;rw[tG hp];z_go;congr 4;rw[xaQ];simp only[xaB];omega
 ·rw[xab hp];z_go;rw[xab hp];z_go;rw[JR,h];z_go;congr 4;rw[xaQ];simp only[xaB];omega
noncomputable def eN:List Str->Bool
  |w::nm::r=>match frm w with
    |some f=>Bf w f (r.take f).length && ((nm::r.take f).all gJ && eZ w (r.drop f))
    |none=>false
  |_=>false
def ziX (x:Str)(hx:x.length<=10000):JB [.val (.str x)] M=some (.v (.bl (gJ x)),M):=by
 unfold JB;z_go;rw[PN x hx];z_go
def zkP (ws:List Str)(hs:∀x∈ws,sm x)(hl:ws.length<=900):∃E,CT [.lst (ws.map D.str)] M=some (.v (.bl (eN ws)),M ++ E):=by
  match ws,hs,hl with
  | [],_,_=>exact⟨[],by rw[xaH];rfl⟩
  | [a],_,_=>exact⟨[],by rw[xaH];rfl⟩
  |w::nm::r,hs,hl=>
    rw[xal,xal]at hl;unfold eN;dsimp only
    cases hf:frm w with
    |none=>
      refine⟨[],?_⟩;unfold CT Ji;z_go;rw[xab (by omega),JR,hf];z_go;simp only[xcK];z_go
    |some f=>
      dsimp only;have g1:=g_row (M:=M) (nm:=nm) (r:=r) hf;have g2:=Pz (M:=M) (nm:=nm) (fr:=r.take f) (rs:=r.drop f) hf;rw[xak,xak]at g1;have cm:nG (aj (.bl true)) JB [] (((nm::r.take f)).map D.str) [] M=some ([] ++ (nm::r.take f).map fun x=>D.bl (gJ x),M):=by
        refine zP D.str (fun x=>D.bl (gJ x)) (nm::r.take f) [] (fun x hx=>ziX x ?_) ?_
        · have:x∈w::nm::r:=by
            rcases xaq.mp hx with rfl |hx
            · simp
            · simp[xcB hx]
          have:=(hs x this).1;omega
        · rw[xav]
          simp
          omega
      obtain⟨E,e⟩:=zkj (M:=M) w (r.drop f) (fun x hx=>hs x (by simp[List.mem_of_mem_drop hx])) (by rw[xbe];omega);unfold CT Ji;z_go;rw[xab (by omega),JR,hf];z_go;simp only[xcj];z_go;rw[g1];z_go;rw[g2];cases Bf w f (r.take f).length
      · refine⟨[],?_⟩;z_go
      · z_go;unfold u5;z_go;rw[tG (by rw[xaU];omega)];z_go;rw[xak]at cm;rw[cm];z_go;rw[show(D.bl (gJ nm)::(r.take f).map fun x=>D.bl (gJ x))=((nm::r.take f).map gJ).map D.bl by rw[xa9];rfl,Ey];z_go;rw[show gJ nm::List.map gJ (r.take f)=(nm::r.take f).map gJ from rfl,xdY];rw[show(id ∘ gJ)=gJ from rfl];cases (nm::r.take f).all gJ
        · refine⟨[],?_⟩;z_go
        · refine⟨E,?_⟩;z_go;rw[e];z_go
def gZ (t:List (Str×Str)):List (Key×D):=t.map fun p=>(.inr p.1,.str p.2)
noncomputable def lF (t:List (Str×Str)) (k:Str):Option Str:=(t.find? fun p=>decide (p.1=k)).map (·.2)
def WL {a b:Str}:decide ((Sum.inr a:Key)=Sum.inr b)=decide (a=b):=by simp
theorem Uh {k:Str}:∀t:List (Str×Str),gM (gZ t) (.inr k)=(lF t k).map .str
  | []=>rfl
  |p::t=>by
    have ih:=Uh (k:=k) t;unfold gM gZ lF at *;rw[xak,xa6,xa6,WL];cases decide (p.1=k)
    · exact ih
    · rfl
theorem zht {k v:Str}{t:List (Str×Str)}(h:lF t k=none):pJ (gZ t) (.inr k) (.str v)=gZ (t ++ [(k,v)]):=by
 have e1:((gZ t).any fun kv=>decide (kv.1=Sum.inr k))=false:=by
  unfold lF at h;rw[xcT,xcL]at h;unfold gZ;rw[List.any_map,xeK];intro p hp;show ¬ decide (Sum.inr p.1=Sum.inr k)=true;rw[WL];exact h p hp
 unfold pJ;rw[e1,xab (by decide)];unfold gZ;rw[xaP];rfl
noncomputable def gP (t:List (Str×Str)) (nm:Str) (fr:List Str):Bool:=(lF t nm).isNone && fr.all fun x=> !decide ((lF t x).getD "out"="out")
def T5 {t:List (Str×Str)}{j:Nat}{N:Mm}(x:Str)(hN:N[j]? =some (.dct (gZ t))):Jz [.val (.str x),.val (.ref j)] N=some (.v (.bl (!decide ((lF t x).getD "out"="out"))),N):=by
  unfold Jz;z_go;rw[ziK (k:=j) (kvs:=gZ t) (kvs':=gZ t) (e:=.str x) (x:=.str "out") (key:=.inr x) (M1:=N) (M2:=N) (M3:=N) (by z_go) (by z_go) (by z_go) hN hN rfl,Uh]
  cases lF t x with
  |none=>
    simp only[xdi,xdT];z_go
  |some y=>
    z_go
theorem PB {t:List (Str×Str)}{j:Nat}{N:Mm}{w nm:Str}{fr rs:List Str}(hN:N[j]? =some (.dct (gZ t)))(hl:fr.length<=900):Ge [u5 w nm fr rs,.ref j] N=some (.v (.bl (gP t nm fr)),N):=by
  have cm:nG (aj (.bl true)) Jz [.val (.ref j)] (fr.map D.str) [] N=some ([] ++ fr.map fun x=>D.bl (!decide ((lF t x).getD "out"="out")),N):=
    zP D.str (fun x=>D.bl (!decide ((lF t x).getD "out"="out"))) fr [] (fun x _=>T5 x hN) (by rw[xav];simp;omega)
  unfold Ge N8 gP u5;z_go;rw[Am (k:=j) (kvs:=gZ t) (e:=.str nm) (key:=.inr nm) (M1:=N) (M2:=N) (by z_go) (by z_go) hN rfl,Uh]
  cases lF t nm with
  |some y=>
    simp only[xaV,xcj,Option.isNone_some];z_go
  |none=>
    simp only[xdi,xcK,Option.isNone_none];z_go;rw[cm];z_go;rw[show(fr.map fun x=>D.bl (!decide ((lF t x).getD "out"="out")))=(fr.map fun x=> !decide ((lF t x).getD "out"="out")).map D.bl by rw[xa9];rfl,Ey];z_go;rw[xdY];rfl
structure RW where
 w:Str
 nm:Str
 fr:List Str
 rs:List Str
def RW.D (r:RW):E3.D:=u5 r.w r.nm r.fr r.rs
noncomputable def gF (ws:List Str):Option RW:=match ws with
 |w::nm::r=>if eN (w::nm::r)=true then some ⟨w,nm,r.take ((frm w).getD 0),r.drop ((frm w).getD 0)⟩ else none
 |_=>none
theorem Ku {ws:List Str}(h:eN ws=false):gF ws=none:=by
 unfold gF
 split
 ·rw[h,xab (by decide)]
 ·rfl
theorem zeR {ws:List Str}(h:eN ws=true):∃w nm r f,ws=w::nm::r/\frm w=some f/\gF ws=some ⟨w,nm,r.take f,r.drop f⟩:=by
  match ws,h with
  | [],h=>cases h
  | [_],h=>cases h
  |w::nm::r,h=>
    cases hf:frm w with
    |none=>
      unfold eN at h;dsimp only at h;rw[hf]at h;cases h
    |some f=>
      refine⟨w,nm,r,f,rfl,hf,?_⟩;show(if eN (w::nm::r)=true then some (RW.mk w nm (r.take ((frm w).getD 0)) (r.drop ((frm w).getD 0))) else none)=_
      rw[tG h,hf];rfl
noncomputable def pK:List (List Str)->Nat->List (Str×Str)->List RW->List RW ⊕ (Str×Nat)
  | [],_,_,acc=>.inl acc
  |ws::rest,n,t,acc=>match gF ws with
    |none=>.inr ("NoText",n)
    |some r=>if gP t r.nm r.fr=true then pK rest (n + 1) (t ++ [(r.nm,r.w)]) (acc ++ [r]) else .inr ("NoName",n)
def Ln (l:Str)(ws:List Str):Prop:=Txt.split l (Str.ofString " ")=ws/\l.length<=1000000/\(∀x∈ws,sm x)/\ws.length<=900
theorem zeY {z l:Str}{ws:List Str}{acc:List RW}{t:List (Str×Str)}{E:Mm}{n:Nat}{s5 s6:E3.Slot}(hL:Ln l ws)(hn:n<1000)(ha:acc.length<1000)(ht:t.length<1000):∃E',
    Bk [.val (.str z),.own (acc.map RW.D),.val (.ref M.length),.val (.int n),.val (.str l),s5,s6] (M ++ [.dct (gZ t)] ++ E)=match gF ws with
    |none=>some (.ex "NoText" ((n:Int) + 1),M ++ [.dct (gZ t)] ++ E')
    |some r=>if gP t r.nm r.fr=true then some (.nx [.val (.str z),.own ((acc ++ [r]).map RW.D),.val (.ref M.length),.val (.int n),.val (.str l),.val (.lst (ws.map D.str)),.val r.D],M ++ [.dct (gZ (t ++ [(r.nm,r.w)]))] ++ E') else some (.ex "NoName" ((n:Int) + 1),M ++ [.dct (gZ t)] ++ E'):=by
  obtain⟨h1,h2,h3,h4⟩:=hL;obtain⟨E2,e2⟩:=zkP (M:=M ++ [.dct (gZ t)] ++ E) ws h3 h4;have hN:∀E:Mm,(M ++ [Cl.dct (gZ t)] ++ E)[M.length]? =some (.dct (gZ t)):=fun E=>by
    rw[xas,xa4 (xad _),xbN];rfl
  refine⟨E ++ E2,?_⟩;unfold Bk;z_go;rw[Ml,h1,tG ⟨by x_go,by rw[xav];omega⟩];z_go;rw[e2,xas (M ++ [Cl.dct (gZ t)])];cases hb:eN ws
  · rw[Ku hb];z_go;rw[Ze (by omega)];z_go
  · obtain⟨w,nm,r,f,rfl,hf,hp⟩:=zeR hb;have g1:=g_row (M:=M ++ [.dct (gZ t)] ++ (E ++ E2)) (nm:=nm) (r:=r) hf;rw[xal,xal]at h4;have g2:=PB (w:=w) (nm:=nm) (fr:=r.take f) (rs:=r.drop f) (hN (E ++ E2)) (by rw[xaU];omega);rw[hp];z_go;rw[xak,xak]at g1;rw[g1];z_go;rw[g2];cases hb2:gP t nm (r.take f)
    · z_go;rw[Ze (by omega)];z_go
    · have hg:lF t nm=none:=by
        unfold gP at hb2;rw[xac]at hb2;exact xdP.mp hb2.1
      z_go;rw[zlo (k:=M.length) (kvs:=gZ t) (e:=.str nm) (x:=.str w) (key:=.inr nm) (M1:=M ++ [.dct (gZ t)] ++ (E ++ E2)) (M2:=M ++ [.dct (gZ t)] ++ (E ++ E2)) (M3:=M ++ [.dct (gZ t)] ++ (E ++ E2)) (by unfold u5;z_go) (by z_go) (by unfold u5;z_go) (hN _) rfl (by unfold gZ;rw[xap,xav];omega),zht hg];z_go;rw[tG (show acc.length<16777216 by omega)];z_go;rw[xaP,xas M,xas M,xcv _ _ (xad _),xbN];rfl
def U4 (M:Mm)(z:Str)(q:List RW ⊕ (Str×Nat))(o:E3.OS):Prop:=match q with
 |.inl rows=>∃E s3 s4 s5 s6,o=some (.nx [.val (.str z),.own (rows.map RW.D),.val (.ref M.length),s3,s4,s5,s6],M ++ E)
 |.inr (c,n)=>∃E,o=some (.ex c ((n:Int) + 1),M ++ E)
theorem ZG {z:Str}:∀(ls:List (Str×List Str)) (n:Nat) (t:List (Str×Str)) (acc:List RW) (E:Mm) (s3 s4 s5 s6:E3.Slot),(∀p∈ls,Ln p.1 p.2)->n + ls.length<=1000->acc.length + ls.length<=1000->t.length + ls.length<=1000->
    U4 M z (pK (ls.map (·.2)) n t acc) (xU [3,4] Bk n (ls.map fun p=>D.str p.1) [.val (.str z),.own (acc.map RW.D),.val (.ref M.length),s3,s4,s5,s6] (M ++ [.dct (gZ t)] ++ E))
  | [],n,t,acc,E,s3,s4,s5,s6,_,_,_,_=>⟨[.dct (gZ t)] ++ E,s3,s4,s5,s6,by rw[<-xas];rfl⟩
  |p::ls,n,t,acc,E,s3,s4,s5,s6,h,hn,ha,ht=>by
    rw[xal]at hn ha ht;obtain⟨E',e⟩:=zeY (M:=M) (z:=z) (acc:=acc) (t:=t) (E:=E) (n:=n) (s5:=s5) (s6:=s6) (h p (xaD ..)) (by omega) (by omega) (by omega);rw[xak,xak,xU];rw[show pO [3,4] [D.int (n:Int),.str p.1] [.val (.str z),.own (acc.map RW.D),.val (.ref M.length),s3,s4,s5,s6]=some [.val (.str z),.own (acc.map RW.D),.val (.ref M.length),.val (.int n),.val (.str p.1),s5,s6] from rfl];dsimp only;rw[e];unfold pK
    cases hp:gF p.2 with
    |none=>exact⟨[.dct (gZ t)] ++ E',by rw[<-xas]⟩
    |some r=>
      dsimp only
      by_cases hb:gP t r.nm r.fr=true
      · rw[tG hb,tG hb];exact ZG ls (n + 1) _ _ _ _ _ _ _ (fun q hq=>h q (xan _ hq)) (by omega) (by rw[xam];simp;omega) (by rw[xam];simp;omega)
      · rw[xab hb,xab hb];exact⟨[.dct (gZ t)] ++ E',by rw[<-xas]⟩
noncomputable def rdO (M E:Mm):List RW ⊕ (Str×Nat)->Option (Res×Mm)
 |.inl rows=>some (.v (.ref (M ++ E).length),M ++ E ++ [.lst (rows.map RW.D)])
 |.inr (c,n)=>some (.x c ((n:Int) + 1),M ++ E)
theorem Wm {z:Str}{ls:List (Str×List Str)}(hz:Txt.split z (Str.ofString "\n")=ls.map (·.1))(hl:z.length<=10000000)(h:∀p∈ls,Ln p.1 p.2)(hn:ls.length<=900):∃E,tW [.str z] M=rdO M E (pK (ls.map (·.2)) 0 [] []):=by
  have lp:=ZG (M:=M) (z:=z) ls 0 [] [] [] .un .un .un .un h (by omega) (by rw[xbM];omega) (by rw[xbM];omega);rw[xaH]at lp;have en:Hv [3,4] (au (n_ yq (ak 0) (au (aj (.str "\n")) aq)) aq) Bk [.val (.str z),.own [],.val (.ref M.length),.un,.un,.un,.un] (M ++ [.dct []])=xU [3,4] Bk 0 (ls.map fun p=>D.str p.1) [.val (.str z),.own [],.val (.ref M.length),.un,.un,.un,.un] (M ++ [.dct []]):=by
    unfold Hv;z_go;rw[Ml,hz,tG ⟨by x_go,by rw[xav];omega⟩];z_go;rw[xa9];rfl
  unfold tW Oo;z_go;rw[zk3];z_go;rw[en];revert lp;show U4 M z _ (xU [3,4] Bk 0 (ls.map fun p=>D.str p.1) [.val (.str z),.own [],.val (.ref M.length),.un,.un,.un,.un] (M ++ [.dct []]))->_
  cases pK (ls.map (·.2)) 0 [] [] with
  |inl rows=>
    rintro⟨E,s3,s4,s5,s6,e⟩;refine⟨E,?_⟩;rw[e];z_go;rfl
  |inr p=>
    obtain⟨c,n⟩:=p;rintro⟨E,e⟩;refine⟨E,?_⟩;rw[e];rfl
def jL {z:Str}{ws:List Str}(hz:z.length<=16)(h:(ws.map (·.length)).sum + ws.length<=1048576):tL z [.lst (ws.map D.str)]=some (.str (Txt.join z ws)):=by
 unfold tL;simp only[E3.strs_map];rw[tG ⟨hz,h⟩]
noncomputable def RW.ws (r:RW):List Str:=r.w::r.nm::(r.fr ++ r.rs)
theorem Xg {ds:List D}:Qp M (.tup ds)=some (.v (.lst ds),M):=rfl
def Xh {r:RW}(h:(r.ws.map (·.length)).sum + r.ws.length<=1048576)(h1:r.ws.length<=900):zQ [r.D] M=some (.v (.str (Txt.join (Str.ofString " ") r.ws)),M):=by
 have hj:=jL (z:=Str.ofString " ") (by x_go) h;unfold RW.ws at h1 hj ⊢;rw[xal,xal,xam]at h1;unfold zQ Nx RW.D u5;z_go;rw[Xg];z_go;rw[tG (by omega)];z_go;rw[Xg];z_go;rw[tG (by omega)];z_go;rw[show(D.str r.w::D.str r.nm::(r.fr.map D.str ++ r.rs.map D.str))=(r.w::r.nm::(r.fr ++ r.rs)).map D.str by simp,hj];z_go
def RW.sh (r:RW):Prop:=(r.ws.map (·.length)).sum + r.ws.length<=20000/\r.ws.length<=900
noncomputable def txt (rs:List RW):Str:=Txt.join (Str.ofString "\n") (rs.map fun r=>Txt.join (Str.ofString " ") r.ws)
def zhX {r:RW}:r.D.dep<=3:=by
 unfold RW.D u5;simp only[D.dep,D.deps,Ib];omega
theorem VP:∀rs:List RW,D.deps (rs.map RW.D)<=3
  | []=>xbL _
  |r::rs=>by
    have:=zhX (r:=r);have:=VP rs;simp only[xak,D.deps];omega
theorem zhD {rs:List RW}(hn:rs.length<=50)(hl:(txt rs).length<=10000000)(hz:Txt.split (txt rs) (Str.ofString "\n")=rs.map fun r=>Txt.join (Str.ofString " ") r.ws)(hL:∀r∈rs,Ln (Txt.join (Str.ofString " ") r.ws) r.ws)(hr:pK (rs.map RW.ws) 0 [] []=.inl rs):∃E,tW [.str (txt rs)] M=some (.v (.ref (M ++ E).length),M ++ E ++ [.lst (rs.map RW.D)]):=by
 obtain ⟨E, e⟩ := Wm (M := M) (z := txt rs) (ls := rs.map fun r => (Txt.join (Str.ofString " ") r.ws, r.ws)) (by rw [hz, xa9]; rfl) hl (fun p hp=>by
  obtain⟨r,h,rfl⟩:=xaK.mp hp;exact hL r h) (by rw[xap];omega)
 refine⟨E,?_⟩;rw[e,xa9,show((·.2) ∘ fun r:RW=>(Txt.join (Str.ofString " ") r.ws,r.ws))=RW.ws from rfl,hr];rfl
theorem CW {c B:Nat}:∀(ps:List (List Nat)),(∀p∈ps,p.length<=B)->(jn c ps).length<=ps.length * (B + 1)
  | [],_=>by simp[jn]
  | [p],h=>by have:=h p (by simp);simp[jn];omega
  |p::q::r,h=>by
    have:=CW (c:=c) (q::r) fun x hx=>h x (xan _ hx);have hp:=h p (by simp);rw[jn,xam,xal,xal,Nat.succ_mul];omega
theorem JL {c d:Nat}:∀(ps:List (List Nat)),d∈jn c ps->d=c\/∃p∈ps,d∈p
  | [],h=>by cases h
  | [p],h=>.inr ⟨p,by simp,h⟩
  |p::q::r,h=>by
    rw[jn,xay,xaq]at h;rcases h with h |rfl |h
    · exact .inr ⟨p,by simp,h⟩
    · exact .inl rfl
    · rcases JL (q::r) h with h |⟨x,hx,h⟩
      · exact .inl h
      · exact .inr ⟨x,xan _ hx,h⟩
def zJ:Str.ofString " "=⟨#[32]⟩:=by x_go
def GX:Str.ofString "\n"=⟨#[10]⟩:=by x_go
def Dy {ws:List Str}{B:Nat}(h:∀x∈ws,x.length<=B):(ws.map (·.length)).sum<=ws.length * B:=by
  induction ws with
  |nil=>simp
  |cons w ws ih=>
    have:=h w (by simp);have:=ih fun x hx=>h x (xan _ hx);rw[xak,xbF,xal,Nat.succ_mul];omega
def wd (x:Str):Prop:=x.length<=60/\∀c∈cd x,c<4294967296/\c≠10/\c≠32
theorem zjB {ws:List Str}(h:∀x∈ws,wd x)(hn:ws≠ [])(hl:ws.length<=60):Ln (Txt.join (Str.ofString " ") ws) ws/\10∉cd (Txt.join (Str.ofString " ") ws)/\(Txt.join (Str.ofString " ") ws).length<=4000:=by
 have hj:=CZ zJ ws;have hb:(Txt.join (Str.ofString " ") ws).length<=4000:=by
  rw[fZ,hj];refine xau (CW (B:=60) _ fun p hp=>?_) ?_
  ·obtain⟨z,hz,rfl⟩:=xaK.mp hp;rw[<-fZ];exact(h z hz).1
  ·rw[xap];omega
 refine⟨⟨?_,by omega,fun x hx=>⟨by have:=(h x hx).1;omega,fun c hc=>((h x hx).2 c hc).1⟩,by omega⟩,?_,hb⟩
 ·rw[zJ];refine LQ hn (fun y hy z=>((h y hy).2 32 z).2.2 rfl) ?_;rw[<-zJ,hj]
 ·rw[hj];intro z;rcases JL _ z with z |⟨p,hp,z⟩
  ·exact absurd z (by decide)
  ·obtain⟨y,hy,rfl⟩:=xaK.mp hp;exact((h y hy).2 10 z).2.1 rfl
def RW.wf (r:RW):Prop:=(∀x∈r.ws,wd x)/\r.ws.length<=60
def zdW {rs:List RW}(h:∀r∈rs,r.wf)(hn:rs≠ [])(hl:rs.length<=50):Txt.split (txt rs) (Str.ofString "\n")=(rs.map fun r=>Txt.join (Str.ofString " ") r.ws)/\(txt rs).length<=10000000/\(∀r∈rs,Ln (Txt.join (Str.ofString " ") r.ws) r.ws)/\((rs.map fun r=>Txt.join (Str.ofString " ") r.ws).map (·.length)).sum + rs.length<=1048576/\∀r∈rs,r.sh:=by
 have hw:∀r∈rs,_:=fun r hr=>zjB (h r hr).1 (by unfold RW.ws;simp) (h r hr).2;have hj:=CZ GX (rs.map fun r=>Txt.join (Str.ofString " ") r.ws);refine⟨?_,?_,fun r hr=>(hw r hr).1,?_,fun r hr=>⟨?_,by have:=(h r hr).2;omega⟩⟩
 ·rw[GX];refine LQ (by simpa using hn) (fun y hy=>?_) ?_
  ·obtain⟨r,hr,rfl⟩:=xaK.mp hy;exact(hw r hr).2.1
  ·exact hj
 ·unfold txt;rw[fZ,hj];refine xau (CW (B:=4000) _ fun p hp=>?_) ?_
  ·obtain⟨z,hz,rfl⟩:=xaK.mp hp;obtain⟨r,hr,rfl⟩:=xaK.mp hz;rw[<-fZ];exact(hw r hr).2.2
  ·rw[xap,xap];omega
 ·have:=Dy (ws:=rs.map fun r=>Txt.join (Str.ofString " ") r.ws) (B:=4000) fun x hx=>by
   obtain⟨r,hr,rfl⟩:=xaK.mp hx;exact(hw r hr).2.2
  rw[xap]at this;omega
 ·have:=Dy (B:=60) fun x hx=>((h r hr).1 x hx).1;have:=(h r hr).2;omega
noncomputable def lG (r:RW):Str×Str:=(r.nm,r.w)
def RWS (rs:List RW):Prop:=∀(as:List RW) (r:RW) (bs:List RW),rs=as ++ r::bs->gF r.ws=some r/\gP (as.map lG) r.nm r.fr=true
theorem Zg:∀(bs as:List RW) (n:Nat),RWS (as ++ bs)->pK (bs.map RW.ws) n (as.map lG) as=.inl (as ++ bs)
  | [],as,n,_=>by rw[xaH];rfl
  |r::bs,as,n,h=>by
    obtain⟨h1,h2⟩:=h as r bs rfl;rw[xak,pK,h1];dsimp only;rw[tG h2,show as.map lG ++ [(r.nm,r.w)]=(as ++ [r]).map lG by rw[xaP];rfl];rw[Zg bs (as ++ [r]) (n + 1) (by rw[xas];exact h),xas];rfl
def zex {rs:List RW}(h:RWS rs):pK (rs.map RW.ws) 0 [] []=.inl rs:=Zg rs [] 0 h
def RWS.add {rs:List RW}{r:RW}(h:RWS rs)(h1:gF r.ws=some r)(h2:gP (rs.map lG) r.nm r.fr=true):RWS (rs ++ [r]):=fun as q bs e=>by
 rcases List.eq_nil_or_concat bs with rfl |⟨cs,x,rfl⟩
 ·obtain⟨e1,e2⟩:=List.append_inj' e rfl;cases e2;rw[<-e1];exact⟨h1,h2⟩
 ·rw[List.concat_eq_append, <-xbf, <-xas]at e;obtain⟨e,_⟩:=List.append_inj' e rfl;exact h as q cs e
def zV {n:Int}(h0:0<=n)(h1:n<10000000000000):n.natAbs.log2<1920:=Xj (by omega)
theorem strs_map:∀l:List Str,zu (l.map .str)=some l
 | []=>rfl
 |a::l=>by simp only[xak,zu,strs_map l];rfl
def zfh:∀c∈cd (Str.ofString "abcdefghijklmnopqrstuvwxyz"),pG c=true:=by x_go
theorem zaF:∀cs:List Nat,Str.join (Str.ofString "") (cs.map fun c=>(⟨#[c]⟩:Str))=(⟨cs.toArray⟩:Str)
  | []=>rfl
  | [c]=>rfl
  |c::d::r=>by
    have ih:=zaF (d::r);have e0:(Str.ofString "").cps= #[]:=by x_go
    show(⟨#[c]⟩:Str) ++ Str.ofString "" ++ Str.join (Str.ofString "") ((d::r).map fun c=>(⟨#[c]⟩:Str))=_;rw[ih];have e:((⟨#[c]⟩:Str) ++ Str.ofString "" ++ (⟨(d::r).toArray⟩:Str)).cps=(c::d::r).toArray:=by
      rw[xej,xej,e0]
      simp
    exact congrArg Str.mk e
def zbT (cs:List Nat):Txt.join (Str.ofString "") (cs.map fun c=>(⟨#[c]⟩:Str))=(⟨cs.toArray⟩:Str):=by
 show Builtin.Str.glued (Str.ofString "") _=_;rw[StrLaws.glued_eq_join];exact zaF cs
def zcG (cs:List Nat):((cs.map fun c=>(⟨#[c]⟩:Str)).map (·.length)).sum=cs.length:=by
 induction cs with
 |nil=>rfl
 |cons c r ih=>simp only[xak,xbF,ih,xal];rw[show(⟨#[c]⟩:Str).length=1 from rfl];omega
theorem zbA {x:Str}{j:Int}(h:0<=j/\j<=x.length):cd (Txt.slice x none (some j))=(cd x).take j.toNat:=by
 have:=PyProof.Rows.slice_closes_to (x:=x) (j:=j) ⟨h.1,by show j<=((cd x).length:Int);rw[<-fZ];exact h.2⟩;rw[eq_of_beq this];show List.take (j - 0).toNat (List.drop (0:Int).toNat (cd x))=_;rw[Int.sub_zero];rfl
def S7 {x:Str}{j:Int}(h:0<=j/\j<=x.length):cd (Txt.slice x (some j) none)=(cd x).drop j.toNat:=by
 have:=xdf (x:=x) (i:=j) ⟨h.1,by show j<=((cd x).length:Int);rw[<-fZ];exact h.2⟩;rw[eq_of_beq this];show List.take (((cd x).length:Int) - j).toNat (List.drop j.toNat (cd x))=_;rw[xbg];rw[xbe];omega
def O_ {i x:Int}(i0:0<=i)(i1:i<=10):∃c:Nat,pG c=true/\∀M:Mm,Jx [.val (.int i),.val (.int x)] M=some (.v (.str ⟨#[c]⟩),M):=by
 have p0:=xaN (x / (3 + 7 * i)) (show(26:Int)≠0 by decide);have p1:=xaA (x / (3 + 7 * i)) (show(0:Int)<26 by decide);generalize ep:x / (3 + 7 * i) % 26=y at p0 p1;have hl:(cd (Str.ofString "abcdefghijklmnopqrstuvwxyz")).length=26:=by x_go
 have hx:=xah (show y.toNat<(cd (Str.ofString "abcdefghijklmnopqrstuvwxyz")).length by omega);have ha:=gR hx;rw[xca p0]at ha;refine⟨(cd (Str.ofString "abcdefghijklmnopqrstuvwxyz"))[y.toNat]'(by omega),zfh _ (xa7 _),fun M=>?_⟩;unfold Jx;z_go;rw[tG ⟨by omega,by omega⟩];z_go;rw[ep,tG (by x_go),show(Str.ofString "abcdefghijklmnopqrstuvwxyz").cps.toList=cd (Str.ofString "abcdefghijklmnopqrstuvwxyz") from rfl,ha];z_go
theorem zet {x k:Int}(hk:0<=k/\k<=1000):∃(nm:Str) (as bs:List Nat),cd nm=as ++ cd (b_ k) ++ bs/\as≠ []/\as.length + bs.length<=10/\(∀c∈as ++ bs,pG c=true)/\∀M:Mm,FW [.int x,.int k] M=some (.v (.str nm),M):=by
 have m0:=xaN x (show(10:Int)≠0 by decide);have m1:=xaA x (show(0:Int)<10 by decide);have hF:∃F:Nat->Nat,(∀i,i<=10->pG (F i)=true)/\∀(M:Mm) (i:Nat),i<=10->Jx [.val (.int (0 + i)),.val (.int x)] M=some (.v (.str ⟨#[F i]⟩),M):=by
  refine⟨fun i=>if h:i<=10 then(O_ (i:=(0:Int) + i) (x:=x) (by omega) (by omega)).choose else 0,fun i hi=>?_,fun M i hi=>?_⟩
  ·simp only[hi,dif_pos];exact(O_ (i:=(0:Int) + i) (x:=x) (by omega) (by omega)).choose_spec.1
  ·simp only[hi,dif_pos];exact(O_ (i:=(0:Int) + i) (x:=x) (by omega) (by omega)).choose_spec.2 M
 obtain⟨F,hLt,hF⟩:=hF;have hn:(1 + x % 10).toNat<=10:=by omega
 generalize hw:(⟨((List.range (1 + x % 10).toNat).map F).toArray⟩:Str)=word;have hwl:word.length=(1 + x % 10).toNat:=by rw[<-hw];show(((List.range (1 + x % 10).toNat).map F).toArray).size=_;simp
 have q0:=xaN (x / 11) (show(word.length:Int)≠0 by omega);have q1:=xaA (x / 11) (show(0:Int)<(word.length:Int) by omega);have P:0<=1 + x / 11 % (word.length:Int)/\1 + x / 11 % (word.length:Int)<=(word.length:Int):=⟨by clear m0 m1 hk hn hwl;omega,by clear m0 m1 hk hn hwl;omega⟩;have B:1<=word.length/\word.length<=10:=⟨by clear q0 q1 P;omega,by clear q0 q1 P;omega⟩;clear m0 m1;have B6:word.length<=16777216:=xau B.2 (by decide);have l1:(Txt.slice word none (some (1 + x / 11 % (word.length:Int)))).length<=10:=by
  rw[fZ,zbA P,xaU, <-fZ];exact xau (xdS _ _) B.2
 have l2:(Txt.slice word (some (1 + x / 11 % (word.length:Int))) none).length<=10:=by
  rw[fZ,S7 P,xbe, <-fZ];exact xau (Nat.sub_le _ _) B.2
 obtain⟨wl,_⟩:=V3 (i:=k) hk.1 (by omega);have hcw:∀c∈cd word,pG c=true:=fun c hc=>by
  rw[<-hw]at hc;obtain⟨i,hi,rfl⟩:=xaK.mp (show c∈(List.range (1 + x % 10).toNat).map F by simpa [cd] using hc);exact hLt i (by rw[xbz]at hi;omega)
 have hlw:(cd word).length=(1 + x % 10).toNat:=by rw[<-fZ];exact hwl
 refine⟨Txt.slice word none (some (1 + x / 11 % (word.length:Int))) ++ b_ k ++ Txt.slice word (some (1 + x / 11 % (word.length:Int))) none,(cd word).take (1 + x / 11 % (word.length:Int)).toNat,(cd word).drop (1 + x / 11 % (word.length:Int)).toNat,?_,?_,?_,?_,fun M=>?_⟩
 ·rw[gW,gW,zbA P,S7 P]
 ·intro z;have:=congrArg List.length z;rw[xaU,xbM]at this;omega
 ·rw[xaU,xbe];omega
 ·rw[xbJ];exact hcw
 unfold FW Nz;z_go;rw[Ho (by omega)];z_go;rw[zP (fun(i:Nat)=>D.int (0 + i)) (fun(i:Nat)=>D.str ⟨#[F i]⟩) (List.range (1 + x % 10).toNat) [] (fun i hi=>hF M i (by rw[xbz]at hi;omega)) (by rw[xav,xcq];simp;omega)];z_go;have hj:tL (Str.ofString "") [.lst ((List.range (1 + x % 10).toNat).map fun(i:Nat)=>D.str ⟨#[F i]⟩)]=some (.str word):=by
  rw[show((List.range (1 + x % 10).toNat).map fun(i:Nat)=>D.str ⟨#[F i]⟩)=(((List.range (1 + x % 10).toNat).map F).map fun c=>(⟨#[c]⟩:Str)).map .str by rw[xa9,xa9];rfl];simp only[tL,strs_map,zcG,zbT,xap,xcq];rw[tG ⟨by x_go,by omega⟩,hw]
 rw[hj];z_go;rw[tG B6];z_go;rw[tG (show(0:Int)<(word.length:Int) from Int.ofNat_lt.mpr B.1)];z_go;rw[tG B6];z_go;rw[tG (zV hk.1 (by omega))];z_go;have wl':(Str.ofString (toString k)).length<=22:=wl;rw[tG (by omega)];z_go;rw[tG B6];z_go;rw[tG (by rw[xb0];omega)];z_go;rfl
def zdO {k:Int}(h0:0<=k):∀c∈cd (b_ k),48<=c/\c<=57:=fun c hc=>by
 unfold cd at hc;rw[w5 h0]at hc;exact Cy k.toNat c hc
def Xm {c:Nat}(h:pG c=true):97<=c/\c<=122:=by
 unfold pG at h
 simpa using h
def zki {nm:Str}{as bs:List Nat}{k:Int}(e:cd nm=as ++ cd (b_ k) ++ bs)(ha:as≠ [])(hl:as.length + bs.length<=10)(hc:∀c∈as ++ bs,pG c=true)(h0:0<=k)(h1:k<100):gJ nm=true/\wd nm/\(cd nm).filter (fun c=>decide (c<=57))=cd (b_ k):=by
 have hd:=zdO h0;have hs:(cd (b_ k)).length<=2:=by
  unfold cd;rw[w5 h0];exact Fo (k:=2) (by decide) (by rw[show(10:Nat) ^ 2=100 by decide];omega)
 have hm:∀c∈cd nm,pG c=true\/(48<=c/\c<=57):=fun c h=>by
  rw[e,xay,xay]at h;rcases h with(h |h) |h
  ·exact .inl (hc c (xay.mpr (.inl h)))
  ·exact .inr (hd c h)
  ·exact .inl (hc c (xay.mpr (.inr h)))
 have hn:(cd nm).length<=12:=by rw[e,xam,xam];omega
 refine⟨?_,⟨by rw[fZ];omega,fun c h=>?_⟩,?_⟩
 ·obtain⟨a,as,rfl⟩:=xbZ ha;have ea:cd nm=a::(as ++ cd (b_ k) ++ bs):=by rw[e];rfl
  unfold gJ;rw[ea]at hn hm ⊢;rw[xal]at hn;simp only[xac,xaB];refine⟨by omega,hc a (by simp),xaO.mpr fun c h=>?_⟩;unfold wg;rcases hm c h with z |z
  ·rw[z,Bool.true_or]
  ·rw[show nR c=true by unfold nR;simp;omega,xdW]
 ·rcases hm c h with z |z
  ·have:=Xm z;omega
  ·omega
 ·have hf:∀l:List Nat,(∀c∈l,pG c=true)->l.filter (fun c=>decide (c<=57))=[]:=fun l h=>by
   rw[List.filter_eq_nil_iff];intro c hc';have:=Xm (h c hc')
   simp
   omega
  rw[e,xeJ,xeJ,hf as fun c h=>hc c (xay.mpr (.inl h)),hf bs fun c h=>hc c (xay.mpr (.inr h)),xaH,xbW,List.filter_eq_self];intro c h;have:=hd c h
  simp
  omega
def Sx {i j:Nat}(hi:i<1000)(hj:j<1000)(h:cd (b_ (i:Int))=cd (b_ (j:Int))):i=j:=by
 have e:b_ (i:Int)=b_ (j:Int):=by
  generalize b_ (i:Int)=x at h;generalize b_ (j:Int)=y at h;obtain⟨⟨x⟩⟩:=x;obtain⟨⟨y⟩⟩:=y;exact congrArg (fun l=>(⟨⟨l⟩⟩:Str)) h
 have b:∀n:Nat,n<1000->((n:Int).natAbs<10 ^ 600):=fun n hn=>xao (show(n:Int).natAbs<10 ^ 3 by rw[Int.natAbs_natCast];exact hn) (xen (by decide) (by decide));have h1:=Qd (b i hi);rw[e,Qd (b j hj)]at h1;have:=xaw h1;omega
def zk4:LG "tv":=⟨by x_go,fun c hc=>by revert c;decide +kernel⟩
def zgs:LG "tvw":=⟨by x_go,fun c hc=>by revert c;decide +kernel⟩
def yj {a:Int}(h0:0<=a)(h1:a<=1000000000000):lO (b_ a)=true/\vl (b_ a)=a/\wd (b_ a):=by
 have hl:(dg a.toNat).length<=13:=Fo (by decide) (by rw[show(10:Nat) ^ 13=10000000000000 by decide];omega);have e:cd (b_ a)=dg a.toNat:=w5 h0;have hl2:(b_ a).length<=13:=by rw[fZ,e];exact hl
 have c:lO (b_ a)=true:=by
  unfold lO;rw[xaC (show(b_ a).length<=20 by omega),e,JC];rfl
 refine⟨c,?_,by omega,fun x hx=>?_⟩
 ·have h:=(OJ c).1;rw[Qd (xao (show a.natAbs<10 ^ 13 by rw[show(10:Nat) ^ 13=10000000000000 by decide];omega) (xen (by decide) (by decide)))]at h;exact(xaw h).symm
 ·have:=zdO h0 x hx;omega
theorem Fj {a lo hi:Int}(h0:0<=a)(h1:a<=1000000000000)(h2:lo<=a)(h3:a<=hi):lM (b_ a) lo hi=true:=by
 obtain⟨c,v,_⟩:=yj h0 h1;unfold lM;rw[c,v,xaC h2,xaC h3];rfl
noncomputable def MF (x:Str):Bool:=decide (x.length<=60) && (cd x).all fun c=>decide (c<4294967296) && (!decide (c=10) && !decide (c=32))
def sy {x:Str}(h:MF x=true):wd x:=by
 unfold MF at h;rw[xac,xaB,xaO]at h;refine⟨h.1,fun c hc=>?_⟩;have:=h.2 c hc;simp only[xac,xaB,xcp,xd7]at this;exact this
def zkl:NT.all (fun p=>MF p.1)=true:=by x_go
def zkL:FT.all (fun p=>MF p.1)=true:=by x_go
def zif {x:Str}{n:Nat}(h:frm x=some n):wd x:=by
 unfold frm at h;rw[xae]at h;obtain⟨p,hp,rfl⟩:=h;have h1:=xcl hp;rw[<-xbc h1];exact sy (xaO.mp zkL _ (xbi hp))
def zlN {x L:Str}(h:lf x L=true):wd x:=by
  unfold lf at h;rw[xbp,xac]at h;rcases h with h |⟨h,_⟩
  · unfold sO at h;rw[xac,xaB]at h;obtain⟨g,hl⟩:=h;unfold good at g;rw[xac]at g;obtain⟨_,ad,_⟩:=CG g.2;have hd:∀c∈pZ (cd x),48<=c/\c<=57:=ad;unfold pZ at hl hd;split at hd
    · rename_i h45;rw[tG h45]at hl
      cases e:cd x with
      |nil=>rw[e]at h45;cases h45
      |cons c r=>
        rw[e]at h45 hl hd;cases h45;rw[xcO]at hl hd;refine⟨by rw[fZ,e,xal];omega,fun c hc=>?_⟩;rw[e,xaq]at hc;rcases hc with rfl |hc
        · omega
        · have:=hd c hc;omega
    · rename_i h45;rw[xab h45]at hl;exact⟨by rw[fZ];omega,fun c hc=>by have:=hd c hc;omega⟩
  · unfold tvw at h;simp only[xbp,xaB]at h;rcases h with(rfl |rfl) |rfl<;>exact sy (by x_go)
theorem ZD {L:Str}:∀{ws ks:List Str} {k:List Str},runK L ws ks=some k->∀x∈ws,wd x
  | [],_,_,_,x,hx=>by cases hx
  |y::ws,ks,k,h,x,hx=>by
    rw[runK]at h
    cases hs:stepK L y ks with
    |none=>rw[hs]at h;cases h
    |some k2=>
      rw[hs]at h;rcases xaq.mp hx with rfl |hx
      · unfold stepK at hs;split at hs
        · rename_i q hq;exact sy (xaO.mp zkl _ (QB hq))
        · split at hs
          · rename_i hl;exact zlN hl
          · cases hs
      · exact ZD h x hx
def R_ {L:Str}{ws k:List Str}(h:runK L ws.reverse []=some k):∀x∈ws,wd x:=fun x hx=>ZD h x (xd3.mpr hx)
variable {M:Mm}
structure RK (ab:List Str)(r:RW):Prop where
 fm:frm r.w=some r.fr.length\/(r.w="pour"/\2<=r.fr.length/\r.fr.length<=8/\r.rs=[])
 fr:∀f∈r.fr,f∈ab
 re:eZ r.w r.rs=true
 wd:∀x∈r.rs,wd x
 le:r.rs.length<=45
def Uk {a b:Str}(ha:wd a)(hb:wd b):∀x∈ [a,b],wd x:=fun x hx=>by
 rcases xaq.mp hx with rfl |hx
 ·exact ha
 ·rw[xaF]at hx;rw[hx];exact hb
def wd3 {a b c:Str}(ha:wd a)(hb:wd b)(hc:wd c):∀x∈ [a,b,c],wd x:=fun x hx=>by
 rcases xaq.mp hx with rfl |hx
 ·exact ha
 ·exact Uk hb hc x hx
def sW {f:Str}{ab:List Str}(h:f∈ab):∀g∈ [f],g∈ab:=fun g hg=>by rw[xaF]at hg;rw[hg];exact h
def Ub {f g:Str}{ab:List Str}(h:f∈ab)(h':g∈ab):∀x∈ [f,g],x∈ab:=fun x hx=>by
 rcases xaq.mp hx with rfl |hx
 ·exact h
 ·exact sW h' x hx
def Kc {p:Str->Prop}:∀x∈([]:List Str),p x:=fun x hx=>by cases hx
def Wb {x:Str}(h:fX x=true):wd x:=by
 unfold fX at h;simp only[xbp,xaB]at h;rcases h with((rfl |rfl) |rfl) |rfl<;>exact sy (by x_go)
section
variable {ab:List Str}{nm f g fold:Str}{ws:List Str}{a b:Int}
def zi2:RK ab ⟨"in",nm,[],[]⟩:=⟨.inl (by x_go:frm "in"=some 0),Kc,(by x_go:eZ "in" []=true),Kc,xbL _⟩
def Zn (h:f∈ab):RK ab ⟨"out",nm,[f],[]⟩:=⟨.inl (by x_go:frm "out"=some 1),sW h,(by x_go:eZ "out" []=true),Kc,xbL _⟩
def zkK {ws:List Str}:eZ "keep" ws=pY "tv" "truth" ws:=by unfold eZ;rw[tG rfl]
def zls {ws:List Str}:eZ "turn" ws=pY "tv" "number" ws:=by unfold eZ;rw[xab (by x_go),tG rfl]
def zlp {ws:List Str}:eZ "share" ws=pP ws:=by unfold eZ;rw[xab (by x_go),xab (by x_go),tG rfl]
def zlK {ws:List Str}:eZ "slide" ws=pQ ws:=by unfold eZ;rw[xab (by x_go),xab (by x_go),xab (by x_go),tG rfl]
def zjH {w:Str}{ws:List Str}(h:w="fixed"\/w="gap"):eZ w ws=lA ws:=by
 unfold eZ;rcases h with rfl |rfl<;>rw[xab (by x_go),xab (by x_go),xab (by x_go),xab (by x_go),tG (by x_go)]
def zjy {ws:List Str}:eZ "join" ws=Bh ws:=by unfold eZ;rw[xab (by x_go),xab (by x_go),xab (by x_go),xab (by x_go),xab (by x_go),tG rfl]
def zj9:eZ "pour" []=true:=by x_go
def ze3 (h:f∈ab)(hr:runK "tv" ws.reverse []=some [Str.ofString "truth"])(hl:ws.length<=44):RK ab ⟨"keep",nm,[f],ws⟩:=⟨.inl (by x_go:frm "keep"=some 1),sW h,by show eZ "keep" ws=true;rw[zkK];exact xaC hr,R_ hr,by show ws.length<=45;omega⟩
def zer (h:f∈ab)(hr:runK "tv" ws.reverse []=some [Str.ofString "number"])(hl:ws.length<=44):RK ab ⟨"turn",nm,[f],ws⟩:=⟨.inl (by x_go:frm "turn"=some 1),sW h,by show eZ "turn" ws=true;rw[zls];exact xaC hr,R_ hr,by show ws.length<=45;omega⟩
theorem zdp (h:f∈ab)(h0:0<=a)(h1:a<b)(h2:b<=8):RK ab ⟨"share",nm,[f],[b_ a,b_ b]⟩:=by
 refine⟨.inl (by x_go:frm "share"=some 1),sW h,?_,Uk (yj h0 (by omega)).2.2 (yj (by omega) (by omega)).2.2,by show 2<=45;decide⟩;show eZ "share" [b_ a,b_ b]=true;rw[zlp];show(lM (b_ b) 1 8 && lM (b_ a) 0 (vl (b_ b) - 1))=true;rw[Fj (by omega) (by omega) (by omega) h2,(yj (a:=b) (by omega) (by omega)).2.1,Fj h0 (by omega) h0 (by omega)];rfl
theorem zdX (h0:1<=a)(h1:a<=1000000000000)(hf:fX fold=true):lA [b_ a,fold]=true:=by
 show(lM (b_ a) 1 1000000000000 && fX fold)=true;rw[Fj (by omega) h1 h0 h1,hf];rfl
def R8 {w:Str}(hw:w="fixed"\/w="gap")(h:f∈ab)(h0:1<=a)(h1:a<=1000000000000)(hf:fX fold=true):RK ab ⟨w,nm,[f],[b_ a,fold]⟩:=by
 refine⟨.inl ?_,sW h,?_,Uk (yj (by omega) h1).2.2 (Wb hf),by show 2<=45;decide⟩
 ·rcases hw with rfl |rfl
  ·exact(by x_go:frm "fixed"=some 1)
  ·exact(by x_go:frm "gap"=some 1)
 ·show eZ w [b_ a,fold]=true;rw[zjH hw];exact zdX h0 h1 hf
theorem zdx (h:f∈ab)(h0:1<=b)(h1:b<=a)(h2:a<=8 * b)(h3:a<=1000000000000)(hf:fX fold=true):RK ab ⟨"slide",nm,[f],[b_ a,b_ b,fold]⟩:=by
 refine⟨.inl (by x_go:frm "slide"=some 1),sW h,?_,wd3 (yj (by omega) h3).2.2 (yj (by omega) (by omega)).2.2 (Wb hf),by show 3<=45;decide⟩;show eZ "slide" [b_ a,b_ b,fold]=true;rw[zlK];show(lA [b_ a,fold] && (lM (b_ b) 1 (vl (b_ a)) && decide (vl (b_ a)<=8 * vl (b_ b))))=true;rw[zdX (by omega) h3 hf,(yj (a:=a) (by omega) h3).2.1,(yj (a:=b) (by omega) (by omega)).2.1,Fj (by omega) (by omega) h0 h1,xaC h2];rfl
def zeW (h:f∈ab)(h':g∈ab)(h0:0<=a)(h1:a<=1000000000000)(hr:runK "tvw" ws.reverse []=some [Str.ofString "number"])(hl:ws.length<=44):RK ab ⟨"join",nm,[f,g],b_ a::ws⟩:=by
 refine⟨.inl (by x_go:frm "join"=some 2),Ub h h',?_,fun x hx=>?_,by show ws.length + 1<=45;omega⟩
 ·show eZ "join" (b_ a::ws)=true;rw[zjy];show(lM (b_ a) 0 1000000000000 && pY "tvw" "number" ws)=true;rw[Fj h0 h1 h0 h1];exact xaC hr
 ·rcases xaq.mp hx with rfl |hx
  ·exact(yj h0 h1).2.2
  ·exact R_ hr x hx
def Zo {fs:List Str}(h:∀f∈fs,f∈ab)(h1:2<=fs.length)(h2:fs.length<=8):RK ab ⟨"pour",nm,fs,[]⟩:=⟨.inr ⟨rfl,h1,h2,rfl⟩,h,zj9,Kc,xbL _⟩
end
variable {M:Mm}
def RR (ab:List Str)(nm:Str)(M:Mm)(o:E3.OS):Prop:=∃r E,RK ab r/\r.nm=nm/\o=some (.rt (RW.D r),M ++ E)
def RR.no {ab:List Str}{nm:Str}{o:E3.OS}{r:RW}(h:RK ab r)(e:o=some (.rt (RW.D r),M))(hn:r.nm=nm):RR ab nm M o:=⟨r,[],h,hn,by rw[xaH];exact e⟩
section
variable {k pick wide:Int}{xs:List D}{j:Nat}{nm fold f0 f1:Str}{fr ab:List Str}{s8 s9:E3.Slot}{x4 x5 x6 x7:Int}
theorem QS (h0:f0∈ab):RR ab nm M (Qx [.val (.int k),.val (.lst xs),.val (.ref j),.val (.str nm),.val (.int pick),.val (.lst ((f0::f1::fr).map .str)),.val (.str fold),.val (.int wide),s8,s9] M):=by
 refine RR.no (r:=⟨"out",nm,[f0],[]⟩) (Zn h0) ?_ rfl;unfold Qx;z_go;rfl
def QM (hF:fX fold=true)(h0:f0∈ab)(h1:f1∈ab)(w0:1<=wide)(w1:wide<=1000000000000)(e6:eG xs 6=some (.int x6))(e7:eG xs 7=some (.int x7)):RR ab nm M (J3 [.val (.int k),.val (.lst xs),.val (.ref j),.val (.str nm),.val (.int pick),.val (.lst ((f0::f1::fr).map .str)),.val (.str fold),.val (.int wide),s8,s9] M):=by
 by_cases h:pick=9
 ·obtain⟨ws,hr,_,_,wl,e⟩:=Wo (M:=M) (L:="tvw") (num:=x6) (most:=(1 + x7%31).toNat) zgs (by omega);rw[show(((1 + x7%31).toNat:Nat):Int)=1 + x7%31 by omega]at e;refine RR.no (r:=⟨"join",nm,[f0,f1],b_ (wide - 1)::ws⟩) (zeW h0 h1 (by omega) (by omega) hr (by omega)) ?_ rfl;unfold J3;z_go;simp only[h];z_go;rw[e6];z_go;rw[e7];z_go;rw[e];z_go;rw[tG (zV (by omega) (by omega))];z_go;rw[tG (by omega)];z_go;rfl
 ·unfold J3;z_go;simp only[h];z_go;exact QS h0
def QL (hF:fX fold=true)(h0:f0∈ab)(h1:f1∈ab)(w0:1<=wide)(w1:wide<=1000000000000)(e6:eG xs 6=some (.int x6))(e7:eG xs 7=some (.int x7)):RR ab nm M (J2 [.val (.int k),.val (.lst xs),.val (.ref j),.val (.str nm),.val (.int pick),.val (.lst ((f0::f1::fr).map .str)),.val (.str fold),.val (.int wide),s8,s9] M):=by
 by_cases h:pick=8
 ·refine RR.no (r:=⟨"gap",nm,[f0],[b_ wide,fold]⟩) (R8 (.inr rfl) h0 w0 w1 hF) ?_ rfl;unfold J2;z_go;simp only[h];z_go;rw[tG (zV (by omega) (by omega))];z_go;rfl
 ·unfold J2;z_go;simp only[h];z_go;exact QM hF h0 h1 w0 w1 e6 e7
def QK (hF:fX fold=true)(h0:f0∈ab)(h1:f1∈ab)(w0:1<=wide)(w1:wide<=1000000000000)(e6:eG xs 6=some (.int x6))(e7:eG xs 7=some (.int x7))(p7:0<=x7/\x7<715827877):RR ab nm M (J1 [.val (.int k),.val (.lst xs),.val (.ref j),.val (.str nm),.val (.int pick),.val (.lst ((f0::f1::fr).map .str)),.val (.str fold),.val (.int wide),s8,s9] M):=by
 by_cases h:pick=7
 ·have m0:=xaN (x7 * 48271 * 7919) (show(7 * wide + 1)≠0 by omega);have m1:=xaA (x7 * 48271 * 7919) (show 0<7 * wide + 1 by omega);generalize em:x7 * 48271 * 7919 % (7 * wide + 1)=q at m0 m1;have hq:∃a:Int,(if wide + q<1000000000000 then wide + q else 1000000000000)=a/\wide<=a/\a<=8 * wide/\a<=1000000000000:=by
   split
   ·exact⟨_,rfl,by omega,by omega,by omega⟩
   ·exact⟨_,rfl,by omega,by omega,by omega⟩
  obtain⟨a,ea,a0,a1,a2⟩:=hq;refine RR.no (r:=⟨"slide",nm,[f0],[b_ a,b_ wide,fold]⟩) (zdx h0 w0 a0 a1 a2 hF) ?_ rfl;unfold J1;z_go;simp only[h];z_go;rw[e7];z_go;rw[tG (by omega),em];z_go;rw[ea,tG (zV (by omega) (by omega))];z_go;rw[tG (zV (by omega) (by omega))];z_go;rfl
 ·unfold J1;z_go;simp only[h];z_go;exact QL hF h0 h1 w0 w1 e6 e7
end
variable {M:Mm}
section
variable {k pick wide:Int}{xs:List D}{j:Nat}{nm fold f0 f1:Str}{fr ab:List Str}{s8 s9:E3.Slot}{x4 x5 x6 x7:Int}
def QJ (hF:fX fold=true)(h0:f0∈ab)(h1:f1∈ab)(w0:1<=wide)(w1:wide<=1000000000000)(e6:eG xs 6=some (.int x6))(e7:eG xs 7=some (.int x7))(p7:0<=x7/\x7<715827877):RR ab nm M (J0 [.val (.int k),.val (.lst xs),.val (.ref j),.val (.str nm),.val (.int pick),.val (.lst ((f0::f1::fr).map .str)),.val (.str fold),.val (.int wide),s8,s9] M):=by
 by_cases h:pick=6
 ·refine RR.no (r:=⟨"fixed",nm,[f0],[b_ wide,fold]⟩) (R8 (.inl rfl) h0 w0 w1 hF) ?_ rfl;unfold J0;z_go;simp only[h];z_go;rw[tG (zV (by omega) (by omega))];z_go;rfl
 ·unfold J0;z_go;simp only[h];z_go;exact QK hF h0 h1 w0 w1 e6 e7 p7
def nr9 (hF:fX fold=true)(hf:∀f∈f0::f1::fr,f∈ab)(hl:fr.length=6)(w0:1<=wide)(w1:wide<=1000000000000)(e4:eG xs 4=some (.int x4))(e6:eG xs 6=some (.int x6))(e7:eG xs 7=some (.int x7))(p4:0<=x4/\x4<715827877)(p7:0<=x7/\x7<715827877):RR ab nm M (J8 [.val (.int k),.val (.lst xs),.val (.ref j),.val (.str nm),.val (.int pick),.val (.lst ((f0::f1::fr).map .str)),.val (.str fold),.val (.int wide),s8,s9] M):=by
 by_cases h:pick=4\/pick=5
 ·have hb:2 + x4 % 7=(((2 + x4 % 7).toNat:Nat):Int):=by omega
  have hlen:((f0::f1::fr).take (2 + x4 % 7).toNat).length=(2 + x4 % 7).toNat:=by rw[xaU,xal,xal,hl];omega
  refine RR.no (r:=⟨"pour",nm,(f0::f1::fr).take (2 + x4 % 7).toNat,[]⟩) (Zo (fun f hm=>hf f (xcB hm)) (by rw[hlen];omega) (by rw[hlen];omega)) ?_ rfl;have t:(if pick=4 then some (Res.v (D.bl true),M) else some (Res.v (D.bl (decide (pick=5))),M))=some (Res.v (D.bl true),M):=by
   rcases h with h |h
   ·rw[tG h]
   ·rw[h];rfl
  unfold J8;generalize hG:(f0::f1::fr)=G at *;z_go;rw[t];z_go;rw[e4];z_go;rw[Fe,VF _ (by omega)];z_go;rfl
 ·have t:(if pick=4 then some (Res.v (D.bl true),M) else some (Res.v (D.bl (decide (pick=5))),M))=some (Res.v (D.bl false),M):=by
   rw[xab (fun z=>h (.inl z)),xat (fun z=>h (.inr z))]
  unfold J8;z_go;rw[t];z_go;exact QJ hF (hf f0 (by simp)) (hf f1 (by simp)) w0 w1 e6 e7 p7
def nr8 (hF:fX fold=true)(hf:∀f∈f0::f1::fr,f∈ab)(hl:fr.length=6)(w0:1<=wide)(w1:wide<=1000000000000)(e4:eG xs 4=some (.int x4))(e5:eG xs 5=some (.int x5))(e6:eG xs 6=some (.int x6))(e7:eG xs 7=some (.int x7))(p4:0<=x4/\x4<715827877)(p7:0<=x7/\x7<715827877):RR ab nm M (J7 [.val (.int k),.val (.lst xs),.val (.ref j),.val (.str nm),.val (.int pick),.val (.lst ((f0::f1::fr).map .str)),.val (.str fold),.val (.int wide),s8,s9] M):=by
 by_cases h:pick=3
 ·have m0:=xaN x5 (show 1 + x4 % 8≠0 by omega);have m1:=xaA x5 (show 0<1 + x4 % 8 by omega);refine RR.no (r:=⟨"share",nm,[f0],[b_ (x5 % (1 + x4 % 8)),b_ (1 + x4 % 8)]⟩) (zdp (hf f0 (by simp)) m0 m1 (by omega)) ?_ rfl;unfold J7;z_go;simp only[h];z_go;rw[e5];z_go;rw[e4];z_go;rw[tG (by omega)];z_go;rw[tG (zV m0 (by omega))];z_go;rw[e4];z_go;rw[tG (zV (by omega) (by omega))];z_go;rfl
 ·unfold J7;z_go;simp only[h];z_go;exact nr9 hF hf hl w0 w1 e4 e6 e7 p4 p7
def nr7 (hF:fX fold=true)(hf:∀f∈f0::f1::fr,f∈ab)(hl:fr.length=6)(w0:1<=wide)(w1:wide<=1000000000000)(e4:eG xs 4=some (.int x4))(e5:eG xs 5=some (.int x5))(e6:eG xs 6=some (.int x6))(e7:eG xs 7=some (.int x7))(p4:0<=x4/\x4<715827877)(p7:0<=x7/\x7<715827877):RR ab nm M (J6 [.val (.int k),.val (.lst xs),.val (.ref j),.val (.str nm),.val (.int pick),.val (.lst ((f0::f1::fr).map .str)),.val (.str fold),.val (.int wide),s8,s9] M):=by
 by_cases h:pick=2
 ·obtain⟨ws,hr,_,_,wl,e⟩:=Wo (M:=M) (L:="tv") (num:=x6) (most:=(1 + x7%33).toNat) zk4 (by omega);rw[show(((1 + x7%33).toNat:Nat):Int)=1 + x7%33 by omega]at e;refine RR.no (r:=⟨"turn",nm,[f0],ws⟩) (zer (hf f0 (by simp)) hr (by omega)) ?_ rfl;unfold J6;z_go;simp only[h];z_go;rw[e6];z_go;rw[e7];z_go;rw[e];z_go;rfl
 ·unfold J6;z_go;simp only[h];z_go;exact nr8 hF hf hl w0 w1 e4 e5 e6 e7 p4 p7
def nr6 (hF:fX fold=true)(hf:∀f∈f0::f1::fr,f∈ab)(hl:fr.length=6)(w0:1<=wide)(w1:wide<=1000000000000)(e4:eG xs 4=some (.int x4))(e5:eG xs 5=some (.int x5))(e6:eG xs 6=some (.int x6))(e7:eG xs 7=some (.int x7))(p4:0<=x4/\x4<715827877)(p7:0<=x7/\x7<715827877):RR ab nm M (J5 [.val (.int k),.val (.lst xs),.val (.ref j),.val (.str nm),.val (.int pick),.val (.lst ((f0::f1::fr).map .str)),.val (.str fold),.val (.int wide),s8,s9] M):=by
 by_cases h:pick=1
 ·obtain⟨ws,E,hr,_,_,wl,e⟩:=zjb (M:=M) (num:=x6) (most:=(3 + x7%31).toNat) (by omega);rw[show(((3 + x7%31).toNat:Nat):Int)=3 + x7%31 by omega]at e;refine⟨⟨"keep",nm,[f0],ws⟩,E,ze3 (hf f0 (by simp)) hr (by omega),rfl,?_⟩;unfold J5;z_go;simp only[h];z_go;rw[e6];z_go;rw[e7];z_go;rw[e];z_go;rfl
 ·unfold J5;z_go;simp only[h];z_go;exact nr7 hF hf hl w0 w1 e4 e5 e6 e7 p4 p7
end
variable {M:Mm}
def zj4 {k:Int}{a b c:D}:eG [a,b,c] (k % 3)=some a\/eG [a,b,c] (k % 3)=some b\/eG [a,b,c] (k % 3)=some c:=by
 have:k % 3=0\/k % 3=1\/k % 3=2:=by omega
 rcases this with e |e |e<;>rw[e]
 ·exact .inl at0
 ·exact .inr (.inl at1)
 ·exact .inr (.inr at2)
def zjV {k:Int}:∃x:Str,fX x=true/\eG [D.str "sum",.str "count",.str "most",.str "least"] (k % 4)=some (.str x):=by
 have:k % 4=0\/k % 4=1\/k % 4=2\/k % 4=3:=by omega
 rcases this with e |e |e |e<;>rw[e]
 ·exact⟨_,by x_go,at0⟩
 ·exact⟨_,by x_go,at1⟩
 ·exact⟨_,by x_go,at2⟩
 ·exact⟨_,by x_go,Jb⟩
section
variable {k pick:Int}{xs:List D}{j:Nat}{nm f0 f1:Str}{fr ab:List Str}{s6 s7 s8 s9:E3.Slot}{x4 x5 x6 x7:Int}
def nr4 (hf:∀f∈f0::f1::fr,f∈ab)(hl:fr.length=6)(e4:eG xs 4=some (.int x4))(e5:eG xs 5=some (.int x5))(e6:eG xs 6=some (.int x6))(e7:eG xs 7=some (.int x7))(p4:0<=x4/\x4<715827877)(p7:0<=x7/\x7<715827877):RR ab nm M (Qy [.val (.int k),.val (.lst xs),.val (.ref j),.val (.str nm),.val (.int pick),.val (.lst ((f0::f1::fr).map .str)),s6,s7,s8,s9] M):=by
 obtain⟨fold,hF,ef⟩:=zjV (k:=x4);have hq:∃q:Int,0<q/\q<=1000000000000/\eG [D.int 9,.int 1000000,.int 1000000000000] (x6 % 3)=some (.int q):=by
  rcases zj4 (k:=x6) (a:=D.int 9) (b:=.int 1000000) (c:=.int 1000000000000) with e |e |e
  ·exact⟨_,by decide,by decide,e⟩
  ·exact⟨_,by decide,by decide,e⟩
  ·exact⟨_,by decide,by decide,e⟩
 obtain⟨q,q0,q1,eq⟩:=hq;have m0:=xaN (x5 * 48271 * 7919) (show q≠0 by omega);have m1:=xaA (x5 * 48271 * 7919) q0;unfold Qy;z_go;rw[e4];z_go;rw[ef];unfold X8;z_go;rw[e5];z_go;rw[e6];z_go;rw[eq];z_go;rw[tG q0];z_go;exact nr6 hF hf hl (by omega) (by omega) e4 e5 e6 e7 p4 p7
def V5 {x:Int}(hj:M[j]? =some (.lst (ab.map .str)))(hn:ab≠ [])(hlen:ab.length<=1000):∃f∈ab,Jy [.val (.int x),.val (.ref j)] M=some (.v (.str f),M):=by
 have hp:0<ab.length:=xdo.mpr hn;have p0:=xaN x (show(ab.length:Int)≠0 by omega);have p1:=xaA x (show(0:Int)<(ab.length:Int) by omega);have hx:(ab.map D.str)[(x % (ab.length:Int)).toNat]? =some (.str (ab[(x % (ab.length:Int)).toNat]'(by omega))):=by rw[xax,xah (by omega)];rfl
 refine⟨_,xa7 (show(x % (ab.length:Int)).toNat<ab.length by omega),?_⟩;have ha:=gR hx;rw[xca p0]at ha;unfold Jy;have hv:vw M (.ref j)=.lst (ab.map .str):=by simp only[vw,hj]
 z_go;simp only[hv];z_go;rw[tG (by omega)];z_go;simp only[hv];z_go;rw[ha];z_go
theorem O5:∀l:List Str,D.deps (l.map .str)=0
 | []=>rfl
 |a::l=>by simp only[xak,D.deps,O5 l];rfl
def nr2 (hj:M[j]? =some (.lst (ab.map .str)))(hab:ab.length<=1000){ns:List Int}(hns:ns.length=11)(hd:Fp ns):RR ab nm M (J4 [.val (.int k),.val (.lst (ns.map .int)),.val (.ref j),.val (.str nm),.val (.int pick),.un,.un,.un,.un,.un] M):=by
 have hv:vw M (.ref j)=.lst (ab.map .str):=by simp only[vw,hj]
 have ix:∀i:Nat,i<11->∃x,eG (ns.map D.int) (i:Int)=some (.int x)/\0<=x/\x<715827877:=fun i hi=>by
  have hx:(ns.map D.int)[i]? =some (.int (ns[i]'(by omega))):=by rw[xax,xah (by omega)];rfl
  exact⟨_,gR hx,hd _ (xa7 (by omega))⟩
 by_cases h:ab=[]\/pick=0
 ·refine RR.no (r:=⟨"in",nm,[],[]⟩) zi2 ?_ rfl;unfold J4;z_go;rw[hv,Yw (by rw[O5];decide)];z_go;have t:(if (ab.map D.str).isEmpty=true then some (Res.v (D.bl true),M) else some (Res.v (D.bl (decide (pick=0))),M))=some (Res.v (D.bl true),M):=by
   rcases h with h |h
   ·rw[h];rfl
   ·rw[h];simp
  rw[t];z_go;rfl
 ·have hn:ab≠ []:=fun z=>h (.inl z);obtain⟨x4,e4,p4⟩:=ix 4 (by decide);obtain⟨x5,e5,p5⟩:=ix 5 (by decide);obtain⟨x6,e6,p6⟩:=ix 6 (by decide);obtain⟨x7,e7,p7⟩:=ix 7 (by decide);have t:(if (ab.map D.str).isEmpty=true then some (Res.v (D.bl true),M) else some (Res.v (D.bl (decide (pick=0))),M))=some (Res.v (D.bl false),M):=by
   rw[xab (by simpa using hn),xat (fun z=>h (.inr z))]
  have hF:∃F:Int->Str,∀x,F x∈ab/\Jy [.val (.int x),.val (.ref j)] M=some (.v (.str (F x)),M):=⟨fun x=>(V5 (x:=x) hj hn hab).choose,fun x=>(V5 (x:=x) hj hn hab).choose_spec⟩;obtain⟨F,hF⟩:=hF;have hcl:((ns.drop 2).take 8).length=8:=by rw[xaU,xbe];omega
  have hG:∃f0 f1 fr,((ns.drop 2).take 8).map F=f0::f1::fr/\fr.length=6:=by
   generalize (ns.drop 2).take 8=l at hcl
   match l,hcl with
   |a::b::r,hc=>exact⟨_,_,_,rfl,by simpa using hc⟩
  obtain⟨f0,f1,fr,hG,hl⟩:=hG;have hf:∀f∈f0::f1::fr,f∈ab:=fun f hm=>by
   rw[<-hG,xaK]at hm;obtain⟨x,_,rfl⟩:=hm;exact(hF x).1
  unfold J4;z_go;rw[hv,Yw (by rw[O5];decide)];z_go;rw[t];z_go;unfold X7;z_go;rw[Fe,O3 _ (by decide) (by decide),show((10:Int).toNat - (2:Int).toNat)=8 by decide,show(2:Int).toNat=2 by decide];rw[zP (fun x:Int=>D.int x) (fun x=>D.str (F x)) ((ns.drop 2).take 8) [] (fun x _=>(hF x).2) (by rw[xav,hcl];decide)];z_go;rw[show((ns.drop 2).take 8).map (fun x=>D.str (F x))=(f0::f1::fr).map D.str by rw[<-hG,xa9];rfl];exact nr4 hf hl e4 e5 e6 e7 p4 p7
end
variable {M:Mm}
def zgf {k:Nat}{j:Nat}{ab:List Str}{ns:List Int}(hk:k<100)(hj:M[j]? =some (.lst (ab.map .str)))(hab:ab.length<=1000)(hns:ns.length=11)(hd:Fp ns):∃r E,RK ab r/\(gJ r.nm=true/\wd r.nm/\(cd r.nm).filter (fun c=>decide (c<=57))=cd (b_ k))/\FZ [.int k,.lst (ns.map .int),.ref j] M=some (.v (RW.D r),M ++ E):=by
 have ix:∀i:Nat,i<11->∃x,eG (ns.map D.int) (i:Int)=some (.int x):=fun i hi=>by
  have hx:(ns.map D.int)[i]? =some (.int (ns[i]'(by omega))):=by rw[xax,xah (by omega)];rfl
  exact⟨_,gR hx⟩
 obtain⟨x0,e0⟩:=ix 0 (by decide);obtain⟨x1,e1⟩:=ix 1 (by decide);have e0':eG (ns.map D.int) 0=some (.int x0):=e0;have e1':eG (ns.map D.int) 1=some (.int x1):=e1;obtain⟨nm,as,bs,c1,c2,c3,c4,en⟩:=zet (x:=x0) (k:=k) (by omega);have hN:=zki c1 c2 c3 c4 (by omega) (by omega);obtain⟨r,E,hr,rfl,e⟩:=nr2 (M:=M) (k:=k) (nm:=nm) (pick:=x1 % 11) hj hab hns hd;refine⟨r,E,hr,hN,?_⟩;unfold FZ NK;z_go;rw[e0'];z_go;rw[en];z_go;unfold X6;z_go;rw[e1'];z_go;rw[e];z_go
structure GS (rs:List RW)(ab:List Str):Prop where
 ws:RWS rs
 wf:∀r∈rs,r.wf
 nm:∀r∈rs,gJ r.nm=true/\wd r.nm
 dg:∀i (h:i<rs.length),(cd rs[i].nm).filter (fun c=>decide (c<=57))=cd (b_ (i:Int))
 ab:∀f∈ab,∃r∈rs,r.nm=f/\r.w≠"out"
def GS.nil:GS [] []:=⟨(fun as r bs e=>by cases as<;>cases e),(fun r h=>by cases h),(fun r h=>by cases h),(fun i h=>absurd h (xck _)),(fun r h=>by cases h)⟩
theorem GS.uni {rs:List RW}{ab:List Str}(h:GS rs ab)(hl:rs.length<100){q q':RW}(hq:q∈rs)(hq':q'∈rs)(e:q.nm=q'.nm):q=q':=by
 obtain⟨i,hi,rfl⟩:=xbC.mp hq;obtain⟨j,hj,rfl⟩:=xbC.mp hq';have:=h.dg i hi;rw[e,h.dg j hj]at this;have:=Sx (by omega) (by omega) this;subst this;rfl
def GS.fr {rs:List RW}{ab:List Str}(h:GS rs ab)(hl:rs.length<100){f:Str}(hf:f∈ab):decide ((lF (rs.map lG) f).getD "out"="out")=false:=by
  obtain⟨q,hq,rfl,ho⟩:=h.ab f hf;unfold lF
  cases hF:(rs.map lG).find? fun p=>decide (p.1=q.nm) with
  |none=>
    rw[xcL]at hF;exact absurd (xaC rfl) (hF (lG q) (xaK.mpr ⟨q,hq,rfl⟩))
  |some p=>
    have h0:=xcl hF;have h1:p.1=q.nm:=xbc h0;obtain⟨q',hq',rfl⟩:=xaK.mp (xbi hF);have e:=h.uni hl hq' hq h1;subst e;exact xat ho
theorem GS.nms {rs:List RW}{ab:List Str}(h:GS rs ab)(hl:rs.length<100){r:RW}(hr:RK ab r)(hd:(cd r.nm).filter (fun c=>decide (c<=57))=cd (b_ (rs.length:Int))):gP (rs.map lG) r.nm r.fr=true:=by
 unfold gP;have h1:lF (rs.map lG) r.nm=none:=by
  unfold lF;rw[xcT,xcL];intro p hp hz;obtain⟨q,hq,rfl⟩:=xaK.mp hp;obtain⟨i,hi,rfl⟩:=xbC.mp hq;have e:rs[i].nm=r.nm:=xbc hz;have:=h.dg i hi;rw[e,hd]at this;have:=Sx (by omega) (by omega) this;omega
 rw[h1];show(true && _)=true;rw[xdD,xaO];intro f hf;rw[h.fr hl (hr.fr f hf)];rfl
def RK.row {ab:List Str}{r:RW}(hr:RK ab r)(hn:gJ r.nm=true)(ha:∀f∈r.fr,gJ f=true):gF r.ws=some r/\∃n,frm r.w=some n/\r.fr.length<=8:=by
 have hna:(r.nm::r.fr).all gJ=true:=xaO.mpr fun x hx=>by
  rcases xaq.mp hx with rfl |hx
  ·exact hn
  ·exact ha x hx
 have go:∀n,frm r.w=some n->(r.fr ++ r.rs).take n=r.fr->(r.fr ++ r.rs).drop n=r.rs->Bf r.w n r.fr.length=true->gF r.ws=some r:=fun n h1 h2 h3 h4=>by
  have hB:eN (r.w::r.nm::(r.fr ++ r.rs))=true:=by
   unfold eN;dsimp only;rw[h1];dsimp only;rw[h2,h3,h4,hna,hr.re];rfl
  unfold RW.ws gF;dsimp only;rw[tG hB,h1,Option.getD_some,h2,h3]
 rcases hr.fm with h |⟨h1,h2,h3,h4⟩
 ·refine⟨go _ h List.take_left List.drop_left ?_,_,h,zgM h⟩;unfold Bf
  split
  ·rename_i hp;rw[hp,show frm "pour"=some 8 by x_go]at h;have:=xaw h;exact xaC (by omega)
  ·exact xaC rfl
 ·have hf:frm r.w=some 8:=by rw[h1];decide +kernel
  refine⟨go 8 hf ?_ ?_ ?_,_,hf,h3⟩
  ·rw[h4,xaH,xbg h3]
  ·rw[h4,xaH,xcS h3]
  ·unfold Bf;rw[tG h1];exact xaC h2
theorem GS.add {rs:List RW}{ab:List Str}(h:GS rs ab)(hl:rs.length<100){r:RW}(hr:RK ab r)(hn:gJ r.nm=true/\wd r.nm/\(cd r.nm).filter (fun c=>decide (c<=57))=cd (b_ (rs.length:Int))):GS (rs ++ [r]) (if r.w="out" then ab else ab ++ [r.nm]):=by
  have hab:∀f∈ab,gJ f=true/\wd f:=fun f hf=>by
    obtain⟨q,hq,rfl,_⟩:=h.ab f hf;exact h.nm q hq
  obtain⟨h1,n,h2,h3⟩:=hr.row hn.1 fun f hf=>(hab f (hr.fr f hf)).1;have old:∀f∈ab,∃q∈rs ++ [r],q.nm=f/\q.w≠"out":=fun f hf=>by
    obtain⟨q,hq,e⟩:=h.ab f hf;exact⟨q,xay.mpr (.inl hq),e⟩
  refine⟨h.ws.add h1 (h.nms hl hr hn.2.2),fun q hq=>?_,fun q hq=>?_,fun i hi=>?_,fun f hf=>?_⟩
  · rcases xay.mp hq with hq |hq
    · exact h.wf q hq
    · rw[xaF]at hq;subst hq;have hle:=hr.le;refine⟨fun x hx=>?_,by unfold RW.ws;rw[xal,xal,xam];omega⟩;unfold RW.ws at hx;rcases xaq.mp hx with rfl |hx
      · exact zif h2
      · rcases xaq.mp hx with rfl |hx
        · exact hn.2.1
        · rcases xay.mp hx with hx |hx
          · exact(hab x (hr.fr x hx)).2
          · exact hr.wd x hx
  · rcases xay.mp hq with hq |hq
    · exact h.nm q hq
    · rw[xaF]at hq;subst hq;exact⟨hn.1,hn.2.1⟩
  · rw[xam,xaE]at hi
    by_cases z:i<rs.length
    · rw[List.getElem_append_left z];exact h.dg i z
    · have e:i=rs.length:=by omega
      subst e;rw[List.getElem_append_right (xad _)]
      simpa using hn.2.2
  · split at hf
    · exact old f hf
    · rename_i ho;rcases xay.mp hf with hf |hf
      · exact old f hf
      · rw[xaF]at hf;exact⟨r,xay.mpr (.inr (xaF.mpr rfl)),hf.symm,ho⟩
variable {M:Mm}
def zew {cs:List Int}(hc:cs.length<=60):∃rs E ab,GS rs ab/\rs.length=cs.length/\Ga [.lst (cs.map .int)] M=some (.v (.lst (rs.map RW.D)),M ++ E):=by
 have lp:∃rs E ab s3 s4,GS rs ab/\rs.length=cs.length/\loopS 3 GF ((List.range cs.length).map fun(k:Nat)=>D.int (0 + k)) [.val (.lst (cs.map .int)),.own [],.val (.ref M.length),.un,.un] (M ++ [.lst []])=some (.nx [.val (.lst (cs.map .int)),.own (rs.map RW.D),.val (.ref M.length),s3,s4],M ++ E):=by
  refine Qq (fun o=>∃rs E ab s3 s4,GS rs ab/\rs.length=cs.length/\o=some (.nx [.val (.lst (cs.map .int)),.own (rs.map RW.D),.val (.ref M.length),s3,s4],M ++ E))
   (fun k env N=>∃(rs:List RW) (ab:List Str) (E:Mm) (s3 s4:E3.Slot),GS rs ab/\rs.length=k/\ab.length<=k/\N=M ++ [.lst (ab.map .str)] ++ E/\env=[.val (.lst (cs.map .int)),.own (rs.map RW.D),.val (.ref M.length),s3,s4])
   ⟨[],[],[],.un,.un,GS.nil,rfl,xad _,(by rw[xaH];rfl),rfl⟩ ?_ ?_
  ·rintro k d env N hd ⟨rs,ab,E,s3,s4,hrs,hlen,hab,rfl,rfl⟩;have hk:k<cs.length:=by
    have:=(xag.mp hd).1
    simpa using this
   rw[xax,xdl hk,xaV]at hd;cases hd;refine⟨by show 3<5;decide,?_⟩;have hx:(cs.map D.int)[k]? =some (.int (cs[k]'hk)):=by rw[xax,xah hk];rfl
   have ha:=gR hx;obtain⟨ns,n1,n2,n3⟩:=Ax (n:=cs[k] + 31 * (0 + (k:Int))) (m:=11) (by decide);have hj:(M ++ [Cl.lst (ab.map .str)] ++ E)[M.length]? =some (.lst (ab.map .str)):=by
    rw[xa0 (by simp),xa4 (xad _)]
    simp
   obtain⟨r,E2,hr,hnm,er⟩:=zgf (M:=M ++ [.lst (ab.map .str)] ++ E) (k:=k) (j:=M.length) (ab:=ab) (ns:=ns) (by omega) hj (by omega) n1 n2;have n3':=n3 (M ++ [.lst (ab.map .str)] ++ E);rw[show((11:Nat):Int)=11 from rfl]at n3';show Step _ _ (GF [.val (.lst (cs.map .int)),.own (rs.map RW.D),.val (.ref M.length),.val (.int (0 + k)),s4] _);have z:(0:Int) + (k:Int)=k:=by omega
   rw[z]at n3';rw[z];have go:GF [.val (.lst (cs.map .int)),.own (rs.map RW.D),.val (.ref M.length),.val (.int k),s4] (M ++ [.lst (ab.map .str)] ++ E)=some (.nx [.val (.lst (cs.map .int)),.own ((rs ++ [r]).map RW.D),.val (.ref M.length),.val (.int k),.val (RW.D r)],M ++ [.lst ((if r.w="out" then ab else ab ++ [r.nm]).map .str)] ++ (E ++ E2)):=by
    unfold GF;generalize hN:M ++ [Cl.lst (ab.map .str)] ++ E=N at *;z_go;rw[ha];z_go;rw[n3'];z_go;rw[er];z_go;rw[tG (by omega)];unfold RW.D u5;z_go;have hj2:(N ++ E2)[M.length]? =some (.lst (ab.map .str)):=by
     rw[xa0 (by rw[<-hN];simp)];exact hj
    by_cases ho:r.w=Str.ofString "out"
    ·rw[xab (fun z=>z ho)];z_go;rw[tG ho, <-hN]
     simp
    ·rw[tG ho,hj2];z_go;rw[tG (by omega)];z_go;rw[xab ho, <-hN];have hs:(M ++ [Cl.lst (ab.map .str)] ++ E ++ E2).set M.length (.lst (ab.map .str ++ [.str r.nm]))=M ++ [Cl.lst ((ab ++ [r.nm]).map .str)] ++ (E ++ E2):=by
      rw[xas,xas,xcv _ _ (xad _),xbN]
      simp
     rw[hs]
     simp
   rw[go];refine⟨rs ++ [r],_,_,_,_,hrs.add (by omega) hr (by rw[hlen];exact hnm),by rw[xam,xaE,hlen],?_,rfl,rfl⟩
   split
   ·omega
   ·rw[xam,xaE];omega
  ·rintro env N ⟨rs,ab,E,s3,s4,hrs,hlen,hab,rfl,rfl⟩;rw[xap,xcq]at hlen;exact⟨rs,[.lst (ab.map .str)] ++ E,ab,s3,s4,hrs,hlen,by rw[xas]⟩
 obtain⟨rs,E,ab,s3,s4,h1,h2,lp⟩:=lp;refine⟨rs,E,ab,h1,h2,?_⟩;unfold Ga NP;z_go;rw[Ho (by omega),xbw];z_go;rw[lp];z_go
def Wi {ns:List Int}{k:Int}{M:Mm}(hk:0<=k):wK [.lst (ns.map .int),.int k] M=some (.v (.int (ns.getD k.toNat 0)),M):=by
 unfold wK Nq;z_go
 by_cases h:k<(ns.length:Int)
 ·rw[tG h];z_go;have e:eG (ns.map D.int) k=some (.int (ns.getD k.toNat 0)):=by
   obtain⟨j,rfl⟩:∃j:Nat,k=j:=⟨k.toNat,by omega⟩;refine gR ?_;have:j<ns.length:=by omega
   rw[xax,xah this]
   simp[List.getD,this]
  rw[e];z_go
 ·rw[xab h];z_go
  simp[List.getD,List.getElem?_eq_none (show ns.length<=k.toNat by omega)]
def zdh {ns:List Int}(hn:ns.length<=63):∃cs:List Int,1<=cs.length/\cs.length<=41/\∀M:Mm,CN [.lst (ns.map .int)] M=some (.v (.lst (cs.map .int)),M):=by
 generalize hc:ns.getD 0 0=c;have gc:∀M:Mm,wK [.lst (ns.map .int),.int 0] M=some (.v (.int c),M):=fun M=>by rw[Wi (by decide), <-hc];rfl
 by_cases h:c % 8=1
 ·obtain⟨xs,h1,h2,h3⟩:=Ax (n:=c / 8) (m:=(1 + c / 8 % 40).toNat) (by omega);refine⟨xs,by omega,by omega,fun M=>?_⟩;have e:=h3 M;rw[show(((1 + c / 8 % 40).toNat:Nat):Int)=1 + c / 8 % 40 by omega]at e;unfold CN Je;z_go;rw[gc];z_go;simp only[h];z_go;rw[e];z_go
 ·refine⟨(c / 8)::(ns.drop 1).take 11,by simp,by rw[xal,xaU];omega,fun M=>?_⟩;unfold CN Je;z_go;rw[gc];z_go;simp only[h];z_go;rw[Fe,O3 _ (by decide) (by decide),show((12:Int).toNat - (1:Int).toNat)=11 by decide,show(1:Int).toNat=1 by decide];z_go;rw[tG (by rw[xaU];omega)];z_go
def TL (z:Str)(ws:List Str):Prop:=cd z=jn 32 (ws.map cd)
theorem W3 {c:Nat}{p:List Nat}{ps:List (List Nat)}(h:ps≠ []):jn c (p::ps)=p ++ c::jn c ps:=by
 obtain⟨q,r,rfl⟩:=xbZ h;rfl
theorem Qi {c:Nat}{q:List Nat}:∀{ps:List (List Nat)},ps≠ []->jn c (ps ++ [q])=jn c ps ++ c::q
  | [],h=>absurd rfl h
  | [p],_=>rfl
  |p::p'::r,_=>by
    have ih:=Qi (c:=c) (q:=q) (ps:=p'::r) (by simp);show p ++ c::jn c ((p'::r) ++ [q])=(p ++ c::jn c (p'::r)) ++ c::q;rw[ih,xas];rfl
theorem W5 {c:Nat}{q r:List Nat}:∀{ps:List (List Nat)},jn c (ps ++ [q ++ r])=jn c (ps ++ [q]) ++ r
  | []=>rfl
  |p::ps=>by
    rw[xbf,xbf,W3 (by simp),W3 (by simp),W5,xas];rfl
def wq (x:Str):Prop:=x.length<=100/\∀c∈cd x,c<4294967296/\c≠10/\c≠32
def wd.q {x:Str}(h:wd x):wq x:=⟨by have:=h.1;omega,h.2⟩
theorem TL.ln {z:Str}{ws:List Str}(t:TL z ws)(h:∀x∈ws,wq x)(hn:ws≠ [])(hl:ws.length<=62):Ln z ws/\10∉cd z/\z.length<=7000:=by
 have hb:z.length<=7000:=by
  rw[fZ,t];refine xau (CW (B:=100) _ fun p hp=>?_) ?_
  ·obtain⟨z,hz,rfl⟩:=xaK.mp hp;rw[<-fZ];exact(h z hz).1
  ·rw[xap];omega
 refine⟨⟨?_,by omega,fun x hx=>⟨by have:=(h x hx).1;omega,fun c hc=>((h x hx).2 c hc).1⟩,by omega⟩,?_,hb⟩
 ·rw[zJ];exact LQ hn (fun y hy z=>((h y hy).2 32 z).2.2 rfl) t
 ·rw[t];intro z;rcases JL _ z with z |⟨p,hp,z⟩
  ·exact absurd z (by decide)
  ·obtain⟨y,hy,rfl⟩:=xaK.mp hp;exact((h y hy).2 10 z).2.1 rfl
noncomputable def gw (x:Str):Bool:=(lQ x).isSome || (sO x || (tvw x || (lO x || (fX x || (gJ x || (frm x).isSome)))))
def xV (x:Str):Bool:= !(cd x).isEmpty && (cd x).all fun c=>decide (33<=c) && decide (c<=122)
def Kf {x:Str}(h0:cd x≠ [])(h:∀c∈cd x,33<=c/\c<=122):xV x=true:=by
 unfold xV;rw[xac,xaO];refine⟨by simpa using h0,fun c hc=>?_⟩;have:=h c hc
 simp
 omega
def V2 {l:List Nat}(h:ni l=true):l≠ []/\∀c∈l,48<=c/\c<=57:=let ⟨a,b,_⟩:=CG h;⟨a,b⟩
def zjW:NT.all (fun p=>xV p.1)=true:=by x_go
def zky:FT.all (fun p=>xV p.1)=true:=by x_go
def Wq {x:Str}(h:gw x=true):xV x=true:=by
  unfold gw at h;simp only[xbp]at h;rcases h with h |h |h |h |h |h |h
  · obtain⟨q,hq⟩:=xb4.mp h;exact xaO.mp zjW _ (QB hq)
  · unfold sO good at h;simp only[xac]at h;obtain⟨h1,h2⟩:=V2 h.1.2;unfold pZ at h1 h2;split at h1
    · rename_i h45
      cases e:cd x with
      |nil=>rw[e]at h45;cases h45
      |cons c r=>
        rw[e]at h45 h2;cases h45;rw[tG (show(45::r).head? =some 45 from rfl),xcO]at h2;refine Kf (by rw[e];simp) fun c hc=>?_;rw[e,xaq]at hc;rcases hc with rfl |hc
        · omega
        · have:=h2 c hc;omega
    · rename_i h45;rw[xab h45]at h2;exact Kf h1 fun c hc=>by have:=h2 c hc;omega
  · unfold tvw at h;simp only[xbp,xaB]at h;rcases h with(rfl |rfl) |rfl<;>decide +kernel
  · unfold lO at h;rw[xac]at h;obtain⟨h1,h2⟩:=V2 h.2;exact Kf h1 fun c hc=>by have:=h2 c hc;omega
  · unfold fX at h;simp only[xbp,xaB]at h;rcases h with((rfl |rfl) |rfl) |rfl<;>decide +kernel
  · unfold gJ at h
    cases e:cd x with
    |nil=>rw[e]at h;cases h
    |cons c r=>
      rw[e]at h;simp only[xac,xaO]at h;refine Kf (by rw[e];simp) fun d hd=>?_;rw[e]at hd;have:=h.2.2 d hd;unfold wg pG nR at this
      simp at this
      omega
  · obtain⟨q,hq⟩:=xb4.mp h;unfold frm at hq;rw[xae]at hq;obtain⟨p,hp,rfl⟩:=hq;have h1:=xcl hp;rw[<-xbc h1];exact xaO.mp zky _ (xbi hp)
def Yy {x:Str}(h:xV x=true):cd x≠ []/\∀c∈cd x,33<=c/\c<=122:=by
 unfold xV at h;rw[xac,xaO]at h;refine⟨by simpa using h.1,fun c hc=>?_⟩;have:=h.2 c hc
 simp at this
 exact this
theorem ZC {L:Str}:∀{ws ks:List Str} {k:List Str},runK L ws ks=some k->∀x∈ws,gw x=true
  | [],_,_,_,x,hx=>by cases hx
  |y::ws,ks,k,h,x,hx=>by
    rw[runK]at h
    cases hs:stepK L y ks with
    |none=>rw[hs]at h;cases h
    |some k2=>
      rw[hs]at h;rcases xaq.mp hx with rfl |hx
      · unfold stepK at hs;unfold gw;split at hs
        · rename_i q hq;rw[hq];rfl
        · split at hs
          · rename_i hl;unfold lf at hl;rw[xbp,xac]at hl;rcases hl with hl |hl
            · rw[hl];simp
            · rw[hl.1];simp
          · cases hs
      · exact ZC h x hx
def Pg {L wt:Str}{ws:List Str}(h:pY L wt ws=true):∀x∈ws,gw x=true:=fun x hx=>ZC (xbc h) x (xd3.mpr hx)
def Fg {x:Str}{a b:Int}(h:lM x a b=true):gw x=true:=by
 unfold lM at h;rw[xac]at h;unfold gw;rw[h.1]
 simp
def zgb {x:Str}(h:fX x=true):gw x=true:=by
 unfold gw;rw[h]
 simp
def Yq {x:Str}(h:gJ x=true):gw x=true:=by
 unfold gw;rw[h]
 simp
def zhv {ws:List Str}(h:pP ws=true):∀x∈ws,gw x=true:=by
 unfold pP at h;split at h
 ·rw[xac]at h;intro x hx;simp only[xaq,xbQ,xdr]at hx;rcases hx with rfl |rfl
  ·exact Fg h.2
  ·exact Fg h.1
 ·cases h
def Uo {ws:List Str}(h:lA ws=true):∀x∈ws,gw x=true:=by
 unfold lA at h;split at h
 ·rw[xac]at h;intro x hx;simp only[xaq,xbQ,xdr]at hx;rcases hx with rfl |rfl
  ·exact Fg h.1
  ·exact zgb h.2
 ·cases h
def zia {ws:List Str}(h:pQ ws=true):∀x∈ws,gw x=true:=by
 unfold pQ at h;split at h
 ·simp only[xac]at h;intro x hx;simp only[xaq,xbQ,xdr]at hx;rcases hx with rfl |rfl |rfl
  ·exact Uo h.1 _ (by simp)
  ·exact Fg h.2.1
  ·exact Uo h.1 _ (by simp)
 ·cases h
def zlh {ws:List Str}(h:Bh ws=true):∀x∈ws,gw x=true:=by
 unfold Bh at h;split at h
 ·rw[xac]at h;intro x hx;rcases xaq.mp hx with rfl |hx
  ·exact Fg h.1
  ·exact Pg h.2 x hx
 ·cases h
def zgn {w:Str}{ws:List Str}(h:eZ w ws=true):∀x∈ws,gw x=true:=by
 unfold eZ at h;split at h
 ·exact Pg h
 ·split at h
  ·exact Pg h
  ·split at h
   ·exact zhv h
   ·split at h
    ·exact zia h
    ·split at h
     ·exact Uo h
     ·split at h
      ·exact zlh h
      ·intro x hx;rw[List.isEmpty_iff]at h;rw[h]at hx;cases hx
def Zt {ws:List Str}(h:eN ws=true):∀x∈ws,gw x=true:=by
 unfold eN at h;split at h
 ·rename_i w nm r;split at h
  ·rename_i f hf;simp only[xac,xaO]at h;obtain⟨_,h2,h3⟩:=h;intro x hx;rcases xaq.mp hx with rfl |hx
   ·unfold gw;rw[hf];simp
   ·rcases xaq.mp hx with rfl |hx
    ·exact Yq (h2 _ (by simp))
    ·rw[<-xbJ f r,xay]at hx;rcases hx with hx |hx
     ·exact Yq (h2 x (xan _ hx))
     ·exact zgn h3 x hx
  ·cases h
 ·cases h
def Kd {ws:List Str}{x:Str}(hx:x∈ws)(h:xV x=false):eN ws=false:=by
 cases hb:eN ws with
 |false=>rfl
 |true=>rw[Wq (Zt hb x hx)]at h;cases h
def Yr {w:Str}{r:List Str}(h:frm w=none):eN (w::r)=false:=by
  cases r with
  |nil=>rfl
  |cons nm r=>
    unfold eN;dsimp only;rw[h]
theorem zlG {w nm:Str}{r:List Str}(h:gJ nm=false):eN (w::nm::r)=false:=by
 unfold eN;dsimp only
 split
 ·rw[xbs,h,xb2,xb2,xbv]
 ·rfl
theorem zdM {a:Str}{b:List Str}:∀{n:Nat} {ks k:List Str},nP a n ks=some k->nP a n (ks ++ b)=some (k ++ b)
  |0,ks,k,h=>by cases h;rfl
  |n + 1,[],k,h=>by cases h
  |n + 1,x::ks,k,h=>by
    rw[nP]at h;rw[xbf,nP];split at h
    · rename_i e;rw[tG e];exact zdM h
    · cases h
theorem Zz {L:Str}{b:List Str}:∀{xs ks k:List Str},runK L xs ks=some k->runK L xs (ks ++ b)=some (k ++ b)
  | [],ks,k,h=>by cases h;rfl
  |x::xs,ks,k,h=>by
    rw[runK]at h ⊢;have hs:∀k2,stepK L x ks=some k2->stepK L x (ks ++ b)=some (k2 ++ b):=fun k2 e=>by
      unfold stepK at e ⊢;split at e
      · rename_i q hq;rw[xae]at e;obtain⟨k3,e3,rfl⟩:=e;rw[zdM e3];rfl
      · split at e
        · rename_i hl;cases e;rw[tG hl];rfl
        · cases e
    cases he:stepK L x ks with
    |none=>rw[he]at h;cases h
    |some k2=>
      rw[he]at h;rw[hs k2 he];exact Zz h
theorem Qn {L:Str}:stepK L "5" []=some [("number":Str)]:=by
 unfold stepK;rw[show lQ "5"=none by x_go];dsimp only;rw[tG];unfold lf;rw[show sO "5"=true by x_go];rfl
def Aw {L wt:Str}{ws:List Str}(h:pY L wt ws=true):pY L wt (ws ++ [("5":Str)])=false:=by
 have h:=xbc h;refine xat fun z=>?_;rw[xcG,List.reverse_singleton,xcu,runK,Qn]at z;have:=Zz (b:=[("number":Str)]) h;rw[xbW]at this;rw[show(some [("number":Str)]).bind (runK L ws.reverse)=runK L ws.reverse [("number":Str)] from rfl,this]at z;have:=congrArg (fun o=>o.map List.length) z
 simp at this
def zkJ {w:Str}{ws:List Str}(h:eZ w ws=true):eZ w (ws ++ [("5":Str)])=false:=by
  unfold eZ at h ⊢;split at h
  · rename_i e;rw[tG e];exact Aw h
  · rename_i e;rw[xab e];split at h
    · rename_i e;rw[tG e];exact Aw h
    · rename_i e;rw[xab e];split at h
      · rename_i e;rw[tG e];unfold pP at h;split at h
        · rfl
        · cases h
      · rename_i e;rw[xab e];split at h
        · rename_i e;rw[tG e];unfold pQ at h;split at h
          · rfl
          · cases h
        · rename_i e;rw[xab e];split at h
          · rename_i e;rw[tG e];unfold lA at h;split at h
            · rfl
            · cases h
          · rename_i e;rw[xab e];split at h
            · rename_i e;rw[tG e];unfold Bh at h;split at h
              · rename_i a r;rw[xac]at h;show(lM a 0 1000000000000 && pY "tvw" "number" (r ++ [("5":Str)]))=false;rw[Aw h.2,xbv]
              · cases h
            · rename_i e;rw[xab e]
              simp
def QF {ws:List Str}(h:eN ws=true):eN (ws ++ [("5":Str)])=false:=by
 unfold eN at h;split at h
 ·rename_i w nm r;split at h
  ·rename_i f hf;simp only[xac]at h;obtain⟨_,_,h3⟩:=h;show eN (w::nm::(r ++ [("5":Str)]))=false;unfold eN;dsimp only;rw[hf];dsimp only
   by_cases hl:f<=r.length
   ·rw[List.drop_append_of_le_length hl,zkJ h3,xbv,xbv]
   ·rw[xbg (by rw[xam,xaE];omega)];have:(nm::(r ++ [("5":Str)])).all gJ=false:=by
     rw[xeQ];exact⟨"5",by simp,by x_go⟩
    rw[this,xb2,xbv]
  ·cases h
 ·cases h
def zlO {ws:List Str}(h:eN ws=false):gF ws=none:=Ku h
def Zr {ws:List Str}{r:RW}(h:gF ws=some r):eN ws=true:=by
 cases hb:eN ws with
 |true=>rfl
 |false=>rw[Ku hb]at h;cases h
theorem Nm {x:Str}{i:Nat}:StrLaws.At x ⟨#[32]⟩ x.length i ↔ (cd x)[i]? =some 32:=by
 unfold StrLaws.At;rw[StrLaws.subAt_eq];show(i + 1<=x.length/\(((cd x).drop i).take 1==[32])=true) ↔ _;rw[fZ,xaZ,List.take_one,List.head?_drop]
 constructor
 ·intro ⟨_,h⟩
  cases e:(cd x)[i]? with
  |none=>rw[e]at h;cases h
  |some c=>rw[e]at h;simpa using h
 ·intro h;refine⟨(xag.mp h).1,?_⟩;rw[h];rfl
def zho {x:Str}{a b:List Nat}(h:cd x=a ++ 32::b)(ha:32∉a):cd (rep1 x " " "  ")=a ++ 32::32::b:=by
 have hx:(cd x)[a.length]? =some 32:=by rw[h];simp
 rw[zJ];rcases StrLaws.occ_head x ⟨#[32]⟩ 1 (xad _) with⟨_,hn⟩ |⟨i,r,e,hi,hf⟩
 ·exact absurd (Nm.mpr hx) (hn a.length)
 ·have hl:=xc2 x ⟨#[32]⟩ 0 x.length 1;rw[e,xal]at hl;have hr:r=[]:=xcf.mp (by omega);subst hr;have hi':=Nm.mp hi;have hia:i=a.length:=by
   rcases Nat.lt_trichotomy i a.length with z |z |z
   ·rw[h,xa0 z]at hi';exact absurd (xaW hi') ha
   ·exact z
   ·exact absurd (Nm.mpr hx) (hf _ z)
  subst hia;unfold rep1;rw[e,xab (show ¬ ([a.length].isEmpty || ((⟨#[32]⟩:Str).length==0 && (Str.ofString "  ").length==0))=true from fun z=>by cases z)];show(Builtin.Str.glued _ [Builtin.Str.strSub x 0 a.length,Builtin.Str.strSub x (a.length + 1) x.length]).cps.toList=_;show((Builtin.Str.strSub x 0 a.length).cps ++ (Str.ofString "  ").cps ++ (Builtin.Str.strSub x (a.length + 1) x.length).cps).toList=_;rw[xdn,xdn,StrLaws.strSub_toList,StrLaws.strSub_toList,show(Str.ofString "  ").cps.toList=[32,32] by x_go];show List.take (a.length - 0) (List.drop 0 (cd x)) ++ [32,32] ++ List.take (x.length - (a.length + 1)) (List.drop (a.length + 1) (cd x))=_;rw[fZ,h]
  simp
  exact xbg (by omega)
noncomputable def cap (c:Nat):Nat:=if 97<=c/\c<=122 then c - 32 else c
def zhp:(List.range 123).all (fun c=>decide (Unicode.upperOf c=[cap c]))=true:=by x_go
theorem Mt {x:Str}(h:∀c∈cd x,c<=122):cd (Txt.upper x)=(cd x).map cap:=by
  have hu:∀c,c<=122->Unicode.upperOf c=[cap c]:=fun c hc=>xbc (xaO.mp zhp c (xbz.mpr (by omega)));show((x.cps.mapIdx fun i c=>(Unicode.upperOf c).toArray).flatten).toList=x.cps.toList.map cap;have h':∀c∈x.cps.toList,c<=122:=h;rw[Array.toList_flatten];have:(x.cps.mapIdx fun i c=>(Unicode.upperOf c).toArray).toList=x.cps.toList.map fun c=>(Unicode.upperOf c).toArray:=by
    rw[Array.toList_mapIdx];exact List.ext_getElem (by simp) fun i h1 h2=>by simp
  rw[this,xa9];generalize x.cps.toList=l at h'
  induction l with
  |nil=>rfl
  |cons c l ih=>
    rw[xak,List.flatten_cons,xak,ih fun d hd=>h' d (xan _ hd)];show(Unicode.upperOf c).toArray.toList ++ _=_;rw[hu c (h' c (by simp))];rfl
theorem W2:∀ps:List (List Nat),(jn 32 ps).map cap=jn 32 (ps.map fun p=>p.map cap)
  | []=>rfl
  | [p]=>rfl
  |p::q::r=>by
    show(p ++ 32::jn 32 (q::r)).map cap=p.map cap ++ 32::jn 32 ((q::r).map fun p=>p.map cap);rw[xaP,xak,W2 (q::r)];rfl
def zjC:FT.all (fun p=>(frm (Txt.upper p.1)).isNone)=true:=by x_go
def zh7 {w:Str}{n:Nat}(h:frm w=some n):frm (Txt.upper w)=none:=by
 unfold frm at h;rw[xae]at h;obtain⟨p,hp,rfl⟩:=h;have h1:=xcl hp;have:=xaO.mp zjC _ (xbi hp);rw[<-xbc h1];exact xdP.mp this
def FL (z:Str):Prop:=∃vs,TL z vs/\vs≠ []/\(∀y∈vs,wq y)/\vs.length<=62/\eN vs=false
def Ov:cd (Str.ofString "")=[]:=by x_go
def Aj:cd (Str.ofString " ")=[32]:=by x_go
def zF:wq "":=⟨by x_go,fun c hc=>by rw[show cd (Str.ofString "")=[] by x_go]at hc;cases hc⟩
def Q0:xV ""=false:=by x_go
def Nh {p:Str->Prop}{ws:List Str}{x:Str}(h:∀y∈ws,p y)(hx:p x):∀y∈ws ++ [x],p y:=fun y hy=>by
 rcases xay.mp hy with hy |hy
 ·exact h y hy
 ·rw[xaF]at hy;rw[hy];exact hx
def all_cons {p:Str->Prop}{ws:List Str}{x:Str}(h:∀y∈ws,p y)(hx:p x):∀y∈x::ws,p y:=fun y hy=>by
 rcases xaq.mp hy with rfl |hy
 ·exact hx
 ·exact h y hy
section
variable {z w nm:Str}{r:List Str}
def V_ (t:TL z (w::r))(h:∀y∈w::r,wq y)(hl:r.length<=60):FL (z ++ " "):=by
 refine⟨(w::r) ++ [("":Str)],?_,by simp,Nh h zF,by simp;omega,Kd (x:="") (by simp) Q0⟩;unfold TL;rw[gW,t,Aj,xaP,xcM,Qi (by simp),Ov]
theorem fl1 (t:TL z (w::r))(h:∀y∈w::r,wq y)(hl:r.length<=60):FL (" " ++ z):=by
 refine⟨""::(w::r),?_,by simp,all_cons h zF,by simp;omega,Kd (x:="") (by simp) Q0⟩;unfold TL;show _=cd (Str.ofString "") ++ 32::jn 32 ((w::r).map cd);rw[gW,t,Aj,Ov];rfl
theorem fl2 (t:TL z (w::r))(h:∀y∈w::r,wq y)(hl:r.length<=60)(hb:eN (w::r)=true):FL (z ++ " 5"):=by
 refine⟨(w::r) ++ [("5":Str)],?_,by simp,Nh h (sy (by x_go)).q,by simp;omega,QF hb⟩;unfold TL;rw[gW,t,show cd (Str.ofString " 5")=[32,53] by x_go,xaP,xcM,Qi (by simp)];rfl
theorem fl3 (t:TL z (w::nm::r))(h:∀y∈w::nm::r,wq y)(hl:r.length<=59):FL (rep1 z " " "  "):=by
 refine⟨w::""::nm::r,?_,by simp,all_cons (all_cons (fun y hy=>h y (xan _ hy)) zF) (h w (by simp)),by simp;omega,Kd (x:="") (by simp) Q0⟩;have t':cd z=cd w ++ 32::jn 32 ((nm::r).map cd):=t;unfold TL;rw[zho t' (fun q=>((h w (by simp)).2 32 q).2.2 rfl)];show _=cd w ++ 32::(cd (Str.ofString "") ++ 32::jn 32 ((nm::r).map cd));rw[Ov];rfl
def fl4:FL "":=⟨[""],by unfold TL;decide +kernel,by simp,all_cons (fun y hy=>by cases hy) zF,by decide,rfl⟩
def Wa (t:TL z (w::r))(h:∀y∈w::r,wq y)(hl:r.length<=60)(hb:eN (w::r)=true):FL (Txt.upper z):=by
 have ok:∀y∈w::r,∀c∈cd y,33<=c/\c<=122:=fun y hy=>(Yy (Wq (Zt hb y hy))).2;have hw:∃n,frm w=some n:=by
  unfold eN at hb;split at hb
  ·rename_i e;cases e;split at hb
   ·exact⟨_, ‹_›⟩
   ·cases hb
  ·cases hb
 obtain⟨n,hn⟩:=hw;refine⟨Txt.upper w::r.map Txt.upper,?_,by simp,?_,by simp;omega,Yr (zh7 hn)⟩
 ·have hz:∀c∈cd z,c<=122:=fun c hc=>by
   have:=t;unfold TL at this;rw[this]at hc;rcases JL _ hc with rfl |⟨p,hp,hc⟩
   ·decide
   ·obtain⟨y,hy,rfl⟩:=xaK.mp hp;exact(ok y hy c hc).2
  unfold TL;rw[Mt hz,t,W2,xa9, <-xak,xa9];congr 1;refine List.map_congr_left fun y hy=>?_;show(cd y).map cap=cd (Txt.upper y);rw[Mt fun c hc=>(ok y hy c hc).2]
 ·rw[<-xak];intro y hy;obtain⟨x,hx,rfl⟩:=xaK.mp hy;have ho:=ok x hx;refine⟨?_,fun c hc=>?_⟩
  ·rw[fZ,Mt fun c hc=>(ho c hc).2,xap, <-fZ];exact(h x hx).1
  ·rw[Mt fun c hc=>(ho c hc).2]at hc;obtain⟨d,hd,rfl⟩:=xaK.mp hc;have:=ho d hd;unfold cap
   split<;>omega
def fl6 (h:wq w):FL w:=⟨[w],rfl,by simp,all_cons (fun y hy=>by cases hy) h,by show 1<=62;decide,rfl⟩
def fl7 (t:TL z (w::nm::r))(h:∀y∈w::nm::r,wq y)(hl:r.length<=59){y:Str}(hy:cd y=(cd z).drop (cd w).length):FL ("sift" ++ y):=by
 refine⟨"sift"::nm::r,?_,by simp,all_cons (fun y hy=>h y (xan _ hy)) (sy (by x_go)).q,by simp;omega,Yr (by x_go)⟩;have t':cd z=cd w ++ 32::jn 32 ((nm::r).map cd):=t;show cd (Str.ofString "sift" ++ y)=cd (Str.ofString "sift") ++ 32::jn 32 ((nm::r).map cd);rw[gW,hy,t',List.drop_left]
def fl8 {bad:Str}(h:∀y∈w::r,wq y)(hb:gJ bad=false)(hq:wq bad)(hl:r.length<=59){y:Str}(hy:cd y=jn 32 ((w::bad::r).map cd)):FL y:=
 ⟨w::bad::r,hy,by simp,all_cons (all_cons (fun y hy=>h y (xan _ hy)) hq) (h w (by simp)),by simp;omega,zlG hb⟩
def fl9 (t:TL z (w::r))(h:∀y∈w::r,wd y)(hl:r.length<=60):FL (z ++ "\t"):=by
  obtain⟨ps,q,e⟩:∃ps q,w::r=ps ++ [q]:=⟨(w::r).dropLast,(w::r).getLast (by simp),(List.dropLast_concat_getLast (by simp)).symm⟩;rw[e]at t h;have c9:cd (q ++ "\t")=cd q ++ [9]:=by rw[gW,show cd (Str.ofString "\t")=[9] by x_go]
  have hq:=h q (by simp);have hlen:=congrArg List.length e
  simp at hlen
  refine⟨ps ++ [q ++ "\t"],?_,by simp,Nh (fun y hy=>(h y (by simp[hy])).q) ⟨?_,fun c hc=>?_⟩,by simp;omega,Kd (x:=q ++ "\t") (by simp) ?_⟩
  · have t':=t;unfold TL at t' ⊢;rw[gW,t',show cd (Str.ofString "\t")=[9] by x_go,xaP,xaP,xcM,xcM,c9,W5]
  · rw[fZ,c9,xam,xaE, <-fZ];have:=hq.1;omega
  · rw[c9,xay,xaF]at hc;rcases hc with hc |rfl
    · exact hq.2 c hc
    · decide
  · cases ho:xV (q ++ "\t") with
    |false=>rfl
    |true=>
      have:=(Yy ho).2 9 (by rw[c9];simp);omega
end
def zly {k:Int}:∃x:Str,gJ x=false/\wd x/\eG [D.str "7a",.str "A",.str "a_b",.str "abcdefghijklm",.str "b-",.str "nO"] (k % 6)=some (.str x):=by
 have:k % 6=0\/k % 6=1\/k % 6=2\/k % 6=3\/k % 6=4\/k % 6=5:=by omega
 rcases this with e |e |e |e |e |e<;>rw[e]
 ·exact⟨_,by x_go,sy (by x_go),gR (j:=0) rfl⟩
 ·exact⟨_,by x_go,sy (by x_go),gR (j:=1) rfl⟩
 ·exact⟨_,by x_go,sy (by x_go),gR (j:=2) rfl⟩
 ·exact⟨_,by x_go,sy (by x_go),gR (j:=3) rfl⟩
 ·exact⟨_,by x_go,sy (by x_go),gR (j:=4) rfl⟩
 ·exact⟨_,by x_go,sy (by x_go),gR (j:=5) rfl⟩
def zjl {f:E}{env:E3.Env}{M M1:Mm}{x:Str}(h:f env M=some (.v (.str x),M1))(hl:(Txt.upper x).length<=1000000):Hz f env M=some (.v (.str (Txt.upper x)),M1):=by
 unfold Hz;rw[h];show(if (Txt.upper x).length<=1000000 then some (Res.v (.str (Txt.upper x)),M1) else none)=_
 rw[tG hl]
def zkC {f:E}{env:E3.Env}{M M1:Mm}{x y z:Str}(h:f env M=some (.v (.str x),M1))(hl:x.length<=1000000):Hx y z f env M=some (.v (.str (rep1 x y z)),M1):=by
 unfold Hx;rw[h];show(if x.length<=1000000 then some (Res.v (.str (rep1 x y z)),M1) else none)=_
 rw[tG hl]
def zgz {ws:List Str}(h:eN ws=true):∃w nm r,ws=w::nm::r:=by
 unfold eN at h;split at h
 ·exact⟨_,_,_,rfl⟩
 ·cases h
def len_app {x y:Str}:(x ++ y).length=x.length + y.length:=by rw[fZ,gW,xam, <-fZ, <-fZ]
def zbp {z:Str}{ws:List Str}{way x:Int}(t:TL z ws)(hw:∀y∈ws,wd y)(hb:eN ws=true)(hl:ws.length<=60)(h0:0<=way)(h1:way<10):∃y,FL y/\∀M:Mm,FP [.str z,.int way,.int x] M=some (.v (.str y),M):=by
 obtain⟨w,nm,r,rfl⟩:=zgz hb;obtain⟨bad,b1,b2,b3⟩:=zly (k:=x);have hq:∀y∈w::nm::r,wq y:=fun y hy=>(hw y hy).q;have hrl:r.length<=58:=by simpa using hl
 obtain⟨⟨hs,_⟩,_,hz⟩:=t.ln hq (by simp) (by omega);have hwl:=(hw w (by simp)).1;have hbl:=b2.1;have hup:(Txt.upper z).length<=1000000:=by
  obtain⟨vs,v1,v2,v3,v4,_⟩:=Wa t hq (by simp;omega) hb;have:=(TL.ln v1 v3 v2 v4).2.2;omega
 have hjr:=jL (z:=Str.ofString " ") (ws:=r) (by x_go) (by have:=Dy (ws:=r) (B:=60) fun x hx=>(hw x (by simp[hx])).1;omega);have htj:cd (Txt.join (Str.ofString " ") r)=jn 32 (r.map cd):=CZ zJ r;have hjl:(Txt.join (Str.ofString " ") r).length<=7000:=by
  rw[fZ,htj];refine xau (CW (B:=60) _ fun p hp=>?_) (by rw[xap];omega);obtain⟨y,hy,rfl⟩:=xaK.mp hp;rw[<-fZ];exact(hw y (by simp[hy])).1
 have hnd:∃named:Str,named.length<=8000/\FL named/\named=if r=[] then w ++ Str.ofString " " ++ bad else w ++ Str.ofString " " ++ bad ++ Str.ofString " " ++ Txt.join (Str.ofString " ") r:=by
  refine⟨_,?_,?_,rfl⟩
  ·split
   ·rw[len_app,len_app];have:(Str.ofString " ").length=1:=by x_go
    omega
   ·rw[len_app,len_app,len_app,len_app];have:(Str.ofString " ").length=1:=by x_go
    omega
  ·refine fl8 (w:=w) (r:=r) (bad:=bad) (fun y hy=>hq y (by rcases xaq.mp hy with rfl |hy<;>simp[*])) b1 b2.q (by omega) ?_
   split
   ·rename_i e;rw[e,gW,gW,Aj,xas];rfl
   ·rename_i e;obtain⟨y,r',rfl⟩:=xbZ e;rw[gW,gW,gW,gW,htj,Aj];show _=cd w ++ 32::(cd bad ++ 32::jn 32 ((y::r').map cd))
    simp
 obtain⟨named,nl,hN,en⟩:=hnd;have hsd:cd (Txt.slice z (some (w.length:Int)) none)=(cd z).drop (cd w).length:=by
  rw[S7 ⟨by omega,?_⟩]
  ·rw[xbw,fZ]
  ·have t':cd z=cd w ++ 32::jn 32 ((nm::r).map cd):=t;rw[fZ,fZ z,t',xam];omega
 have hsl:(Txt.slice z (some (w.length:Int)) none).length<=7000:=by
  rw[fZ,hsd,xbe, <-fZ];omega
 have hR:∃y,FL y/\eG [D.str (z ++ Str.ofString " "),.str (Str.ofString " " ++ z),.str (z ++ Str.ofString " 5"),.str (rep1 z (Str.ofString " ") (Str.ofString "  ")),.str (Str.ofString ""),.str (Txt.upper z),.str w,.str (Str.ofString "sift" ++ Txt.slice z (some (w.length:Int)) none),.str named,.str (z ++ Str.ofString "\t")] way=some (.str y):=by
  obtain⟨k,rfl⟩:∃k:Nat,way=k:=⟨way.toNat,by omega⟩;have hk:k<10:=by omega
  match k,hk with
  |0,_=>exact⟨_,V_ t hq (by simp;omega),gR (j:=0) rfl⟩
  |1,_=>exact⟨_,fl1 t hq (by simp;omega),gR (j:=1) rfl⟩
  |2,_=>exact⟨_,fl2 t hq (by simp;omega) hb,gR (j:=2) rfl⟩
  |3,_=>exact⟨_,fl3 t hq (by omega),gR (j:=3) rfl⟩
  |4,_=>exact⟨_,fl4,gR (j:=4) rfl⟩
  |5,_=>exact⟨_,Wa t hq (by simp;omega) hb,gR (j:=5) rfl⟩
  |6,_=>exact⟨_,fl6 (hq w (by simp)),gR (j:=6) rfl⟩
  |7,_=>exact⟨_,fl7 t hq (by omega) hsd,gR (j:=7) rfl⟩
  |8,_=>exact⟨_,hN,gR (j:=8) rfl⟩
  |9,_=>exact⟨_,fl9 t hw (by simp;omega),gR (j:=9) rfl⟩
 obtain⟨y,hy,hat⟩:=hR;refine⟨y,hy,fun M=>?_⟩;have e1:(Str.ofString " ").length=1:=by x_go
 have e2:(Str.ofString " 5").length=2:=by x_go
 have e4:(Str.ofString "sift").length=4:=by x_go
 have e5:(Str.ofString "\t").length=1:=by x_go
 have tl:kZ (Qv [.val (.str z),.val (.int way),.val (.int x),.val (.lst (D.str w::D.str nm::r.map D.str)),.val (.str bad),.val (.str named),.un,.un] M)=some (.v (.str y),M):=by
  unfold Qv;z_go;rw[tG (show w.length<=16777216 from xau hwl (by decide))];z_go;rw[tG (show z.length<=16777216 by clear hup hjl nl hsl hl hrl hwl hbl h0 h1 e1 e2 e4 e5;omega)];z_go;rw[tG (by omega)];z_go;unfold XJ;z_go;rw[tG (by omega)];z_go;rw[tG (by omega)];z_go;rw[tG (by omega)];z_go;rw[zkC (x:=z) (M1:=M) rfl (by omega)];z_go;rw[zjl (x:=z) (M1:=M) rfl hup];z_go;unfold XM;z_go;rw[tG (by omega)];z_go;rw[hat];z_go
 unfold FP Nv;z_go;rw[Ml,hs,tG ⟨by x_go,by rw[xav];omega⟩];z_go;unfold XC;z_go;rw[b3];z_go;unfold XD;z_go;rw[tG (by omega)];z_go;rw[tG (by rw[len_app];omega)];z_go;unfold XH;z_go
 by_cases hr:r=[]
 ·rw[tG hr]at en;rw[xab (by rw[hr];decide)];z_go;rw[<-en];exact tl
 ·rw[xab hr]at en;have hp:=xdo.mpr hr;rw[tG (by omega),tG (by rw[len_app,len_app];omega)];z_go;rw[Fd _ (by decide),show(D.str w::D.str nm::r.map D.str).drop (2:Int).toNat=r.map D.str from rfl,hjr];z_go;rw[tG (by rw[len_app,len_app,len_app];omega)];z_go;rw[<-en];exact tl
def Out (rs:List RW)(n:Nat)(f:Str):Prop:=gJ f=true/\wd f/\∀q∈rs.take n,q.nm=f->q.w="out"
def NL (rs:List RW)(n:Nat)(z:Str):Prop:=∃vs r,TL z vs/\vs≠ []/\(∀y∈vs,wq y)/\vs.length<=62/\gF vs=some r/\gP ((rs.take n).map lG) r.nm r.fr=false
def Out.no {rs:List RW}{n:Nat}{f nm:Str}{fr:List Str}(h:Out rs n f)(hf:f∈fr):gP ((rs.take n).map lG) nm fr=false:=by
  have:(fr.all fun x=> !decide ((lF ((rs.take n).map lG) x).getD "out"="out"))=false:=by
    rw[xeQ];refine⟨f,hf,?_⟩;have e:(lF ((rs.take n).map lG) f).getD "out"="out":=by
      unfold lF
      cases hF:((rs.take n).map lG).find? fun p=>decide (p.1=f) with
      |none=>rfl
      |some p=>
        have h0:=xcl hF;obtain⟨q,hq,rfl⟩:=xaK.mp (xbi hF);exact h.2.2 q hq (xbc h0)
    rw[e]
    decide +kernel
  unfold gP;rw[this,xbv]
section
variable {rs:List RW}{ab:List Str}{n:Nat}
def GS.ix (G:GS rs ab)(hl:rs.length<100){i j:Nat}(hi:i<rs.length)(hj:j<rs.length)(e:rs[i].nm=rs[j].nm):i=j:=by
 have:=G.dg i hi;rw[e,G.dg j hj]at this;exact(Sx (by omega) (by omega) this).symm
def Xq {q:RW}(h:q∈rs.take n):∃i,∃(hi:i<rs.length),i<n/\q=rs[i]:=by
 obtain⟨i,hi,rfl⟩:=xbC.mp h;rw[xaU]at hi;exact⟨i,by omega,by omega,xdM⟩
def Q5 (G:GS rs ab)(hl:rs.length<100){j:Nat}(hj:j<rs.length)(hn:n<=j):Out rs n rs[j].nm:=by
 have:=G.nm _ (xa7 hj);refine⟨this.1,this.2,fun q hq e=>?_⟩;obtain⟨i,hi,h,rfl⟩:=Xq hq;have:=G.ix hl hi hj e;omega
def YB (G:GS rs ab):Out rs n "nobody":=by
 refine⟨by x_go,sy (by x_go),fun q hq e=>?_⟩;obtain⟨i,hi,h,rfl⟩:=Xq hq;have h1:=G.dg i hi;rw[e,show(cd (Str.ofString "nobody")).filter (fun c=>decide (c<=57))=[] by x_go]at h1;have h2:cd (b_ (i:Int))=dg i:=w5 (by omega);have:=CG (JC (n:=i));rw[<-h2, <-h1]at this;exact absurd rfl this.1
def zf1 (G:GS rs ab)(hl:rs.length<100){q:RW}(hq:q∈rs.take n)(hw:q.w="out"):Out rs n q.nm:=by
 have hm:=xcB hq;have:=G.nm q hm;refine⟨this.1,this.2,fun q' hq' e=>?_⟩;have:=G.uni hl (xcB hq') hm e;rw[this,hw]
def QD {r:RW}{z f:Str}{abs:List Str}(hr:RK abs r)(hab:∀x∈abs,gJ x=true/\wd x)(hn:gJ r.nm=true/\wd r.nm)(hf:Out rs n f)(hm:f∈r.fr)(hle:r.fr.length<=8)(t:TL z r.ws)(hw:wd r.w):NL rs n z:=by
 have ha:∀x∈r.fr,gJ x=true/\wd x:=fun x hx=>hab x (hr.fr x hx);have hle2:=hr.le;refine⟨r.ws,r,t,by unfold RW.ws;simp,fun y hy=>?_,by unfold RW.ws;simp;omega,(hr.row hn.1 fun x hx=>(ha x hx).1).1,hf.no hm⟩;unfold RW.ws at hy;rcases xaq.mp hy with rfl |hy
 ·exact hw.q
 ·rcases xaq.mp hy with rfl |hy
  ·exact hn.2.q
  ·rcases xay.mp hy with hy |hy
   ·exact(ha y hy).2.q
   ·exact(hr.wd y hy).q
end
def zeS {w nm nm':Str}{r a b:List Str}(h:gF (w::nm::r)=some ⟨w,nm,a,b⟩)(hn:gJ nm'=true):gF (w::nm'::r)=some ⟨w,nm',a,b⟩:=by
 have hb:=Zr h;have hb':eN (w::nm'::r)=true:=by
  unfold eN at hb ⊢;dsimp only at hb ⊢;split at hb
  ·rename_i f hf;rw[xbs]at hb ⊢;simp only[xac]at hb ⊢;exact⟨hb.1,⟨hn,hb.2.1.2⟩,hb.2.2⟩
  ·cases hb
 unfold gF at h ⊢;dsimp only at h ⊢;rw[tG hb]at h;rw[tG hb'];have h:=xaw h;simp only[RW.mk.injEq,true_and]at h;rw[h.1,h.2]
section
variable {rs:List RW}{ab:List Str}{n:Nat}
def GS.at (G:GS rs ab)(hn:n<rs.length):gF rs[n].ws=some rs[n]/\gP ((rs.take n).map lG) rs[n].nm rs[n].fr=true/\rs[n].wf:=by
 have e:rs=rs.take n ++ rs[n]::rs.drop (n + 1):=by
  rw[<-xbh hn,xbJ]
 have:=G.ws _ _ _ e;exact⟨this.1,this.2,G.wf _ (xa7 hn)⟩
def zli (G:GS rs ab)(hn:n<rs.length){j:Nat}(hj:j<n){z:Str}(t:TL z (rs[n].w::rs[j].nm::(rs[n].fr ++ rs[n].rs))):NL rs n z:=by
  obtain⟨h1,_,h3⟩:=G.at hn;have hm:=G.nm _ (xa7 (show j<rs.length by omega));have hl:=h3.2;unfold RW.ws at hl;refine⟨_,⟨rs[n].w,rs[j].nm,rs[n].fr,rs[n].rs⟩,t,by simp,fun y hy=>?_,by simp at hl ⊢;omega,zeS h1 hm.1,?_⟩
  · rcases xaq.mp hy with rfl |hy
    · exact(h3.1 _ (by unfold RW.ws;simp)).q
    · rcases xaq.mp hy with rfl |hy
      · exact hm.2.q
      · exact(h3.1 _ (by unfold RW.ws;exact xan _ (xan _ hy))).q
  · unfold gP;have:(lF ((rs.take n).map lG) rs[j].nm).isNone=false:=by
      cases hF:lF ((rs.take n).map lG) rs[j].nm with
      |some _=>rfl
      |none=>
        unfold lF at hF;rw[xcT,xcL]at hF;refine absurd (xaC rfl) (hF (lG rs[j]) (xaK.mpr ⟨rs[j],?_,rfl⟩));exact xbC.mpr ⟨j,by rw[xaU];omega,xdM⟩
    show((lF ((rs.take n).map lG) rs[j].nm).isNone && _)=false;rw[this,xb2]
end
theorem Zh {rest:List (List Str)}:∀(bs as:List RW) (n:Nat),RWS (as ++ bs)->pK (bs.map RW.ws ++ rest) n (as.map lG) as=pK rest (n + bs.length) ((as ++ bs).map lG) (as ++ bs)
  | [],as,n,_=>by rw[xaH];rfl
  |r::bs,as,n,h=>by
    obtain⟨h1,h2⟩:=h as r bs rfl;rw[xak,xbf,pK,h1];dsimp only;rw[tG h2,show as.map lG ++ [(r.nm,r.w)]=(as ++ [r]).map lG by rw[xaP];rfl];rw[Zh bs (as ++ [r]) (n + 1) (by rw[xas];exact h),xas,xal,show n + 1 + bs.length=n + (bs.length + 1) by omega];rfl
theorem RWS.take {rs:List RW}(h:RWS rs)(m:Nat):RWS (rs.take m):=fun as r bs e=>h as r (bs ++ rs.drop m) (by rw[<-xbf, <-xas, <-e,xbJ])
def Bad (rs:List RW)(m:Nat)(cls z:Str):Prop:=(cls="NoText"/\FL z)\/(cls="NoName"/\NL rs m z)
def Fi (z:Str):Prop:=∃vs,Ln z vs/\10∉cd z/\z.length<=7000
def Bad.rd {rs:List RW}{m:Nat}{cls z:Str}(h:Bad rs m cls z)(G:RWS rs)(hm:m<=rs.length):∃vs,Ln z vs/\10∉cd z/\z.length<=7000/\∀rest,pK ((rs.take m).map RW.ws ++ vs::rest) 0 [] []=.inr (cls,m):=by
 have hp:∀rest,pK ((rs.take m).map RW.ws ++ rest) 0 [] []=pK rest m ((rs.take m).map lG) (rs.take m):=fun rest=>by
  have:=Zh (rest:=rest) (rs.take m) [] 0 (by rw[xbW];exact G.take m);rw[xbW,Nat.zero_add,xaU,xcH hm]at this;exact this
 rcases h with⟨rfl,vs,h1,h2,h3,h4,h5⟩ |⟨rfl,vs,r,h1,h2,h3,h4,h5,h6⟩
 ·obtain⟨a,b,c⟩:=h1.ln h3 h2 h4;refine⟨vs,a,b,c,fun rest=>?_⟩;rw[hp,pK,Ku h5]
 ·obtain⟨a,b,c⟩:=h1.ln h3 h2 h4;refine⟨vs,a,b,c,fun rest=>?_⟩;rw[hp,pK,h5];dsimp only;rw[h6,xab (by decide)]
def LN (r:RW):Str:=Txt.join (Str.ofString " ") r.ws
def Xi (r:RW):TL (LN r) r.ws:=CZ zJ _
def Ul {r:RW}(h:r.wf):Ln (LN r) r.ws/\10∉cd (LN r)/\(LN r).length<=7000:=(Xi r).ln (fun x hx=>(h.1 x hx).q) (by unfold RW.ws;simp) (by have:=h.2;omega)
def zck {L:List Str}(hF:∀z∈L,10∉cd z/\z.length<=7000)(h0:L≠ [])(hl:L.length<=50):Txt.split (Txt.join (Str.ofString "\n") L) (Str.ofString "\n")=L/\(Txt.join (Str.ofString "\n") L).length<=10000000/\((L.map (·.length)).sum + L.length<=1048576):=by
 have hj:=CZ GX L;refine⟨?_,?_,?_⟩
 ·rw[GX];refine LQ h0 (fun y hy=>(hF y hy).1) ?_;rw[<-GX];exact hj
 ·rw[fZ,hj];refine xau (CW (B:=7000) _ fun p hp=>?_) ?_
  ·obtain⟨z,hz,rfl⟩:=xaK.mp hp;rw[<-fZ];exact(hF z hz).2
  ·rw[xap];omega
 ·have:=Dy (ws:=L) (B:=7000) fun x hx=>(hF x hx).2;omega
theorem Zk {M:Mm}{rs:List RW}{ab:List Str}{L:List Str}{m:Nat}{cls z:Str}(G:GS rs ab)(hl:L.length=rs.length)(h50:rs.length<=50)(hz:L[m]? =some z)(hpre:∀i (hi:i<rs.length),i<m->L[i]? =some (LN rs[i]))(hF:∀z∈L,Fi z)(hb:Bad rs m cls z):
  ∃E,tW [.str (Txt.join (Str.ofString "\n") L)] M=some (.x cls ((m:Int) + 1),M ++ E):=by
 have hm:m<L.length:=(xag.mp hz).1;have hzL:L[m]=z:=(xag.mp hz).2;obtain⟨vs,v1,v2,v3,v4⟩:=hb.rd G.ws (by omega);have hs:∀y∈L,Ln y (Txt.split y (Str.ofString " ")):=fun y hy=>by
  obtain⟨ws,w1,_⟩:=hF y hy;have:=w1;rw[<-w1.1]at this;exact this
 obtain ⟨t1, t2, _⟩ := zck (L := L) (fun y hy => by obtain ⟨_, _, a, b⟩ := hF y hy; exact ⟨a, b⟩) (fun e => by rw [e] at hm; cases hm) (by omega);obtain ⟨E, e⟩ := Wm (M := M) (z := Txt.join (Str.ofString "\n") L) (ls := L.map fun y => (y, Txt.split y (Str.ofString " "))) (by rw [t1, xa9]; exact (List.map_id' L).symm) t2 (fun p hp=>by
  obtain⟨y,hy,rfl⟩:=xaK.mp hp;exact hs y hy) (by rw[xap];omega)
 refine⟨E,?_⟩;have hL:(L.map fun y=>(y,Txt.split y (Str.ofString " "))).map (·.2)=(rs.take m).map RW.ws ++ vs::(L.drop (m + 1)).map fun y=>Txt.split y (Str.ofString " "):=by
  rw[xa9];have e1:L=L.take m ++ z::L.drop (m + 1):=by rw[<-hzL, <-xbh hm,xbJ]
  have e2:(L.take m).map (fun y=>Txt.split y (Str.ofString " "))=(rs.take m).map RW.ws:=by
   refine List.ext_getElem (by simp;omega) fun i h1 h2=>?_;simp only[xap,xaU]at h1 h2;have:=hpre i (by omega) (by omega);have e3:=(xag.mp this).2;simp only[List.getElem_map,xdM,e3];exact(Ul (G.at (n:=i) (by omega)).2.2).1.1
  show L.map (fun y=>Txt.split y (Str.ofString " "))=_
  conv=>lhs;rw[e1]
  rw[xaP,xak,e2,v1.1]
 rw[e,hL,v4];rfl
theorem Ui {M:Mm}{r:RW}:vw M (RW.D r)=RW.D r:=rfl
def zkw {r:RW}:aO (RW.D r) (.int 0)=some (.str r.w):=(QW).trans at0
def zkx {r:RW}:aO (RW.D r) (.int 1)=some (.str r.nm):=(QW).trans at1
local macro_rules | `(tactic| z_go)=>do
 let l <-((wNs ++ " Ui zkw zkx").splitOn " ").toArray.mapM fun n=> `(Lean.Parser.Tactic.simpLemma| $(Lean.mkIdent n.toName):term)
 `(tactic| try simp only[$l,*])
def wN {rs:List RW}{n:Nat}(hn:n<rs.length):eG (rs.map RW.D) (n:Int)=some (RW.D rs[n]):=gR (by rw[xax,xah hn];rfl)
def zcR {rs:List RW}(hl:rs.length<1000):∃fs:List Str,(∀f∈fs,∃q∈rs,q.nm=f/\q.w="out")/\fs.length<=rs.length/\∀M:Mm,nG Ez Fq [] (rs.map RW.D) [] M=some (fs.map D.str,M):=by
  let F:D->Option D:=fun d=>match d with
    |.tup [.str w,.str nm,_,_]=>if w=Str.ofString "out" then some (.str nm) else none
    |_=>none
  have hF:∀r:RW,F r.D=if r.w=Str.ofString "out" then some (.str r.nm) else none:=fun r=>rfl
  have h:∀M:Mm,_:=fun M=>Vy (q:=Ez) (e:=Fq) (env:=[]) (M:=M) F (rs.map RW.D) [] (fun d hd=>?_) (by rw[xav,xbM,xap];omega)
  · refine⟨rs.filterMap fun r=>if r.w=Str.ofString "out" then some r.nm else none,fun f hf=>?_,List.length_filterMap_le _ _,fun M=>?_⟩
    · obtain⟨q,hq,e⟩:=xch.mp hf;split at e
      · rename_i ho;exact⟨q,hq,xaw e,ho⟩
      · cases e
    · rw[h,xbW,xeB,List.map_filterMap];congr 3;funext r;show F r.D=_;rw[hF]
      split<;>rfl
  · obtain⟨r,_,rfl⟩:=xaK.mp hd;rw[hF];unfold Ez Fq
    by_cases e:r.w=Str.ofString "out"
    · rw[tG e];dsimp only
      constructor
      · z_go;simp only[e,xeS]
      · z_go
    · rw[xab e];dsimp only;z_go;simp only[e,xeI]
def ziM {rs:List RW}{ab:List Str}(G:GS rs ab)(hl:rs.length<=50){n:Nat}(hn:n<rs.length){x:Int}(hx:0<=x):∃z,NL rs n z/\∀M:Mm,FQ [.lst (rs.map RW.D),.int n,.int x] M=some (.v (.str z),M):=by
  have hnm:=G.nm _ (xa7 hn);have hF:∃F1:List Str,F1≠ []/\F1.length<=3/\(∀f∈F1,Out rs n f)/\∀M:Mm,JX [.val (.lst (rs.map RW.D)),.val (.int n),.val (.int x),.val (.str rs[n].nm),.own [.str rs[n].nm,.str "nobody"],.un] M=Qw [.val (.lst (rs.map RW.D)),.val (.int n),.val (.int x),.val (.str rs[n].nm),.own (F1.map D.str),.un] M:=by
    by_cases h:n + 1<rs.length
    · have m0:=xaN x (show(rs.length:Int) - n - 1≠0 by omega);have m1:=xaA x (show(0:Int)<(rs.length:Int) - n - 1 by omega);obtain⟨j,hj⟩:∃j:Nat,(n:Int) + 1 + x % ((rs.length:Int) - n - 1)=j:=⟨((n:Int) + 1 + x % ((rs.length:Int) - n - 1)).toNat,by omega⟩;have hjl:j<rs.length:=by omega
      refine⟨[rs[n].nm,"nobody",rs[j].nm],by simp,by simp,fun f hf=>?_,fun M=>?_⟩
      · simp only[xaq,xbQ,xdr]at hf;rcases hf with rfl |rfl |rfl
        · exact Q5 G (by omega) hn (xad _)
        · exact YB G
        · exact Q5 G (by omega) hjl (by omega)
      · unfold JX;z_go;rw[tG (by omega),tG (by omega)];z_go;rw[hj,wN hjl];z_go
    · refine⟨[rs[n].nm,"nobody"],by simp,by simp,fun f hf=>?_,fun M=>?_⟩
      · simp only[xaq,xbQ,xdr]at hf;rcases hf with rfl |rfl
        · exact Q5 G (by omega) hn (xad _)
        · exact YB G
      · unfold JX;z_go;rw[xab (by omega)];z_go
  obtain⟨F1,f1,f2,f3,f4⟩:=hF;obtain⟨fs,g1,g2,g4⟩:=zcR (rs:=rs.take n) (by rw[xaU];omega);have hA:∀f∈F1 ++ fs,Out rs n f:=fun f hf=>by
    rcases xay.mp hf with hf |hf
    · exact f3 f hf
    · obtain⟨q,hq,rfl,hw⟩:=g1 f hf;exact zf1 G (by omega) hq hw
  have hFl:0<(F1 ++ fs).length:=by rw[xam];have:=xdo.mpr f1;omega
  have p0:=xaN (x / 7) (show((F1 ++ fs).length:Int)≠0 by omega);have p1:=xaA (x / 7) (show(0:Int)<((F1 ++ fs).length:Int) by omega);obtain⟨j,hj⟩:∃j:Nat,x / 7 % ((F1 ++ fs).length:Int)=j:=⟨(x / 7 % ((F1 ++ fs).length:Int)).toNat,by omega⟩;have hjl:j<(F1 ++ fs).length:=by omega
  have hone:=hA _ (xa7 hjl);have hat:eG ((F1 ++ fs).map D.str) (j:Int)=some (.str (F1 ++ fs)[j]):=gR (by rw[xax,xah hjl];rfl);generalize (F1 ++ fs)[j]=one at hone hat;have hE:∃z,NL rs n z/\∀(M:Mm) (s4:E3.Slot),kZ (GQ [.val (.lst (rs.map RW.D)),.val (.int n),.val (.int x),.val (.str rs[n].nm),s4,.val (.str one)] M)=some (.v (.str z),M):=by
    clear p0 p1 hj hjl hFl f2 f1 g2 f4 g4;have wp:wd "pour":=sy (by x_go);have wo:wd "out":=sy (by x_go);have wf:wd "fixed":=sy (by x_go);have l1:(Str.ofString " ").length=1:=by x_go
    have l2:(Str.ofString "pour ").length=5:=by x_go
    have l3:(Str.ofString "out ").length=4:=by x_go
    have l4:(Str.ofString "fixed ").length=6:=by x_go
    have l5:(Str.ofString " 7 sum").length=6:=by x_go
    have ln:=hnm.2.1;have lo:=hone.2.1.1
    by_cases h1:0<n/\x / 3 % 3=1
    · have hn0:=G.nm _ (xa7 (show 0<rs.length by omega));refine⟨"pour " ++ rs[n].nm ++ " " ++ rs[0].nm ++ " " ++ one,?_,fun M s4=>?_⟩
      · refine QD (r:=⟨"pour",rs[n].nm,[rs[0].nm,one],[]⟩) (abs:=[rs[0].nm,one]) (Zo (fun f hf=>hf) (by show 2<=2;decide) (by show 2<=8;decide)) (fun y hy=>?_) hnm hone (by simp) (by show 2<=8;decide) ?_ wp
        · simp only[xaq,xbQ,xdr]at hy;rcases hy with rfl |rfl
          · exact hn0
          · exact⟨hone.1,hone.2.1⟩
        · unfold TL;rw[gW,gW,gW,gW,gW,Aj,show cd (Str.ofString "pour ")=cd (Str.ofString "pour") ++ [32] by x_go];show _=cd (Str.ofString "pour") ++ 32::(cd rs[n].nm ++ 32::(cd rs[0].nm ++ 32::cd one))
          simp
      · have ix0:eG (rs.map RW.D) 0=some (RW.D rs[0]):=wN (n:=0) (by omega);have l0:=hn0.2.1;unfold GQ;z_go;rw[tG (by omega)];simp only[h1.2];z_go;rw[tG (by omega)];z_go;rw[tG (by rw[len_app];omega)];z_go;rw[ix0];z_go;rw[tG (by rw[len_app,len_app];omega)];z_go;rw[tG (by rw[len_app,len_app,len_app];omega)];z_go;rw[tG (by rw[len_app,len_app,len_app,len_app];omega)];z_go
    · have t5:∀(M:Mm) (s4:E3.Slot),GQ [.val (.lst (rs.map RW.D)),.val (.int n),.val (.int x),.val (.str rs[n].nm),s4,.val (.str one)] M=JZ [.val (.lst (rs.map RW.D)),.val (.int n),.val (.int x),.val (.str rs[n].nm),s4,.val (.str one)] M:=fun M s4=>by
        have t:(if (0:Int)<(n:Int) then some (Res.v (D.bl (decide (x / 3 % 3=1))),M) else some (Res.v (D.bl false),M))=some (Res.v (D.bl false),M):=by
          split
          · rw[xat fun z=>h1 ⟨by omega,z⟩]
          · rfl
        unfold GQ;z_go;rw[t];z_go
      by_cases h2:x / 3 % 3=2
      · refine⟨"out " ++ rs[n].nm ++ " " ++ one,?_,fun M s4=>?_⟩
        · refine QD (r:=⟨"out",rs[n].nm,[one],[]⟩) (abs:=[one]) (Zn (by simp)) (fun y hy=>?_) hnm hone (by simp) (by show 1<=8;decide) ?_ wo
          · rw[xaF]at hy;rw[hy];exact⟨hone.1,hone.2.1⟩
          · unfold TL;rw[gW,gW,gW,Aj,show cd (Str.ofString "out ")=cd (Str.ofString "out") ++ [32] by x_go];show _=cd (Str.ofString "out") ++ 32::(cd rs[n].nm ++ 32::cd one)
            simp
        · rw[t5];unfold JZ;z_go;simp only[h2];z_go;rw[tG (by omega)];z_go;rw[tG (by rw[len_app];omega)];z_go;rw[tG (by rw[len_app,len_app];omega)];z_go
      · refine⟨"fixed " ++ rs[n].nm ++ " " ++ one ++ " 7 sum",?_,fun M s4=>?_⟩
        · refine QD (r:=⟨"fixed",rs[n].nm,[one],[b_ 7,"sum"]⟩) (abs:=[one]) (R8 (.inl rfl) (by simp) (by decide) (by decide) (by x_go)) (fun y hy=>?_) hnm hone (by simp) (by show 1<=8;decide) ?_ wf
          · rw[xaF]at hy;rw[hy];exact⟨hone.1,hone.2.1⟩
          · unfold TL;rw[gW,gW,gW,gW,Aj,show cd (Str.ofString "fixed ")=cd (Str.ofString "fixed") ++ [32] by x_go,show cd (Str.ofString " 7 sum")=32::(cd (b_ 7) ++ 32::cd (Str.ofString "sum")) by x_go];show _=cd (Str.ofString "fixed") ++ 32::(cd rs[n].nm ++ 32::(cd one ++ 32::(cd (b_ 7) ++ 32::cd (Str.ofString "sum"))))
            simp
        · rw[t5];unfold JZ;z_go;simp only[h2];z_go;unfold X5;z_go;rw[tG (by omega)];z_go;rw[tG (by rw[len_app];omega)];z_go;rw[tG (by rw[len_app,len_app];omega)];z_go;rw[tG (by rw[len_app,len_app,len_app];omega)];z_go
  obtain⟨z,hz,e5⟩:=hE;refine⟨z,hz,fun M=>?_⟩;unfold FQ Ny;z_go;rw[wN hn];z_go;unfold X3;z_go;rw[f4];unfold Qw;z_go;have g3':nG Ez Fq [] ((rs.take n).map RW.D) [] M=some (fs.map D.str,M):=g4 M;rw[VF _ (by omega),xbw, <-xer,g3'];z_go;rw[xaU]at g2;rw[tG (by omega)];z_go;unfold X4;z_go;rw[tG (by rw[<-xaP,xap];omega)];z_go;rw[<-xaP,xap,hj,hat];z_go;exact e5 M _
def Tag (tag cls:Str):Prop:=(tag="text"/\cls="NoText")\/(tag="name"/\cls="NoName")
def ze7 {N:Mm}{c:E3.Cl}:(N ++ [c])[N.length]? =some c:=by simp
def zie {w:Str}{ws:List Str}(h:∀x∈ws,x.length<=60)(hl:ws.length<=60):tL (Str.ofString " ") [.lst (ws.map D.str)]=some (.str (Txt.join (Str.ofString " ") ws)):=
 jL (by x_go) (by have:=Dy (ws:=ws) h;omega)
def zbz {rs:List RW}{ab:List Str}(G:GS rs ab)(hl:rs.length<=50){n:Nat}(hn:n<rs.length){xs:List D}{x0 x1:Int}(e0:eG xs 0=some (.int x0))(e1:eG xs 1=some (.int x1))(h1:0<=x1):
    ∃z tag cls,Bad rs n cls z/\Tag tag cls/\∀M:Mm,∃E,yI [.lst (rs.map RW.D),.int n,.lst xs] M=some (.v (.tup [.str z,.str tag]),M ++ E):=by
  obtain⟨p1,p2,p3⟩:=G.at hn;have hln:∀M:Mm,zQ [RW.D rs[n]] M=some (.v (.str (LN rs[n])),M):=fun M=>Xh (by have:=Dy (ws:=rs[n].ws) (B:=60) fun x hx=>(p3.1 x hx).1;have:=p3.2;omega) (by have:=p3.2;omega);obtain⟨⟨hs,_⟩,_,hz⟩:=Ul p3;have w0:=xaN x0 (show(16:Int)≠0 by decide);have w1:=xaA x0 (show(0:Int)<16 by decide);generalize hw:x0 % 16=way at w0 w1;have st:∀{M:Mm},yI [.lst (rs.map RW.D),.int n,.lst xs] M=kZ (J9 [.val (.lst (rs.map RW.D)),.val (.int n),.val (.lst xs),.val (.str (LN rs[n])),.val (.int way),.un] M):=fun {M}=>by
    unfold yI NZ;z_go;rw[wN hn];z_go;rw[hln];z_go;unfold X_;z_go;rw[e0];z_go;rw[hw]
  by_cases c1:way<10
  · obtain⟨y,f1,f2⟩:=zbp (x:=x1) (Xi rs[n]) p3.1 (Zr p1) p3.2 w0 c1;refine⟨y,"text","NoText",.inl ⟨rfl,f1⟩,.inl ⟨rfl,rfl⟩,fun M=>⟨[],?_⟩⟩;rw[st,xaH];unfold J9;z_go;simp only[c1];z_go;rw[e1];z_go;rw[f2];z_go
  · have st2:∀{M:Mm},yI [.lst (rs.map RW.D),.int n,.lst xs] M=kZ (J_ [.val (.lst (rs.map RW.D)),.val (.int n),.val (.lst xs),.val (.str (LN rs[n])),.val (.int way),.un] M):=fun {M}=>by
      rw[st];unfold J9;z_go;simp only[c1];z_go
    by_cases c2:0<n/\way<13
    · have m0:=xaN x1 (show(n:Int)≠0 by omega);have m1:=xaA x1 (show(0:Int)<(n:Int) by omega);obtain⟨j,hj⟩:∃j:Nat,x1 % (n:Int)=j:=⟨(x1 % (n:Int)).toNat,by omega⟩;have hjn:j<n:=by omega
      have hjm:=G.nm _ (xa7 (show j<rs.length by omega));generalize hy:Txt.join (Str.ofString " ") (rs[n].w::rs[j].nm::(rs[n].fr ++ rs[n].rs))=y;have hty:TL y (rs[n].w::rs[j].nm::(rs[n].fr ++ rs[n].rs)):=by rw[<-hy];exact CZ zJ _
      have hwd:∀x∈rs[n].w::rs[j].nm::(rs[n].fr ++ rs[n].rs),wd x:=fun x hx=>by
        rcases xaq.mp hx with rfl |hx
        · exact p3.1 _ (by unfold RW.ws;simp)
        · rcases xaq.mp hx with rfl |hx
          · exact hjm.2
          · exact p3.1 _ (by unfold RW.ws;exact xan _ (xan _ hx))
      have hll:(rs[n].w::rs[j].nm::(rs[n].fr ++ rs[n].rs)).length<=60:=p3.2;have hyl:y.length<=7000:=(hty.ln (fun x hx=>(hwd x hx).q) (by simp) (by omega)).2.2;have hjo:=zie (w:="") (fun x hx=>(hwd x hx).1) hll;rw[hy]at hjo;have go:∀{M:Mm},∃E,yI [.lst (rs.map RW.D),.int n,.lst xs] M=some (.v (if way=12 then .tup [.str (y ++ Str.ofString " "),.str "text"] else .tup [.str y,.str "name"]),M ++ E):=fun {M}=>by
        rw[st2];unfold J_;z_go;rw[tG (by omega)];simp only[c2.2];z_go;rw[Ml,hs,tG ⟨by x_go,by rw[xav];omega⟩];z_go;have ev:s2 aO (s2 aO (ak 0) (s2 oMod (s2 aO (ak 2) (aj (.int 1))) (ak 1))) (aj (.int 1)) [.val (.lst (rs.map RW.D)),.val (.int n),.val (.lst xs),.val (.str (LN rs[n])),.val (.int way),.val (.ref (List.length M))] (M ++ [Cl.lst (rs[n].ws.map D.str)])=some (.v (.str rs[j].nm),M ++ [Cl.lst (rs[n].ws.map D.str)]):=by
          z_go;rw[e1];z_go;rw[tG (by omega)];z_go;rw[hj,wN (show j<rs.length by omega)];z_go
        rw[Qc (x:=.str rs[j].nm) (k:=M.length) (i:=1) (j:=1) (M1:=M ++ [Cl.lst (rs[n].ws.map D.str)]) (M2:=M ++ [Cl.lst (rs[n].ws.map D.str)]) (M3:=M ++ [Cl.lst (rs[n].ws.map D.str)]) ev rfl rfl ze7 (by unfold RW.ws sS;simp;omega)];rw[show(M ++ [Cl.lst (rs[n].ws.map D.str)]).set M.length (.lst ((rs[n].ws.map D.str).set 1 (.str rs[j].nm)))=M ++ [Cl.lst ((rs[n].w::rs[j].nm::(rs[n].fr ++ rs[n].rs)).map D.str)] by rw[xcv _ _ (xad _),xbN];rfl];refine⟨[Cl.lst ((rs[n].w::rs[j].nm::(rs[n].fr ++ rs[n].rs)).map D.str)],?_⟩;have hv:vw (M ++ [Cl.lst ((rs[n].w::rs[j].nm::(rs[n].fr ++ rs[n].rs)).map D.str)]) (.ref M.length)=.lst ((rs[n].w::rs[j].nm::(rs[n].fr ++ rs[n].rs)).map D.str):=by
          unfold vw
          simp
        generalize M ++ [Cl.lst ((rs[n].w::rs[j].nm::(rs[n].fr ++ rs[n].rs)).map D.str)]=N at hv;have l1:(Str.ofString " ").length=1:=by x_go
        by_cases c3:way=12
        · z_go;simp only[c3];z_go;rw[hv,hjo];z_go;rw[tG (by omega)];z_go
        · z_go;simp only[c3];z_go;rw[hv,hjo];z_go
      by_cases c3:way=12
      · exact ⟨y ++ " ","text","NoText",.inl ⟨rfl,V_ hty (fun x hx=>(hwd x hx).q) (by simpa using xcr hll)⟩,.inl ⟨rfl,rfl⟩,fun M=>by
          obtain⟨E,e⟩:=go (M:=M);rw[tG c3]at e;exact⟨E,e⟩⟩
      · exact ⟨y,"name","NoName",.inr ⟨rfl,zli G hn hjn hty⟩,.inr ⟨rfl,rfl⟩,fun M=>by
          obtain⟨E,e⟩:=go (M:=M);rw[xab c3]at e;exact⟨E,e⟩⟩
    · obtain⟨y,f1,f2⟩:=ziM G hl hn h1;refine⟨y,"name","NoName",.inr ⟨rfl,f1⟩,.inr ⟨rfl,rfl⟩,fun M=>⟨[],?_⟩⟩;have t:(if (0:Int)<(n:Int) then some (Res.v (D.bl (decide (way<13))),M) else some (Res.v (D.bl false),M))=some (Res.v (D.bl false),M):=by
        split
        · rw[xat fun z=>c2 ⟨by omega,z⟩]
        · rfl
      rw[st2,xaH];unfold J_;z_go;rw[t];z_go;unfold Yb;z_go;rw[e1];z_go;rw[f2];z_go
def zc9 {T tag cls:Str}{m:Nat}{M E:Mm}(hr:tW [.str T] M=some (.x cls ((m:Int) + 1),M ++ E))(ht:Tag tag cls):Gb [.str T] M=some (.v (.tup [.str tag,.int m,.bl false]),M ++ E):=by
 have hy:∀s1 s2:E3.Slot,MJ [.val (.str T),s1,s2] M=some (.ex cls ((m:Int) + 1),M ++ E):=fun s1 s2=>by
  unfold MJ;z_go;rw[hr];z_go
 have e:Hy MJ (yJ 2 Ak Gs (yJ 2 EY JG Bd)) [.val (.str T),.val (.tup [.str "read",.int (-1),.bl true]),.un] M=some (.nx [.val (.str T),.val (.tup [.str tag,.int m,.bl false]),.un],M ++ E):=by
  unfold Hy;rw[hy];show yJ 2 Ak Gs _ _ _ _ _=_;unfold yJ;rcases ht with⟨rfl,rfl⟩ |⟨rfl,rfl⟩
  ·rw[show Ak (Str.ofString "NoText")=some true by x_go];dsimp only;rw[tG (by show 2<3;decide)];show wR 2 (Gs [.val (.str T),.val (.tup [.str "read",.int (-1),.bl true]),.exc "NoText" ((m:Int) + 1)] (M ++ E))=_;unfold Gs;z_go;rw[Zc (by x_go)];z_go;rw[show Di Mp DG (Str.ofString "NoText")=some false by x_go];z_go;rfl
  ·rw[show Ak (Str.ofString "NoName")=some false by x_go];dsimp only;rw[show EY (Str.ofString "NoName")=some true by x_go];dsimp only;rw[tG (by show 2<3;decide)];show wR 2 (JG [.val (.str T),.val (.tup [.str "read",.int (-1),.bl true]),.exc "NoName" ((m:Int) + 1)] (M ++ E))=_;unfold JG;z_go;rw[Zc (by x_go)];z_go;rw[show Di Mq DG (Str.ofString "NoName")=some false by x_go];z_go;rfl
 unfold Gb N5;z_go;rw[e];z_go
def zcX {T tag cls:Str}{m:Nat}{M E:Mm}(hr:tW [.str T] M=some (.x cls ((m:Int) + 1),M ++ E))(ht:Tag tag cls):FJ [.str T] M=some (.v (.bl true),M ++ E):=by
 have hc:Jp cls=true/\Mr cls=some true:=by
  rcases ht with⟨_,rfl⟩ |⟨_,rfl⟩
  ·exact⟨by x_go,by x_go⟩
  ·exact⟨by x_go,by x_go⟩
 unfold FJ Np zaw;z_go;rw[hr];z_go;rw[tG hc.1];z_go;unfold Wr;z_go;rw[hc.2];z_go
theorem zd0 {M:Mm}{L:List D}{c:E3.Cl}{E:Mm}:(M ++ [Cl.lst L] ++ E).set M.length c=M ++ [c] ++ E:=by
 rw[xas,xcv _ _ (xad _),xbN,xas];rfl
theorem PX {M:Mm}{c:E3.Cl}{E:Mm}:(M ++ [c] ++ E)[M.length]? =some c:=by
 rw[xas,xa4 (xad _),xbN];rfl
def zkS {M:Mm}{L:List D}{E:Mm}:vw (M ++ [Cl.lst L] ++ E) (.ref M.length)=.lst L:=by
 unfold vw;dsimp only;rw[PX]
structure Rf (rs:List RW)(L:List Str)(m:Nat)(cls:Str):Prop where
 len:L.length=rs.length
 fi:∀z∈L,Fi z
 bad:∃z,L[m]? =some z/\Bad rs m cls z
 pre:∀i (hi:i<rs.length),i<m->L[i]? =some (LN rs[i])
def Bad.fi {rs:List RW}{m:Nat}{cls z:Str}(h:Bad rs m cls z):Fi z:=by
 rcases h with⟨_,vs,h1,h2,h3,h4,_⟩ |⟨_,vs,r,h1,h2,h3,h4,_⟩
 ·exact⟨vs,h1.ln h3 h2 h4⟩
 ·exact⟨vs,h1.ln h3 h2 h4⟩
section
variable {rs:List RW}{ab:List Str}
theorem zgy (G:GS rs ab){n:Nat}(hn:n<rs.length){cls z:Str}(hb:Bad rs n cls z):Rf rs ((rs.map LN).set n z) n cls:=by
 refine⟨by simp,fun y hy=>?_,⟨z,by rw[xbt (by simpa using hn)],hb⟩,fun i hi h=>?_⟩
 ·rcases xbK hy with hy |rfl
  ·obtain⟨r,hr,rfl⟩:=xaK.mp hy;exact⟨_,Ul (G.wf r hr)⟩
  ·exact hb.fi
 ·rw[xbB (by omega),xax,xah hi];rfl
def zhi {L:List Str}{n k:Nat}{cls cls' z:Str}(h:Rf rs L n cls)(hk:k<rs.length)(hb:Bad rs k cls' z)(hne:k≠n):Rf rs (L.set k z) (if k<n then k else n) (if k<n then cls' else cls):=by
 refine⟨by rw[xaL];exact h.len,fun y hy=>?_,?_,fun i hi hlt=>?_⟩
 ·rcases xbK hy with hy |rfl
  ·exact h.fi y hy
  ·exact hb.fi
 ·split
  ·exact⟨z,by rw[xbt (by rw[h.len];exact hk)],hb⟩
  ·obtain⟨y,h1,h2⟩:=h.bad;exact⟨y,by rw[xbB hne];exact h1,h2⟩
 ·split at hlt
  ·rw[xbB (by omega)];exact h.pre i hi (by omega)
  ·rw[xbB (by omega)];exact h.pre i hi hlt
def law_fin {M E:Mm}{d0:D}{s4 s5 s6 s8 s9 s10:E3.Slot}{L:List Str}{m:Nat}{tag cls:Str}(G:GS rs ab)(hl:rs.length<=50)(h0:rs≠ [])(h:Rf rs L m cls)(ht:Tag tag cls):
  ∃N,kZ (Qz [.val d0,.val (.lst (rs.map RW.D)),.val (.ref M.length),.val (.str (txt rs)),s4,s5,s6,.val (.tup [.str tag,.int m,.bl false]),s8,s9,s10] (M ++ [.lst (L.map D.str)] ++ E))=some (.v (.bl true),N):=by
 have hL0:L≠ []:=fun e=>by
  have:=h.len;rw[e]at this;exact h0 (xcf.mp this.symm)
 have hFi:∀z∈L,10∉cd z/\z.length<=7000:=fun z hz=>by obtain⟨_,_,a,b⟩:=h.fi z hz;exact⟨a,b⟩
 have hLl:L.length<=50:=by rw[h.len];exact hl
 obtain⟨_,_,t3⟩:=zck hFi hL0 hLl;obtain⟨z,hz,hb⟩:=h.bad;generalize hN:M ++ [Cl.lst (L.map D.str)] ++ E=N0;have hv:vw N0 (.ref M.length)=.lst (L.map D.str):=by rw[<-hN];exact zkS
 obtain⟨E1,r1⟩:=Zk (M:=N0) G h.len hl hz h.pre h.fi hb;have q1:=zc9 r1 ht;obtain⟨E2,r2⟩:=Zk (M:=N0 ++ E1) G h.len hl hz h.pre h.fi hb;have q2:=zcX r2 ht;obtain⟨k1,k2,k3,k4,_⟩:=zdW G.wf h0 hl;obtain⟨E4,r3⟩:=zhD (M:=N0 ++ E1 ++ E2) hl k2 k1 k3 (zex G.ws);have dp:(D.lst (rs.map RW.D)).dep<=50:=by have:=VP rs;simp only[D.dep];omega
 unfold Qz;z_go;rw[hv,jL (by x_go) t3];z_go;unfold Yd;z_go;rw[q1];z_go;unfold Ye;z_go;rw[zju (by simp only[D.dep,D.deps];decide)];z_go;rw[zbW];z_go;rw[q2];z_go;unfold Yg;z_go;rw[r3];z_go;rw[zkb dp];z_go;exact⟨_,rfl⟩
end
def WY {l k:Nat}(h:k<l):sS l (k:Int)=some k:=by
 unfold sS
 simp[h]
def zh8 {n q l:Int}(h0:0<=n)(h1:n<l)(q0:0<=q)(q1:q<l - 1):∃k:Nat,(n + 1 + q) % l=k/\(k:Int)<l/\(k:Int)≠n:=by
 have m0:=xaN (n + 1 + q) (show l≠0 by omega);have m1:=xaA (n + 1 + q) (show 0<l by omega);refine⟨((n + 1 + q) % l).toNat,by omega,by omega,fun e=>?_⟩
 by_cases h:n + 1 + q<l
 ·rw[xeR (by omega) h]at e;omega
 ·rw[show n + 1 + q=(n + 1 + q - l) + l by omega,Int.add_emod_right,xeR (by omega) (by omega)]at e;omega
def ze0:∀ns:List Int,ns.length<=63->∃M,wQ [.lst (ns.map D.int)] []=some (.v (.bl true),M):=by
 intro ns hn;obtain⟨cs,c1,c2,ec⟩:=zdh hn;obtain⟨rs,E,ab,G,h2,er⟩:=zew (M:=[]) (cs:=cs) (by omega);have h50:rs.length<=50:=by omega
 have h0:rs≠ []:=fun z=>by rw[z]at h2;rw[<-h2]at c1;cases c1
 have hp:0<rs.length:=by omega
 obtain⟨k1,k2,k3,k4,k5⟩:=zdW G.wf h0 h50;unfold wQ Wj Jj;z_go;rw[ec];z_go;rw[er];z_go;generalize ([]:Mm) ++ E=M1;unfold Yc;z_go;rw[zP RW.D (fun r=>D.str (LN r)) rs [] (fun r hr=>?_) (by rw[xav];simp;omega)]
 rotate_left
 ·unfold V4;z_go;rw[Xh (by have:=(k5 r hr).1;omega) (k5 r hr).2];z_go;rfl
 z_go;obtain⟨xs,x1,x2,x3⟩:=Ax (n:=ns.getD 12 0 + 31 * ns.getD 1 0 + ns.getD 0 0) (m:=8) (by decide);have cg:∀(k:Nat) (M:Mm),wK [.lst (ns.map .int),.int k] M=some (.v (.int (ns.getD k 0)),M):=fun k M=>Wi (by omega);have ix:∀i:Nat,i<8->∃x,(∀j:Nat,j<=i->eG ((xs.drop j).map D.int) ((i - j:Nat):Int)=some (.int x))/\0<=x:=fun i hi=>by
  refine⟨xs[i],fun j hj=>gR ?_,(x2 _ (xa7 (by omega))).1⟩;rw[xax,List.getElem?_drop,show j + (i - j)=i by omega,xah (by omega)];rfl
 obtain⟨y0,a0,b0⟩:=ix 0 (by decide);obtain⟨y1,a1,b1⟩:=ix 1 (by decide);obtain⟨y2,a2,b2⟩:=ix 2 (by decide);obtain⟨y3,a3,b3⟩:=ix 3 (by decide);obtain⟨y4,a4,b4⟩:=ix 4 (by decide);obtain⟨y5,a5,b5⟩:=ix 5 (by decide);have m0:=xaN y0 (show(rs.length:Int)≠0 by omega);have m1:=xaA y0 (show(0:Int)<(rs.length:Int) by omega);obtain⟨n,hnn⟩:∃n:Nat,y0 % (rs.length:Int)=n:=⟨(y0 % (rs.length:Int)).toNat,by omega⟩;have hnl:n<rs.length:=by omega
 obtain⟨z,tag,cls,hb,ht,hsp⟩:=zbz G h50 hnl (a2 2 (by decide)) (a3 2 (by decide)) b3;have hjg:=jL (z:=Str.ofString "\n") (ws:=rs.map LN) (by x_go) (by rw[xap];exact k4);have n3:∀M:Mm,xR [.int (ns.getD 12 0 + 31 * ns.getD 1 0 + ns.getD 0 0),.int 8] M=some (.v (.lst (xs.map .int)),M):=x3;unfold Yh;z_go;rw[show(rs.map fun r=>D.str (LN r))=(rs.map LN).map D.str by rw[xa9];rfl,hjg];z_go;unfold Yi;z_go;have c12:=cg 12;have c1':=cg 1;have c0:=cg 0;rw[show((12:Nat):Int)=12 from rfl]at c12;rw[show((1:Nat):Int)=1 from rfl]at c1';rw[show((0:Nat):Int)=0 from rfl]at c0;rw[c12];z_go;rw[c1'];z_go;rw[c0];z_go;rw[n3];z_go;unfold Yj;z_go;have a0':eG (xs.map D.int) 0=some (.int y0):=a0 0 (by decide);have a1':eG (xs.map D.int) 1=some (.int y1):=a1 0 (by decide);rw[a0'];z_go;rw[tG (by omega),hnn];z_go;unfold Yk;z_go;rw[Fe,Fd _ (by decide),show(2:Int).toNat=2 from rfl];obtain⟨F1,f1⟩:=hsp (E ++ [Cl.lst ((rs.map LN).map D.str)]);rw[f1];z_go;unfold Yl;z_go;rw[Qc (x:=.str z) (k:=E.length) (i:=n) (j:=n) (M1:=E ++ [Cl.lst ((rs.map LN).map D.str)] ++ F1) (M2:=E ++ [Cl.lst ((rs.map LN).map D.str)] ++ F1) (M3:=E ++ [Cl.lst ((rs.map LN).map D.str)] ++ F1) (by z_go) rfl rfl PX (WY (by simpa using hnl)),zd0, <-List.map_set];have hR:=zgy G hnl hb;generalize (rs.map LN).set n z=L at hR;z_go;unfold Ym;z_go;unfold Yn
 by_cases c1:y1 % 2=1/\1<rs.length
 ·have q0:=xaN (y1 / 2) (show(rs.length:Int) - 1≠0 by omega);have q1:=xaA (y1 / 2) (show(0:Int)<(rs.length:Int) - 1 by omega);obtain⟨k,hk,hkl,hkn⟩:=zh8 (n:=(n:Int)) (l:=(rs.length:Int)) (by omega) (by omega) q0 q1;obtain⟨z',tag',cls',hb',ht',hsp'⟩:=zbz G h50 (show k<rs.length by omega) (a4 4 (by decide)) (a5 4 (by decide)) b5;obtain⟨F2,f2⟩:=hsp' (E ++ [Cl.lst (L.map D.str)] ++ F1);have hR2:=zhi hR (show k<rs.length by omega) hb' (by omega);z_go;rw[a1'];z_go;rw[tG c1.1,xaC (show(1:Int)<(rs.length:Int) by omega)];z_go;rw[a1'];z_go;rw[tG (by omega)];z_go;rw[tG (by omega),hk];z_go;rw[Fe,Fd _ (by decide),show(4:Int).toNat=4 from rfl,f2];z_go;rw[xas (E ++ [Cl.lst (L.map D.str)])];rw[Qc (x:=.str z') (k:=E.length) (i:=k) (j:=k) (M1:=E ++ [Cl.lst (L.map D.str)] ++ (F1 ++ F2)) (M2:=E ++ [Cl.lst (L.map D.str)] ++ (F1 ++ F2)) (M3:=E ++ [Cl.lst (L.map D.str)] ++ (F1 ++ F2)) (by z_go) rfl rfl PX (WY (by rw[xap,hR.len];omega)),zd0, <-List.map_set];generalize L.set k z'=L2 at hR2;z_go
  by_cases c2:k<n
  ·rw[tG c2,tG c2]at hR2;rw[tG (by omega)];z_go;exact law_fin G h50 h0 hR2 ht'
  ·rw[xab c2,xab c2]at hR2;rw[xab (by omega)];z_go;exact law_fin G h50 h0 hR2 ht
 ·have t:(if y1 % 2=1 then some (Res.v (D.bl (decide (1<(rs.length:Int)))),E ++ [Cl.lst (L.map D.str)] ++ F1) else some (Res.v (D.bl false),E ++ [Cl.lst (L.map D.str)] ++ F1))=some (Res.v (D.bl false),E ++ [Cl.lst (L.map D.str)] ++ F1):=by
   split
   ·rename_i e;rw[xat fun z=>c1 ⟨e,by omega⟩]
   ·rfl
  z_go;rw[a1'];z_go;rw[t];z_go;exact law_fin G h50 h0 hR ht
def ziv {l:PySem.W.OpenLaw}{w:World}{K:Fgx}{mg:Mgx}{C:Ad}{h base:Heap}{f38 f39 f40:Addr}{d38 d39 d40:FuncData}(X:K.In h)(G:h.Ns mainGlobals mg)(T:Txt K mg C w)
  (F0:aX K "is_figures" K9)
  (F1:aX K "is_signed_figures" Lh)
  (F2:aX K "is_count" K6)
  (F3:aX K "is_number" Ld)
  (F4:aX K "is_leaf" La)
  (F5:aX K "take_needed" Ls)
  (F6:aX K "check_words" KY)
  (F7:aX K "read_expr" Lp)
  (F8:aX K "read_cond" Lk)
  (F9:aX K "is_name" Lb)
  (F10:aX K "is_count_within" K7)
  (F11:aX K "is_expr" K8)
  (F12:aX K "is_cond" K5)
  (F13:aX K "is_share_rest" Lg)
  (F14:aX K "is_width_rest" Lj)
  (F15:aX K "is_slide_rest" Li)
  (F16:aX K "is_join_rest" K_)
  (F17:aX K "is_rest_of" Le)
  (F18:aX K "row_of" Lr)
  (F19:aX K "has_its_froms" KZ)
  (F20:aX K "is_row" Lf)
  (F21:aX K "has_its_names" K4)
  (F22:aX K "read_works" Lq)
  (F23:aX K "_law_cell_at" Kw)
  (F24:aX K "_law_cells" Ky)
  (F25:aX K "_law_drawn" Kz)
  (F26:aX K "_law_leaf" KD)
  (F27:aX K "_law_expr" HJ)
  (F28:aX K "_law_cond" HF)
  (F29:aX K "_law_name" KJ)
  (F30:aX K "_law_row" KN)
  (F31:aX K "_law_rows" KQ)
  (F32:aX K "_law_line" KH)
  (F33:aX K "_law_formless" KC)
  (F34:aX K "_law_misnamed" HN)
  (F35:aX K "_law_spoiled" KR)
  (F36:aX K "_law_told" HS)
  (F37:aX K "_law_by_base" HD)
  (D38:DefAt K mg "law" wZ ["_law_script"] f38 d38)
  (D39:IniAt K C.Expr "Expr.__init__" z7 ["self","words"] f39 d39)
  (D40:IniAt K C.Cond "Cond.__init__" z6 ["self","words"] f40 d40)
  :FnOk l.prog w K mg base nF Bl f38 d38 ["_law_script"] (zm K mg 1 wQ):=by
 have A0:aR l.prog w K mg base 1 "is_figures" 1 Ay:=(F0.ok X G zam (fun _=>zba (k:=0) T) :);have A1:aR l.prog w K mg base 2 "is_signed_figures" 1 Gp:=(F1.ok X G zaa (fun _=>zak (k:=1) T A0.up) :);have A2:aR l.prog w K mg base 2 "is_count" 1 Gg:=(F2.ok X G zaB (fun _=>zbP (k:=1) T A0.up) :);have A3:aR l.prog w K mg base 3 "is_number" 1 Gk:=(F3.ok X G zar (fun _=>zbl (k:=2) T A1.up) :);have A4:aR l.prog w K mg base 4 "is_leaf" 2 Gi:=(F4.ok X G zaT (fun _=>zb6 (k:=3) T A3.up) :);have B5:lV l.prog w K mg base 1 "take_needed" 2 CV:=(F5.okX X G zai (fun _=>za2 (k:=0) T) :);have A5:=B5.quiet;have B6:lV l.prog w K mg base 5 "check_words" 3 zR:=(F6.okX X G Z_ (fun _=>zaX (k:=4) T A4.up B5.up) :);have A6:=B6.quiet;have A39:vo l.prog w K mg base 1 C.Expr 2 Fz:=⟨_,_,_,D39.M,JD (b:=Jd) D39.F ZP (by decide) (zaI (k:=0) T),D39.b⟩;have B7:lV l.prog w K mg base 6 "read_expr" 2 Ba:=(F7.okX X G zau (fun _=>zbs (k:=5) (k0:=4) T rfl A39.up B6.up) :);have A7:=B7.quiet;have A40:vo l.prog w K mg base 1 C.Cond 2 Fy:=⟨_,_,_,D40.M,JD (b:=Jc) D40.F ZM (by decide) (zaG (k:=0) T),D40.b⟩;have B8:lV l.prog w K mg base 6 "read_cond" 1 A_:=(F8.okX X G zat (fun _=>zbt (k:=5) (k0:=4) T rfl A40.up B6.up) :);have A8:=B8.quiet;have A9:aR l.prog w K mg base 1 "is_name" 1 Gj:=(F9.ok X G zaQ (fun _=>zb3 (k:=0) T) :);have A10:aR l.prog w K mg base 3 "is_count_within" 3 vp:=(F10.ok X G zab (fun _=>zaq (k:=2) T A2.up) :);have A11:aR l.prog w K mg base 7 "is_expr" 2 zT:=(F11.ok X G zaS (fun _=>zct (k:=6) T B7.up) :);have A12:aR l.prog w K mg base 7 "is_cond" 1 CQ:=(F12.ok X G zaR (fun _=>zcf (k:=6) T B8.up) :);have A13:aR l.prog w K mg base 4 "is_share_rest" 1 Gn:=(F13.ok X G zag (fun _=>zaK (k:=3) T A10.up) :);have A14:aR l.prog w K mg base 4 "is_width_rest" 1 Az:=(F14.ok X G zad (fun _=>zaJ (k:=3) T A10.up) :);have A15:aR l.prog w K mg base 5 "is_slide_rest" 1 Gq:=(F15.ok X G zaf (fun _=>zaD (k:=4) T A10.up A14.up) :);have A16:aR l.prog w K mg base 8 "is_join_rest" 1 Gh:=(F16.ok X G zah (fun _=>zaN (k:=7) T A10.up A11.up) :);have A17:aR l.prog w K mg base 9 "is_rest_of" 2 Gm:=(F17.ok X G zao (fun _=>zbe (k:=8) T A11.up A12.up A13.up A14.up A15.up A16.up) :);have A18:aR l.prog w K mg base 1 "row_of" 1 Bb:=(F18.ok X G za7 (fun _=>zdK (k:=0) T) :);have A19:aR l.prog w K mg base 1 "has_its_froms" 1 Gd:=(F19.ok X G zae (fun _=>zaH (k:=0) T) :);have A20:aR l.prog w K mg base 10 "is_row" 1 CT:=(F20.ok X G za5 (fun _=>zdc (k:=9) T A9.up A17.up A18.up A19.up) :);have A21:aR l.prog w K mg base 1 "has_its_names" 2 Ge:=(F21.ok X G zac (fun _=>zaC (k:=0) T) :);have B22:lV l.prog w K mg base 11 "read_works" 1 tW:=(F22.okX X G zan (fun _=>zbc (k:=10) T (by decide) A18.up A20.up A21.up) :);have A22:=B22.quiet;have A23:aR l.prog w K mg base 1 "_law_cell_at" 2 wK:=(F23.ok X G ZR (fun _=>zbQ (k:=0) T) :);have A25:aR l.prog w K mg base 1 "_law_drawn" 2 xR:=(F25.ok X G ZW (fun _=>zc6 (k:=0) T) :);have A24:aR l.prog w K mg base 2 "_law_cells" 1 CN:=(F24.ok X G ZS (fun _=>zdg (k:=1) T A23.up A25.up) :);have A26:aR l.prog w K mg base 1 "_law_leaf" 2 yH:=(F26.ok X G Z1 (fun _=>zfO (k:=0) T) :);have A27:aR l.prog w K mg base 2 "_law_expr" 3 CP:=(F27.ok X G ZX (fun _=>zed (k:=1) T A26.up) :);have A28:aR l.prog w K mg base 2 "_law_cond" 2 FN:=(F28.ok X G ZV (fun _=>zeB (k:=1) T A26.up) :);have A29:aR l.prog w K mg base 1 "_law_name" 2 FW:=(F29.ok X G Z5 (fun _=>zft (k:=0) T) :);have A30:aR l.prog w K mg base 3 "_law_row" 3 FZ:=(F30.ok X G Z6 (fun _=>zhQ (k:=2) T A27.up A28.up A29.up) :);have A31:aR l.prog w K mg base 4 "_law_rows" 1 Ga:=(F31.ok X G Z7 (fun _=>zfz (k:=3) T A25.up A30.up) :);have A32:aR l.prog w K mg base 1 "_law_line" 1 zQ:=(F32.ok X G Z2 (fun _=>zeD (k:=0) T) :);have A33:aR l.prog w K mg base 1 "_law_formless" 3 FP:=(F33.ok X G Z0 (fun _=>zbm (k:=0) T) :);have A34:aR l.prog w K mg base 1 "_law_misnamed" 3 FQ:=(F34.ok X G Z4 (fun _=>zbu (k:=0) T) :);have A35:aR l.prog w K mg base 2 "_law_spoiled" 3 yI:=(F35.ok X G Z8 (fun _=>zbS (k:=1) T A32.up A33.up A34.up) :);have A36:aR l.prog w K mg base 12 "_law_told" 1 Gb:=(F36.ok X G Z9 (fun _=>zfJ (k:=11) T B22.up) :);have A37:aR l.prog w K mg base 12 "_law_by_base" 1 FJ:=(F37.ok X G ZQ (fun _=>zb2 (k:=11) T B22.up) :);exact JD (b:=Jj) D38.F zd4 (by decide) (zkV (k:=12) T A22.up A23.up A24.up A25.up A31.up A32.up A35.up A36.up A37.up)
def all_mk {l:W.OpenLaw}{w:World}{K:W.Frag}{h:Heap}{mg:Mgx}{fa:Addr}(X:K.In h)(G:h.Ns mainGlobals mg)(hfa:mg "law"=some (.ref fa))
  (j4:W.nsIn K mainGlobals "Cond"=some (some (.ref j6)))
  (j7:W.nsIn K mainGlobals "Expr"=some (some (.ref j8)))
  (j9:W.nsIn K mainGlobals "DamError"=some (some (.ref jc)))
  (jd:W.nsIn K mainGlobals "NoExpr"=some (some (.ref je)))
  (jf:W.nsIn K mainGlobals "NoName"=some (some (.ref jg)))
  (jh:W.nsIn K mainGlobals "NoText"=some (some (.ref ji)))
  (jj:W.plainGet K j6 Str.empty=true) (jm:W.hasDictIn K j6=true) (jo:W.plainOver K j6=true) (jq:W.findIn K (.ref j6) "__setattr__"=some (some (.builtin "object.__setattr__")))
  (jr:W.plainGet K j8 Str.empty=true) (jt:W.hasDictIn K j8=true) (ju:W.plainOver K j8=true) (jw:W.findIn K (.ref j8) "__setattr__"=some (some (.builtin "object.__setattr__")))
  (jx:W.findIn K (.ref j8) "parts"=some none)
  (jy:W.findIn K (.ref j6) "parts"=some none)
  (jz:aU K jc=true)
  (jA:aU K je=true)
  (jB:aU K jg=true)
  (jC:aU K ji=true)
  (jD:Ck K jc=true)
  (jE:W.findIn K (.ref jg) "__init__"=some (some (.ref jF))) (jG:K.lookup jF=some ⟨jH,jJ,.func (W.fnOf "__init__" "NoName.__init__" (m_ Dq) (j_ Dq) (aY Dq) .none jK jM jN jO jP jQ),jR⟩) (jT:W.codeIn K jP "NoName.__init__"=true) (jU:W.keepIn K (.ref jF)=true)
  (jV:Cq K jg jF=true) (jW:W.keepIn K (.ref jg)=true) (jX:sE K jg "at"=true) (jY:pX K jg=true)
  (jZ:W.findIn K (.ref ji) "__init__"=some (some (.ref qb))) (qe:K.lookup qb=some ⟨qg,qj,.func (W.fnOf "__init__" "NoText.__init__" (m_ Dr) (j_ Dr) (aY Dr) .none ql qm qp qt qu qw),qx⟩) (qy:W.codeIn K qu "NoText.__init__"=true) (qz:W.keepIn K (.ref qb)=true)
  (qC:Cq K ji qb=true) (qD:W.keepIn K (.ref ji)=true) (qF:sE K ji "at"=true) (qG:pX K ji=true)
  (qH:Iu K je=true) (qI:W.keepIn K (.ref je)=true) (qJ:pX K je=true)
  (qK:W.kitOne K (.ref je) (.ref je)=some true)
  (qL:W.kitOne K (.ref je) (.ref jg)=some false)
  (qM:W.kitOne K (.ref je) (.ref ji)=some false)
  (qN:W.kitOne K (.ref je) (.type "ValueError")=some true)
  (qO:W.kitOne K (.ref jg) (.ref je)=some false)
  (qP:W.kitOne K (.ref jg) (.ref jg)=some true)
  (qQ:W.kitOne K (.ref jg) (.ref ji)=some false)
  (qR:W.kitOne K (.ref jg) (.type "ValueError")=some true)
  (qT:W.kitOne K (.ref ji) (.ref je)=some false)
  (qU:W.kitOne K (.ref ji) (.ref jg)=some false)
  (qW:W.kitOne K (.ref ji) (.ref ji)=some true)
  (qX:W.kitOne K (.ref ji) (.type "ValueError")=some true)
  (qY:gn K je jc=true)
  (qZ:gn K je je=true)
  (o7:gn K jg jc=true)
  (o8:gn K jg jg=true)
  (o9:gn K ji jc=true)
  (oh:gn K ji ji=true)
  (ou:gn K je jg=false)
  (oA:gn K je ji=false)
  (oE:gn K jg ji=false)
  (oF:gn K ji jg=false)
  (F0:aX K "is_figures" K9)
  (F1:aX K "is_signed_figures" Lh)
  (F2:aX K "is_count" K6)
  (F3:aX K "is_number" Ld)
  (F4:aX K "is_leaf" La)
  (F5:aX K "take_needed" Ls)
  (F6:aX K "check_words" KY)
  (F7:aX K "read_expr" Lp)
  (F8:aX K "read_cond" Lk)
  (F9:aX K "is_name" Lb)
  (F10:aX K "is_count_within" K7)
  (F11:aX K "is_expr" K8)
  (F12:aX K "is_cond" K5)
  (F13:aX K "is_share_rest" Lg)
  (F14:aX K "is_width_rest" Lj)
  (F15:aX K "is_slide_rest" Li)
  (F16:aX K "is_join_rest" K_)
  (F17:aX K "is_rest_of" Le)
  (F18:aX K "row_of" Lr)
  (F19:aX K "has_its_froms" KZ)
  (F20:aX K "is_row" Lf)
  (F21:aX K "has_its_names" K4)
  (F22:aX K "read_works" Lq)
  (F23:aX K "_law_cell_at" Kw)
  (F24:aX K "_law_cells" Ky)
  (F25:aX K "_law_drawn" Kz)
  (F26:aX K "_law_leaf" KD)
  (F27:aX K "_law_expr" HJ)
  (F28:aX K "_law_cond" HF)
  (F29:aX K "_law_name" KJ)
  (F30:aX K "_law_row" KN)
  (F31:aX K "_law_rows" KQ)
  (F32:aX K "_law_line" KH)
  (F33:aX K "_law_formless" KC)
  (F34:aX K "_law_misnamed" HN)
  (F35:aX K "_law_spoiled" KR)
  (F36:aX K "_law_told" HS)
  (F37:aX K "_law_by_base" HD)
  (a38:W.nsIn K mainGlobals "law"=some (some (.ref f38))) (l38:K.lookup f38=some ⟨oc38,od38,.func (W.fnOf "law" "law" (m_ wZ) (j_ wZ) (aY wZ) .none kV38 dc38 pm38 an38 cd38 ct38),sl38⟩) (c38:W.codeIn K cd38 "law"=true) (k38:W.keepIn K (.ref f38)=true)
  (a39:W.findIn K (.ref j8) "__init__"=some (some (.ref f39))) (l39:K.lookup f39=some ⟨oc39,od39,.func (W.fnOf "__init__" "Expr.__init__" (m_ z7) (j_ z7) (aY z7) .none kV39 dc39 pm39 an39 cd39 ct39),sl39⟩) (c39:W.codeIn K cd39 "Expr.__init__"=true) (k39:W.keepIn K (.ref f39)=true)
  (n39:W.isFn K (.ref f39)=true)
  (w39:W.makesIn K j8=true) (y39:W.keepIn K (.ref j8)=true)
  (a40:W.findIn K (.ref j6) "__init__"=some (some (.ref f40))) (l40:K.lookup f40=some ⟨oc40,od40,.func (W.fnOf "__init__" "Cond.__init__" (m_ z6) (j_ z6) (aY z6) .none kV40 dc40 pm40 an40 cd40 ct40),sl40⟩) (c40:W.codeIn K cd40 "Cond.__init__"=true) (k40:W.keepIn K (.ref f40)=true)
  (n40:W.isFn K (.ref f40)=true)
  (w40:W.makesIn K j6=true) (y40:W.keepIn K (.ref j6)=true)
  (oG:W.nsIn K mainGlobals "any"=some none)
  (oH:W.nsIn K mainGlobals "len"=some none)
  (oJ:W.nsIn K mainGlobals "range"=some none)
  (oK:W.nsIn K mainGlobals "reversed"=some none)
  (oM:W.nsIn K mainGlobals "all"=some none)
  (oN:W.nsIn K mainGlobals "int"=some none)
  (oO:W.nsIn K mainGlobals "tuple"=some none)
  (oR:W.nsIn K mainGlobals "enumerate"=some none)
  (oU:W.nsIn K mainGlobals "str"=some none)
  (oV:W.nsIn K mainGlobals "min"=some none)
  (oW:W.nsIn K mainGlobals "list"=some none)
  (oX:W.nsIn K mainGlobals "isinstance"=some none)
  (oY:W.nsIn K mainGlobals "ValueError"=some none)
  (oZ:W.nsIn K mainGlobals "bool"=some none)
  (iu:W.nsIn K mainGlobals "ALL_LETTERS"=some (some (.ref iy))) (iz:K.lookup iy=some ⟨.type "tuple",iC,.seq #[.str "t" iD,.str "v" iG,.str "w" iH] iI,iJ⟩)
  (iK:W.nsIn K mainGlobals "FOLDS"=some (some (.ref iM))) (iQ:K.lookup iM=some ⟨.type "tuple",iR,.seq #[.str "sum" iT,.str "count" iU,.str "most" iV,.str "least" iW] iY,iZ⟩)
  (u9:W.nsIn K mainGlobals "NEEDS"=some (some (.ref uc)))
  (ud:K.lookup uc=some ⟨.type "dict",none,.dict #[⟨uf,.str "+" ug,.ref uh⟩,⟨uo,.str "-" uq,.ref ur⟩,⟨uw,.str "*" ux,.ref uy⟩,⟨uz,.str "least" uD,.ref uE⟩,⟨uF,.str "most" uG,.ref uH⟩,⟨uI,.str "<" uJ,.ref uK⟩,⟨uL,.str "=" uM,.ref uN⟩,⟨uO,.str "not" uP,.ref uQ⟩,⟨uR,.str "and" uT,.ref uU⟩,⟨uV,.str "or" uW,.ref uX⟩] uY, #[]⟩) (uZ:(uc==sysModules)=false)
  (v7:uf=hashStr w "+")
  (v8:K.lookup uh=some ⟨.type "tuple",v9,.seq #[.str "number" vA,.str "number" vB,.int 2 vC] vD,vG⟩)
  (vH:uo=hashStr w "-")
  (vI:K.lookup ur=some ⟨.type "tuple",vJ,.seq #[.str "number" vK,.str "number" vL,.int 2 vM] vN,vO⟩)
  (vP:uw=hashStr w "*")
  (vQ:K.lookup uy=some ⟨.type "tuple",vR,.seq #[.str "number" vU,.str "number" vV,.int 2 vW] vX,vY⟩)
  (vZ:uz=hashStr w "least")
  (rA:K.lookup uE=some ⟨.type "tuple",rB,.seq #[.str "number" rC,.str "number" rD,.int 2 rE] rF,rG⟩)
  (rH:uF=hashStr w "most")
  (rJ:K.lookup uH=some ⟨.type "tuple",rK,.seq #[.str "number" rM,.str "number" rN,.int 2 rO] rP,rQ⟩)
  (rR:uI=hashStr w "<")
  (rW:K.lookup uK=some ⟨.type "tuple",rY,.seq #[.str "truth" rZ,.str "number" c7,.int 2 cj] cu,cA⟩)
  (cB:uL=hashStr w "=")
  (cC:K.lookup uN=some ⟨.type "tuple",cD,.seq #[.str "truth" cF,.str "number" cG,.int 2 cH] cI,cJ⟩)
  (cL:uO=hashStr w "not")
  (cM:K.lookup uQ=some ⟨.type "tuple",cN,.seq #[.str "truth" cO,.str "truth" cP,.int 1 cQ] cR,cT⟩)
  (cU:uR=hashStr w "and")
  (cV:K.lookup uU=some ⟨.type "tuple",cW,.seq #[.str "truth" cX,.str "truth" cY,.int 2 cZ] bf,bw⟩)
  (bx:uV=hashStr w "or")
  (bA:K.lookup uX=some ⟨.type "tuple",bB,.seq #[.str "truth" bC,.str "truth" bF,.int 2 bG] bH,bI⟩)
  (bJ:W.nsIn K mainGlobals "FROMS"=some (some (.ref bK)))
  (bL:K.lookup bK=some ⟨.type "dict",none,.dict #[⟨bM,.str "in" bN,.int 0 bO⟩,⟨bQ,.str "keep" bR,.int 1 bT⟩,⟨bU,.str "turn" bV,.int 1 bW⟩,⟨bY,.str "share" bZ,.int 1 d7⟩,⟨d8,.str "pour" d9,.int 8 dh⟩,⟨dj,.str "fixed" dw,.int 1 dz⟩,⟨dB,.str "slide" dD,.int 1 dF⟩,⟨dG,.str "gap" dH,.int 1 dI⟩,⟨dJ,.str "join" dM,.int 2 dN⟩,⟨dO,.str "out" dR,.int 1 dU⟩] dW, #[]⟩) (dX:(bK==sysModules)=false)
  (dY:bM=hashStr w "in")
  (dZ:bQ=hashStr w "keep")
  (m5:bU=hashStr w "turn")
  (m6:bY=hashStr w "share")
  (m7:d8=hashStr w "pour")
  (m8:dj=hashStr w "fixed")
  (m9:dB=hashStr w "slide")
  (mj:dG=hashStr w "gap")
  (mq:dJ=hashStr w "join")
  (mz:dO=hashStr w "out")
  (mC:W.nsIn K mainGlobals "FIGURES"=some (some (.str "0123456789" mD)))
  (mF:W.nsIn K mainGlobals "MOST_FIGURES"=some (some (.int 20 mG)))
  (mH:W.nsIn K mainGlobals "LETTERS"=some (some (.str "abcdefghijklmnopqrstuvwxyz" mJ)))
  (mK:W.nsIn K mainGlobals "COND_LETTERS"=some (some (.str "tv" mL)))
  (mO:W.nsIn K mainGlobals "MOST_SIGNS"=some (some (.int 12 mQ)))
  (mR:W.nsIn K mainGlobals "MOST_SHARES"=some (some (.int 8 mU)))
  (mV:W.nsIn K mainGlobals "MOST_SPREAD"=some (some (.int 8 mW)))
  (mX:W.nsIn K mainGlobals "MOST_SPAN"=some (some (.int 1000000000000 mY)))
  :∃fd:FuncData,(∀(s:Shared) (v:Value),BindsTo s fd ⟨[v],[]⟩ [("_law_script",v)])/\∀base:Heap,K.In base->base.Ns mainGlobals mg->FnOk l.prog w K mg base nF Bl fa fd ["_law_script"] (HY K wQ):=by
 have e:=hfa.symm.trans (xbD X G a38);cases e;have T:Txt (w:=w) K mg ⟨j6,j8,jc,je,jg,ji⟩:=⟨by simp only[Ew,xaq,xbQ,xdr,forall_eq_or_imp,forall_eq];exact⟨xbo X G oG,xbo X G oH,xbo X G oJ,xbo X G oK,xbo X G oM,xbo X G oN,xbo X G oO,xbo X G oR,xbo X G oU,xbo X G oV,xbo X G oW,xbo X G oX,xbo X G oY,xbo X G oZ⟩,⟨xbD X G j4,jj,jm,jo,jq⟩,⟨xbD X G j7,jr,jt,ju,jw⟩,jx,jy,xbD X G j9,jz,xbD X G jd,jA,xbD X G jf,jB,xbD X G jh,jC,qH,qI,qJ,jW,jY,qD,qG,qK,qL,qM,qN,qO,qP,qQ,qR,qT,qU,qW,qX,qY,qZ,o7,o8,o9,oh,ou,oA,oE,oF,jD,jX,⟨_,_,jV,CJ jG jT jU,(CK (st:=Dq) jG jT jU).binds (ps:=["self","at"]) fun _ _ _ _ _ _ us hl=>match us,hl with | [_,_],_=>rfl⟩,qF,⟨_,_,qC,CJ qe qy qz,(CK (st:=Dr) qe qy qz).binds (ps:=["self","at"]) fun _ _ _ _ _ _ us hl=>match us,hl with | [_,_],_=>rfl⟩,⟨_,xbD X G iu,Qe (vs:=[(.str "t"),(.str "v"),(.str "w")]) (its:= #[.str "t" _,.str "v" _,.str "w" _]) (o:=⟨.type "tuple",_,.seq #[.str "t" _,.str "v" _,.str "w" _] _,_⟩) iz rfl rfl (by show 3<=sizeLine;decide) (.cons ⟨_,rfl⟩ (.cons ⟨_,rfl⟩ (.cons ⟨_,rfl⟩ (.nil)))) (fun _ _=>⟨_,_,rfl,rfl,⟨_,_,rfl,rfl,⟨_,_,rfl,rfl,rfl⟩⟩⟩)⟩,⟨_,xbD X G iK,Qe (vs:=[(.str "sum"),(.str "count"),(.str "most"),(.str "least")]) (its:= #[.str "sum" _,.str "count" _,.str "most" _,.str "least" _]) (o:=⟨.type "tuple",_,.seq #[.str "sum" _,.str "count" _,.str "most" _,.str "least" _] _,_⟩) iQ rfl rfl (by show 4<=sizeLine;decide) (.cons ⟨_,rfl⟩ (.cons ⟨_,rfl⟩ (.cons ⟨_,rfl⟩ (.cons ⟨_,rfl⟩ (.nil))))) (fun _ _=>⟨_,_,rfl,rfl,⟨_,_,rfl,rfl,⟨_,_,rfl,rfl,⟨_,_,rfl,rfl,rfl⟩⟩⟩⟩)⟩,⟨_,xbD X G u9,_,_,_,_,ud,⟨rfl,rfl,rfl⟩,rfl,.cons (v:=.ref uh) v7 rfl (xT v8) (.cons (v:=.ref ur) vH rfl (xT vI) (.cons (v:=.ref uy) vP rfl (xT vQ) (.cons (v:=.ref uE) vZ rfl (xT rA) (.cons (v:=.ref uH) rH rfl (xT rJ) (.cons (v:=.ref uK) rR rfl (xT rW) (.cons (v:=.ref uN) cB rfl (xT cC) (.cons (v:=.ref uQ) cL rfl (xT cM) (.cons (v:=.ref uU) cU rfl (xT cV) (.cons (v:=.ref uX) bx rfl (xT bA) (.nil)))))))))),by x_go,uZ⟩,⟨_,xbD X G bJ,_,_,_,_,bL,⟨rfl,rfl,rfl⟩,rfl,.cons (v:=(.int 0)) dY ⟨_,rfl⟩ (fun _ _=>rfl) (.cons (v:=(.int 1)) dZ ⟨_,rfl⟩ (fun _ _=>rfl) (.cons (v:=(.int 1)) m5 ⟨_,rfl⟩ (fun _ _=>rfl) (.cons (v:=(.int 1)) m6 ⟨_,rfl⟩ (fun _ _=>rfl) (.cons (v:=(.int 8)) m7 ⟨_,rfl⟩ (fun _ _=>rfl) (.cons (v:=(.int 1)) m8 ⟨_,rfl⟩ (fun _ _=>rfl) (.cons (v:=(.int 1)) m9 ⟨_,rfl⟩ (fun _ _=>rfl) (.cons (v:=(.int 1)) mj ⟨_,rfl⟩ (fun _ _=>rfl) (.cons (v:=(.int 2)) mq ⟨_,rfl⟩ (fun _ _=>rfl) (.cons (v:=(.int 1)) mz ⟨_,rfl⟩ (fun _ _=>rfl) (.nil)))))))))),by x_go,dX⟩,⟨_,xbD X G mC⟩,⟨_,xbD X G mF⟩,⟨_,xbD X G mH⟩,⟨_,xbD X G mK⟩,⟨_,xbD X G mO⟩,⟨_,xbD X G mR⟩,⟨_,xbD X G mV⟩,⟨_,xbD X G mX⟩⟩
 have D38:DefAt K mg "law" wZ ["_law_script"] _ _:=⟨xbD X G a38,CJ l38 c38 k38,(CK (st:=wZ) l38 c38 k38).binds (ps:=["_law_script"]) fun _ _ _ _ _ _ us hl=>match us,hl with | [_],_=>rfl⟩
 have D39:IniAt K j8 "Expr.__init__" z7 ["self","words"] _ _:=⟨⟨w39,a39,n39,y39⟩,CJ l39 c39 k39,(CK (st:=z7) l39 c39 k39).binds (ps:=["self","words"]) fun _ _ _ _ _ _ us hl=>match us,hl with | [_,_],_=>rfl⟩
 have D40:IniAt K j6 "Cond.__init__" z6 ["self","words"] _ _:=⟨⟨w40,a40,n40,y40⟩,CJ l40 c40 k40,(CK (st:=z6) l40 c40 k40).binds (ps:=["self","words"]) fun _ _ _ _ _ _ us hl=>match us,hl with | [_,_],_=>rfl⟩
 refine⟨W.fnOf "law" "law" (m_ wZ) (j_ wZ) (aY wZ) .none kV38 dc38 pm38 an38 cd38 ct38,fun s v=>.of_eq rfl,fun base _ _=>zhU ?_⟩;exact ziv X G T F0 F1 F2 F3 F4 F5 F6 F7 F8 F9 F10 F11 F12 F13 F14 F15 F16 F17 F18 F19 F20 F21 F22 F23 F24 F25 F26 F27 F28 F29 F30 F31 F32 F33 F34 F35 F36 F37 D38 D39 D40
end My
open PySem PySem.W PyProof.Rows
set_option maxRecDepth 100000 in
set_option maxHeartbeats 0 in
theorem PySem.Challenge.cw_rowdam_k15_rows_refused_holds : PySem.Challenge.rw_rowdam_k15_rows_refused.Holds := by
 w_on;refine HQ.two "special-get-raises" My.he My.hAf My.hBf My.hAt My.hBt ?_
 k_fill
 refine E3.zeN (l:=PySem.Challenge.rw_rowdam_k15_rows_refused) (k:=My.Bl) (g:=My.wQ) (x:="_law_script") rfl rfl ⟨rfl,by decide,by decide⟩ (fun w h Y=>PySem.W.kIn_of Y) ?F My.ze0
 case F=>
  intro w mg fa h KX G hmg
  refine' My.all_mk KX G hmg ?j4 ?j7 ?j9 ?jd ?jf ?jh ?jj ?jm ?jo ?jq ?jr ?jt ?ju ?jw ?jx ?jy ?jz ?jA ?jB ?jC ?jD ?jE ?jG ?jT ?jU ?jV ?jW ?jX ?jY ?jZ ?qe ?qy ?qz ?qC ?qD ?qF ?qG ?qH ?qI ?qJ ?qK ?qL ?qM ?qN ?qO ?qP ?qQ ?qR ?qT ?qU ?qW ?qX ?qY ?qZ ?o7 ?o8 ?o9 ?oh ?ou ?oA ?oE ?oF ?F0 ?F1 ?F2 ?F3 ?F4 ?F5 ?F6 ?F7 ?F8 ?F9 ?F10 ?F11 ?F12 ?F13 ?F14 ?F15 ?F16 ?F17 ?F18 ?F19 ?F20 ?F21 ?F22 ?F23 ?F24 ?F25 ?F26 ?F27 ?F28 ?F29 ?F30 ?F31 ?F32 ?F33 ?F34 ?F35 ?F36 ?F37 ?a38 ?l38 ?c38 ?k38 ?a39 ?l39 ?c39 ?k39 ?n39 ?w39 ?y39 ?a40 ?l40 ?c40 ?k40 ?n40 ?w40 ?y40 ?oG ?oH ?oJ ?oK ?oM ?oN ?oO ?oR ?oU ?oV ?oW ?oX ?oY ?oZ ?iu ?iz ?iK ?iQ ?u9 ?ud ?uZ ?v7 ?v8 ?vH ?vI ?vP ?vQ ?vZ ?rA ?rH ?rJ ?rR ?rW ?cB ?cC ?cL ?cM ?cU ?cV ?bx ?bA ?bJ ?bL ?dX ?dY ?dZ ?m5 ?m6 ?m7 ?m8 ?m9 ?mj ?mq ?mz ?mC ?mF ?mH ?mK ?mO ?mR ?mV ?mX
  (case j4 |j7 |j9 |jd |jf |jh |jj |jm |jo |jq |jr |jt |ju |jw |jx |jy=>k_is);(case jz |jA |jB |jC=>kernel_rfl);(case jD=>refine E3.zfX ?_ ?_ ?_<;>k_is);(case jE |jG |jT |jU=>k_is);(case jV=>kernel_rfl);(case jW=>k_is);(case jX=>refine E3.zdN ?_ ?_ (E3.Ir ?_ ?_ ?_) ?_ ?_<;>k_is);(case jY=>refine E3.Ur (E3.Ir ?_ ?_ ?_) ?_ ?_ ?_ ?_ ?_<;>k_is);(case jZ |qe |qy |qz=>k_is);(case qC=>kernel_rfl);(case qD=>k_is);(case qF=>refine E3.zdN ?_ ?_ (E3.Ir ?_ ?_ ?_) ?_ ?_<;>k_is);(case qG=>refine E3.Ur (E3.Ir ?_ ?_ ?_) ?_ ?_ ?_ ?_ ?_<;>k_is);(case qH=>kernel_rfl);(case qI=>k_is);(case qJ=>refine E3.Ur (E3.Ir ?_ ?_ ?_) ?_ ?_ ?_ ?_ ?_<;>k_is);(case qK |qL |qM |qN |qO |qP |qQ |qR |qT |qU |qW |qX |qY |qZ |o7 |o8 |o9 |oh |ou |oA |oE |oF=>kernel_rfl);(case a38 |l38 |c38 |k38 |a39 |l39 |c39 |k39=>k_is);(case n39 |w39=>kernel_rfl);(case y39 |a40 |l40 |c40 |k40=>k_is);(case n40 |w40=>kernel_rfl);(case y40 |oG |oH |oJ |oK |oM |oN |oO |oR |oU |oV |oW |oX |oY |oZ |iu |iz |iK |iQ |u9 |ud=>k_is);(case uZ=>first |decide +kernel |kernel_rfl);(case v7=>rfl);(case v8=>k_is);(case vH=>rfl);(case vI=>k_is);(case vP=>rfl);(case vQ=>k_is);(case vZ=>rfl);(case rA=>k_is);(case rH=>rfl);(case rJ=>k_is);(case rR=>rfl);(case rW=>k_is);(case cB=>rfl);(case cC=>k_is);(case cL=>rfl);(case cM=>k_is);(case cU=>rfl);(case cV=>k_is);(case bx=>rfl);(case bA |bJ |bL=>k_is);(case dX=>first |decide +kernel |kernel_rfl);(case dY |dZ |m5 |m6 |m7 |m8 |m9 |mj |mq |mz=>rfl);(case mC |mF |mH |mK |mO |mR |mV |mX=>k_is);all_goals (refine' E3.aX.mk ?a ?l ?c ?k;(case a=>k_is);(case l=>k_is);(case c=>k_is);(case k=>k_is))
